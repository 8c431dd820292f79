import PyProof.Rows.All
import Wide.All
import OpenK.AllK
import Wide.FinOn
import PyProof.EqAt
import PyProof.EqKinds
import PyProof.TupleCall
import Lean
import PySem.Challenge.RW_foretell_k36_pressing_refused
set_option Elab.async false
set_option linter.all false
set_option maxRecDepth 100000
set_option maxHeartbeats 4000000
namespace L2
open PySem PySem.Spec PyProof.Rows
abbrev Key:=Sum Int Str
def yjy:Key->Value->Bool
 | .inl k,v=>Value.isInt k v
 | .inr x,v=>Value.isStrOf x v
def vd3 (w:World):Key->Int
 | .inl k=>hashInt k
 | .inr x=>hashStr w x
theorem xa:∀ {k:Key} {v:Value},yjy k v=true->(∃ i t,k=Sum.inl i/\v=Value.int i t)\/(∃ x t,k=Sum.inr x/\v=Value.str x t)
 | .inl i,v,h=>by
  obtain ⟨t,e⟩:=Value.isInt_shape (k:=i) (v:=v) h
  exact .inl ⟨i,t,rfl,e⟩
 | .inr x,v,h=>by
  obtain ⟨t,e⟩:=Value.isStrOf_shape (x:=x) (v:=v) h
  exact .inr ⟨x,t,rfl,e⟩
theorem yk8 (i:Int) (t:Tok):yjy (.inl i) (.int i t)=true:=by simp [yjy,Value.isInt]
theorem ylq (x:Str) (t:Tok):yjy (.inr x) (.str x t)=true:=by simp [yjy,Value.isStrOf]
theorem ywe (a b:Int):decide ((Sum.inl a:Key)=Sum.inl b)=(a == b):=by
 by_cases e:a=b
 ·subst e; simp
 ·have h:¬ (Sum.inl a:Key)=Sum.inl b:=fun q=>e (Sum.inl.inj q)
  rw [decide_eq_false h]
  exact (beq_eq_false_iff_ne.mpr e).symm
theorem yxx (a b:Str):decide ((Sum.inr a:Key)=Sum.inr b)=decide (a=b):=by
 by_cases e:a=b
 ·subst e; simp
 ·have h:¬ (Sum.inr a:Key)=Sum.inr b:=fun q=>e (Sum.inr.inj q)
  rw [decide_eq_false h,decide_eq_false e]
theorem yw8 (a:Int) (b:Str):decide ((Sum.inl a:Key)=Sum.inr b)=false:=decide_eq_false (fun q=>nomatch q)
theorem yxn (a:Str) (b:Int):decide ((Sum.inr a:Key)=Sum.inl b)=false:=decide_eq_false (fun q=>nomatch q)
def ug (prog:Program) (w:World):PySem.KeyKind prog w Key where
 is:=yjy
 hash:=vd3 w
 inj:=fun v a b ha hb=>by
  rcases xa ha with ⟨i,t,rfl,rfl⟩ | ⟨x,t,rfl,rfl⟩
  ·rcases xa hb with ⟨j,u,rfl,e⟩ | ⟨y,u,rfl,e⟩
   ·injection e with e1 _; rw [e1]
   ·exact nomatch e
  ·rcases xa hb with ⟨j,u,rfl,e⟩ | ⟨y,u,rfl,e⟩
   ·exact nomatch e
   ·injection e with e1 _; rw [e1]
 byValue:=fun k v h=>by
  rcases xa h with ⟨i,t,rfl,rfl⟩ | ⟨x,t,rfl,rfl⟩ <;> rfl
 pyHash:=fun hv h=>by
  rcases xa hv with ⟨i,t,rfl,rfl⟩ | ⟨x,t,rfl,rfl⟩
  ·exact wpAny_pyHash_int h
  ·exact wpAny_pyHash_str h
 eqBool:=fun hu hv h=>by
  rcases xa hu with ⟨i,t,rfl,rfl⟩ | ⟨x,t,rfl,rfl⟩
  ·rcases xa hv with ⟨j,u,rfl,rfl⟩ | ⟨y,u,rfl,rfl⟩
   ·rw [ywe] at h; exact wpAny_eqBool_int h
   ·rw [yw8] at h; exact SeqAt.EqAt.int_str i t y u _ _ _ _ h
  ·rcases xa hv with ⟨j,u,rfl,rfl⟩ | ⟨y,u,rfl,rfl⟩
   ·rw [yxn] at h; exact SeqAt.EqAt.str_int x t j u _ _ _ _ h
   ·rw [yxx] at h; exact wpAny_eqBool_str h
 «strs»:=fun k x t v h=>by
  rcases xa h with ⟨i,u,rfl,e⟩ | ⟨y,u,rfl,e⟩
  ·exact nomatch e
  ·injection e with e1 _
   subst e1
   cases v <;> rfl
theorem ygk (prog:Program) (w:World) (i:Int) (t:Tok):(ug prog w).is (.inl i) (.int i t)=true:=yk8 i t
theorem yf8 (prog:Program) (w:World) (x:Str) (t:Tok):(ug prog w).is (.inr x) (.str x t)=true:=ylq x t
end L2
namespace L2
open PySem PySem.Spec PyProof.Rows
inductive V where
 | non | bl (b:Bool) | int (i:Int) | str (x:Str) | byt (b:Array UInt8) | flt (b:UInt64) | ref (a:Addr) | ty (n:String)
 deriving DecidableEq
def xl:V->Value->Prop
 | .non,u=>u=Value.none
 | .bl b,u=>u=Value.bool b
 | .int i,u=>∃ t,u=Value.int i t
 | .str x,u=>∃ t,u=Value.str x t
 | .byt b,u=>∃ t,u=Value.bytes b t
 | .flt b,u=>∃ t,u=Value.float b t
 | .ref a,u=>u=Value.ref a
 | .ty n,u=>u=Value.type n
abbrev wz:List V->List Value->Prop:=Paired xl
theorem wz.length {xs:List V} {us:List Value} (r:wz xs us):xs.length=us.length:=Paired.length r
theorem wz.get:∀ {xs:List V} {us:List Value} {i:Nat} {x:V},wz xs us->xs[i]?=some x->∃ u,us[i]?=some u/\xl x u
 | _,_,_,_,.nil,e=>by simp at e
 | _,_,0,_,.cons r _,e=>by simp at e; subst e; exact ⟨_,rfl,r⟩
 | _,_,i+1,x,.cons _ t,e=>by
  obtain ⟨u,h1,h2⟩:=wz.get (i:=i) (x:=x) t (by simpa using e)
  exact ⟨u,by simpa using h1,h2⟩
theorem wz.set {x:V} {u:Value} (r:xl x u):∀ {xs:List V} {us:List Value} (i:Nat),wz xs us->wz (xs.set i x) (us.set i u)
 | _,_,_,.nil=>.nil
 | _,_,0,.cons _ t=>.cons r t
 | _,_,i+1,.cons q t=>.cons q (wz.set r i t)
theorem wz.append:∀ {xs ys:List V} {us ws:List Value},wz xs us->wz ys ws->wz (xs++ys) (us++ws)
 | _,_,_,_,.nil,s=>s
 | _,_,_,_,.cons r t,s=>.cons r (wz.append t s)
theorem wz.take:∀ {xs:List V} {us:List Value} (n:Nat),wz xs us->wz (xs.take n) (us.take n)
 | _,_,0,_=>.nil
 | _,_,_+1,.nil=>.nil
 | _,_,n+1,.cons r t=>.cons r (wz.take n t)
theorem wz.drop:∀ {xs:List V} {us:List Value} (n:Nat),wz xs us->wz (xs.drop n) (us.drop n)
 | _,_,0,r=>r
 | _,_,_+1,.nil=>.nil
 | _,_,n+1,.cons _ t=>wz.drop n t
def yfv:Option V->Option Value->Prop
 | some v,some u=>xl v u
 | none,none=>True
 | _,_=>False
def KV {κ:Type}:List (κ × V)->List (κ × Value)->Prop:=Paired fun (p:κ × V) (q:κ × Value)=>p.1=q.1/\xl p.2 q.2
def kV:Key->V
 | .inl i=>.int i
 | .inr x=>.str x
inductive HO where
 | lst (xs:List V)
 | tup (xs:List V)
 | dK (kvs:List (Key × V)) | dT (kvs:List (List Key × V))
 | set (S:Int->Bool) (n:Nat)
 | ins (C dx:Addr) (fs:List (Str × V))
 | own (x:Addr)
 | xd (fs:List (Str × V))
 | met (f x:Addr)
 | rng (lo hi:Int)
 | frz (o:Obj) (u:HO)
 | tbl (ps:Array Value)
 | ext (φ:Heap->Prop)
abbrev Hp:=Addr->Option HO
def upd (H:Hp) (a:Addr) (o:HO):Hp:=fun b=>if b=a then some o else H b
theorem yc {H:Hp} {a:Addr} {o:HO}:upd H a o a=some o:=by unfold upd; rw [if_pos rfl]
theorem yp {H:Hp} {a b:Addr} {o:HO} (h:b≠a):upd H a o b=H b:=by unfold upd; rw [if_neg h]
theorem uh {H:Hp} {a b:Addr} {o u:HO} (h:H a=some o) (h':H b=some u) (d:o≠u):a≠b:=by
 intro e; subst e; rw [h] at h'; exact d (Option.some.inj h')
theorem ye {H:Hp} {a b:Addr} {o:HO} (h:H a=some o) (h':H b=none):a≠b:=by
 intro e; subst e; rw [h] at h'; cases h'
section
variable (P:Program) (w:World)
def xp (H:Hp) (h:Heap) (a:Addr):HO->Prop
 | .lst xs=>xs.length <= sizeLine/\∃ (its:List Value) (n:Nat),wz xs its/\h.get? a=some { cls:=.type "list",data:=.seq its.toArray n }
 | .tup xs=>xs.length <= sizeLine/\∃ its:List Value,wz xs its/\IsTup h a its.toArray
 | .dK kvs=>kvs.length <= sizeLine/\(a == sysModules)=false/\∃ vs,KV kvs vs/\h.DictOf (ug P w) a vs
 | .dT kvs=>kvs.length <= sizeLine/\(a == sysModules)=false/\∃ xs:List (List Key × Addr × Value),
   Paired (fun (p:List Key × V) (q:List Key × Addr × Value)=>p.1=q.1/\H q.2.1=some (.tup (p.1.map kV))/\xl p.2 q.2.2) kvs xs /\
   ∃ o es ep,h.get? a=some o/\o.ExactDict/\o.data=.dict es ep/\es.toList=xs.map (entryOfKey (tupleKind (ug P w)))/\(xs.map (·.1)).Nodup
 | .set S n=>h.SetOf (intKind P w) a S n
 | .ins C dx fs=>H dx=some (.own a)/\fs.length <= 1000/\dx≠a/\h.get? a=some (W.instObj C dx) /\
   ∃ mA,h.Ns1 dx mA/\(∀ f,yfv (fs.lookup f) (mA f))/\PySem.Within mA (fs.map (·.1))
 | .own _=>∃ o,h.get? a=some o
 | .xd fs=>∃ mA,h.Ns1 a mA/\∀ f,yfv (fs.lookup f) (mA f)
 | .rng lo hi=>∃ t u v,h.get? a=some { cls:=.type "range",data:=.fields #[.int lo t,.int hi u,.int 1 v] }
 | .frz o u=>h.get? a=some o/\xp H h a u
 | .tbl ps=>h.get? a=some { cls:=.none,data:=.fields ps }
 | .met f x=>h.get? a=some (W.methodObj (.ref f) (.ref x))
 | .ext φ=>φ h/\(∃ o,h.get? a=some o)/\∀ h1 h2:Heap,φ h1->(∀ o,h1.get? a=some o->h2.get? a=some o)->φ h2
def HOk (H:Hp) (h:Heap):Prop:=∀ a o,H a=some o->xp P w H h a o
end
section
variable {P:Program} {w:World} {H H':Hp} {h h':Heap} {a:Addr} {o:HO}
theorem xp.lt (x:xp P w H h a o):a < h.objs.size:=by
 cases o with
 | lst xs=>obtain ⟨_,_,_,_,e⟩:=x; exact Heap.lt_size e
 | tup xs=>obtain ⟨_,_,_,p⟩:=x; exact p.lt
 | dK kvs=>obtain ⟨_,_,_,_,o,_,_,e,_⟩:=x; exact Heap.lt_size e
 | dT kvs=>obtain ⟨_,_,_,_,o,_,_,e,_⟩:=x; exact Heap.lt_size e
 | set S n=>obtain ⟨o,_,_,_,e,_⟩:=x; exact Heap.lt_size e
 | ins C dx fs=>obtain ⟨_,_,_,e,_⟩:=x; exact Heap.lt_size e
 | own y=>obtain ⟨_,e⟩:=x; exact Heap.lt_size e
 | xd fs=>obtain ⟨_,⟨_,_,_,e,_⟩,_⟩:=x; exact Heap.lt_size e
 | rng lo hi=>obtain ⟨_,_,_,e⟩:=x; exact Heap.lt_size e
 | frz ob u=>obtain ⟨e,_⟩:=x; exact Heap.lt_size e
 | tbl ps=>exact Heap.lt_size (show h.get? a=some _ from x)
 | met f y=>exact Heap.lt_size (show h.get? a=some _ from x)
 | ext φ=>obtain ⟨_,⟨_,e⟩,_⟩:=x; exact Heap.lt_size e
theorem Paired.mapP {α β:Type} {F G:α->β->Prop}:∀ {l₁:List α} {l₂:List β},Paired F l₁ l₂->(∀ a b,F a b->G a b)->Paired G l₁ l₂
 | _,_,.nil,_=>.nil
 | _,_,.cons r t,f=>.cons (f _ _ r) (Paired.mapP t f)
theorem xp.stay (x:xp P w H h a o) (k:∀ b u,(b=a\/H b=some (.own a))->h.get? b=some u->h'.get? b=some u)
  (ho:∀ b,H b=some (.own a)->H' b=some (.own a)) (ht:∀ b xs,H b=some (.tup xs)->H' b=some (.tup xs)):xp P w H' h' a o:=by
 induction o with
 | lst xs=>obtain ⟨z,its,n,r,e⟩:=x; exact ⟨z,its,n,r,k _ _ (.inl rfl) e⟩
 | tup xs=>obtain ⟨z,its,r,ob,e,c⟩:=x; exact ⟨z,its,r,ob,k _ _ (.inl rfl) e,c⟩
 | dK kvs=>obtain ⟨z,y,vs,r,ob,es,ep,e,c⟩:=x; exact ⟨z,y,vs,r,ob,es,ep,k _ _ (.inl rfl) e,c⟩
 | dT kvs =>
  obtain ⟨z,y,xs,r,ob,es,ep,e,c⟩:=x
  exact ⟨z,y,xs,Paired.mapP r fun p q z=>⟨z.1,ht _ _ z.2.1,z.2.2⟩,ob,es,ep,k _ _ (.inl rfl) e,c⟩
 | set S n=>obtain ⟨ob,es,ep,t,e,c⟩:=x; exact ⟨ob,es,ep,t,k _ _ (.inl rfl) e,c⟩
 | ins C dx fs =>
  obtain ⟨d,z,ne,e,mA,⟨od,es,ep,e2,c⟩,r⟩:=x
  exact ⟨ho _ d,z,ne,k _ _ (.inl rfl) e,mA,⟨od,es,ep,k _ _ (.inr d) e2,c⟩,r⟩
 | own y=>obtain ⟨ob,e⟩:=x; exact ⟨ob,k _ _ (.inl rfl) e⟩
 | xd fs=>obtain ⟨mA,⟨od,es,ep,e,c⟩,r⟩:=x; exact ⟨mA,⟨od,es,ep,k _ _ (.inl rfl) e,c⟩,r⟩
 | rng lo hi=>obtain ⟨t,u,v,e⟩:=x; exact ⟨t,u,v,k _ _ (.inl rfl) e⟩
 | frz ob u ih=>obtain ⟨e,q⟩:=x; exact ⟨k _ _ (.inl rfl) e,ih q⟩
 | tbl ps =>
  have e:h.get? a=some { cls:=.none,data:=.fields ps }:=x
  show h'.get? a=some { cls:=.none,data:=.fields ps }
  exact k a _ (.inl rfl) e
 | met f y =>
  have e:h.get? a=some (W.methodObj (.ref f) (.ref y)):=x
  show h'.get? a=some (W.methodObj (.ref f) (.ref y))
  exact k a _ (.inl rfl) e
 | ext φ=>obtain ⟨p,⟨o,e⟩,st⟩:=x; exact ⟨st _ _ p fun o q=>k _ _ (.inl rfl) q,⟨o,k _ _ (.inl rfl) e⟩,st⟩
theorem HOk.lt (x:HOk P w H h) (e:H a=some o):a < h.objs.size:=(x a o e).lt
theorem HOk.fresh (x:HOk P w H h) (e:h.objs.size <= a):H a=none:=by
 cases q:H a with
 | none=>rfl
 | some u=>exact absurd (Nat.lt_of_lt_of_le (x.lt q) e) (Nat.lt_irrefl _)
theorem HOk.kept (x:HOk P w H h) (k:∀ b u,h.get? b=some u->h'.get? b=some u):HOk P w H h':=fun a o e =>
 (x a o e).stay (fun b u _ q=>k b u q) (fun _ q=>q) fun _ _ q=>q
theorem HOk.laid (x:HOk P w H h) (k:∀ b u,h.get? b=some u->h'.get? b=some u) (hp:h.objs.size <= a) (new:xp P w (upd H a o) h' a o):HOk P w (upd H a o) h':=fun b u e=>by
 have hn:=x.fresh hp
 by_cases hb:b=a
 ·subst hb; rw [yc] at e; cases e; exact new
 ·rw [yp hb] at e
  exact (x b u e).stay (fun c v _ q=>k c v q) (fun c q=>by rw [yp (ye q hn)]; exact q) fun c xs q=>by rw [yp (ye q hn)]; exact q
end
def Rd (H:Hp) (a:Addr) (u:HO):Prop:=H a=some u\/∃ o,H a=some (.frz o u)
theorem Rd.ok {P:Program} {w:World} {H:Hp} {h:Heap} {a:Addr} {u:HO} (r:Rd H a u) (x:HOk P w H h):xp P w H h a u:=by
 rcases r with r | ⟨o,r⟩
 ·exact x a u r
 ·obtain ⟨_,q⟩:=x a _ r
  exact q
def Mut:Option HO->Prop
 | some (.lst _)=>True
 | some (.dK _)=>True
 | some (.dT _)=>True
 | some (.set _ _)=>True
 | some (.ins _ _ _)=>True
 | some (.ext _)=>True
 | _=>False
section
variable {P:Program} {w:World} {H:Hp} {h h':Heap} {x e:Addr} {o':HO}
theorem HOk.write (ok:HOk P w H h) (mu:Mut (H x)) (he:e=x\/H e=some (.own x)) (k:∀ b u,b≠e->h.get? b=some u->h'.get? b=some u) (heo:∃ u,h'.get? e=some u)
  (new:xp P w (upd H x o') h' x o'):HOk P w (upd H x o') h':=fun b u q=>by
 have nown:∀ c y,H c=some (.own y)->c≠x:=fun c y r z=>by subst z; rw [r] at mu; exact mu
 have ntup:∀ c xs,H c=some (.tup xs)->c≠x:=fun c xs r z=>by subst z; rw [r] at mu; exact mu
 by_cases hb:b=x
 ·subst hb; rw [yc] at q; cases q; exact new
 ·rw [yp hb] at q
  by_cases hbe:b=e
  ·have q':H b=some (.own x):=by
    rcases he with z | z
    ·exact absurd (hbe.trans z) hb
    ·rw [hbe]; exact z
   rw [q] at q'; cases q'
   obtain ⟨v,hv⟩:=heo
   exact ⟨v,by rw [hbe]; exact hv⟩
  ·refine (ok b u q).stay (fun c v hc r=>k c v ?_ r) (fun c r=>by rw [yp (nown c b r)]; exact r) fun c xs r=>by rw [yp (ntup c xs r)]; exact r
   rcases hc with rfl | hc
   ·exact hbe
   ·rintro rfl
    rcases he with z | z
    ·exact nown c b hc z
    ·rw [hc] at z; cases z; exact hb rfl
end
structure Un (fs ex:List Addr) (H H':Hp) (h h':Heap):Prop where
 keep:∀ b o,h.get? b=some o->H b=none->b∉fs->b∉ex->h'.get? b=some o
 slot:∀ b o,h.get? b=some o->H b=none->b∈fs->b∉ex->∃ sl,h'.get? b=some { o with slots:=sl }
 free:∀ b o,h.get? b=some o->H b=none->b∉ex->H' b=none
 there:∀ b o,h.get? b=some o->b∉ex->∃ o',h'.get? b=some o'
 tups:∀ b xs,H b=some (.tup xs)->H' b=some (.tup xs)
 frzs:∀ b o u,H b=some (.frz o u)->H' b=some (.frz o u)
 tbls:∀ b ps,H b=some (.tbl ps)->∃ more,H' b=some (.tbl (ps++more))
section
variable {fs fs' ex ex':List Addr} {H H1 H2:Hp} {h h1 h2 h':Heap} {a x e:Addr} {o:HO}
theorem Un.any (u:Un fs ex H H1 h h1) {b:Addr} {ob:Obj} (q:h.get? b=some ob) (n:H b=none) (hx:b∉ex):∃ sl,h1.get? b=some { ob with slots:=sl }:=by
 by_cases hb:b∈fs
 ·exact u.slot b ob q n hb hx
 ·exact ⟨ob.slots,u.keep b ob q n hb hx⟩
theorem Un.kept (k:∀ b u,h.get? b=some u->h'.get? b=some u):Un fs ex H H h h' :=
 ⟨fun b ob q _ _ _=>k b ob q,fun b ob q _ _ _=>⟨ob.slots,k b ob q⟩,fun _ _ _ n _=>n,fun b ob q _=>⟨ob,k b ob q⟩,fun _ _ q=>q,fun _ _ _ q=>q,fun _ ps q=>⟨#[],by rw [q]; simp⟩⟩
theorem Un.refl:Un fs ex H H h h:=Un.kept fun _ _ q=>q
theorem Un.laid (k:∀ b u,h.get? b=some u->h'.get? b=some u) (hp:h.objs.size <= a) (hn:H a=none):Un fs ex H (upd H a o) h h' where
 keep:=fun b u q _ _ _=>k b u q
 slot:=fun b u q _ _ _=>⟨u.slots,k b u q⟩
 free:=fun b u q n _=>by rw [yp (Nat.ne_of_lt (Nat.lt_of_lt_of_le (Heap.lt_size q) hp))]; exact n
 there:=fun b u q _=>⟨u,k b u q⟩
 tups:=fun b xs q=>by rw [yp (ye q hn)]; exact q
 frzs:=fun b u xs q=>by rw [yp (ye q hn)]; exact q
 tbls:=fun b ps q=>⟨#[],by rw [yp (ye q hn),q]; simp⟩
theorem Un.write (mu:Mut (H x)) (he:e=x\/H e=some (.own x)) (k:∀ b u,b≠e->h.get? b=some u->h'.get? b=some u) (heo:∃ u,h'.get? e=some u):Un fs ex H (upd H x o) h h':=by
 have hx:∀ b,H b=none->b≠x:=fun b n z=>by subst z; rw [n] at mu; exact mu
 have hb:∀ b,H b=none->b≠e:=fun b n z=>by
  subst z
  rcases he with r | r
  ·exact hx b n r
  ·rw [n] at r; cases r
 have hm:∀ b u,H b=some u->¬ Mut (some u)->b≠x:=fun b u q nm z=>by subst z; rw [q] at mu; exact nm mu
 refine ⟨fun b u q n _ _=>k b u (hb b n) q,fun b u q n _ _=>⟨u.slots,k b u (hb b n) q⟩,fun b u q n _=>by rw [yp (hx b n)]; exact n,fun b u q _=>?_,
  fun b xs q=>by rw [yp (hm b _ q fun z=>z)]; exact q,fun b u xs q=>by rw [yp (hm b _ q fun z=>z)]; exact q,fun b ps q=>⟨#[],by rw [yp (hm b _ q fun z=>z),q]; simp⟩⟩
 by_cases hbe:b=e
 ·subst hbe; exact heo
 ·exact ⟨u,k b u hbe q⟩
end
def trk (h:Heap) (H:Hp):List Addr:=(List.range h.objs.size).filter fun a=>(H a).isSome
def ypb (h:Heap) (H:Hp):Heap:=W.hideAll h (trk h H)
theorem ylj (h:Heap) (H:Hp):(ypb h H).objs.size=h.objs.size:=W.hideAll_size _ _
theorem ynz {h:Heap} {H:Hp} {b:Addr} {o:Obj} (e:h.get? b=some o) (n:H b=none):(ypb h H).get? b=some o :=
 W.hideAll_get _ e fun hm=>by
  have q:(H b).isSome=true:=(List.mem_filter.mp hm).2
  rw [n] at q; simp at q
theorem ysl {h:Heap} {H:Hp} {b:Addr} {o:Obj} (e:(ypb h H).get? b=some o):h.get? b=some o/\H b=none:=by
 have e':h.get? b=some o:=W.of_hideAll (trk h H) e
 refine ⟨e',?_⟩
 cases q:H b with
 | none=>rfl
 | some x =>
  have hm:b∈trk h H:=List.mem_filter.mpr ⟨List.mem_range.mpr (Heap.lt_size e'),by simp [q]⟩
  have z:(ypb h H).get? b=none:=W.hideAll_none (trk h H) hm
  rw [z] at e; cases e
def ysb (g h:Heap) (L:Addr):List (Addr × Obj):=(List.range h.objs.size).filterMap fun a=>if a=L\/(g.get? a).isSome=true then none else (h.get? a).map fun o=>(a,o)
def zb (g h:Heap) (L d:Addr):List (Addr × Obj):=(ysb g h L).filter fun p=>decide (p.1≠d)
end L2
namespace L2
open PySem PySem.Spec PyProof.Rows
structure Mod (K:W.Frag) (mg:Str->Option Value) (base:Heap):Prop where
 kin:K.In base
 glob:base.Ns mainGlobals mg
 blt:∃ mb,base.Ns builtinsNs mb/\∀ x:Str,x≠"__name__"->mb x=bootBuiltins x
 nolimit:base.NoLimit
structure Cx where
 prog:Program
 w:World
 K:W.Frag
 mg:Str->Option Value
 base:Heap
 A:Around
 N:List Str
 s₀:Shared
 H₀:Hp
 env:Env
 outer:List Env
 stack:List Env
 ex:List Addr
 fn:Str->Bool
 calm:Bool
 pn:List (Addr × Obj)
 xe:Value->Shared->Prop
def frs (l:List Env):List Addr:=l.filterMap (·.frame)
abbrev Cx.fs (X:Cx):List Addr:=frs X.outer
def Vis (sc:Scope) (x:Str):Prop:=sc.names.lookup x=some .local\/sc.names.lookup x=some .cell\/sc.names.lookup x=some .free
def Loc (sc:Scope) (x:Str):Prop:=sc.names.lookup x=some .local\/sc.names.lookup x=some .cell
def vd6 (env:Env) (h:Heap) (m:Str->Option Value) (x:Str) (u:Value):Prop :=
 (env.kindOf x=some .local/\m x=some u)\/((env.kindOf x=some .cell\/env.kindOf x=some .free)/\∃ c,env.cells.lookup x=some c/\h.IsCell c (some u))
structure Cx.Ok (X:Cx):Prop where
 mod:Mod X.K X.mg X.base
 kind:X.env.scope.kind=.function
 glob:X.env.globals=mainGlobals
 blt:X.env.builtins=builtinsNs
 above:X.s₀.heap.objs.size <= X.env.locals
 inj:∀ x y c,X.env.cells.lookup x=some c->X.env.cells.lookup y=some c->x=y
 has:∀ x,(X.env.kindOf x=some .cell\/X.env.kindOf x=some .free)->∃ c,X.env.cells.lookup x=some c
 cab:∀ x c,X.fn x=true->X.env.cells.lookup x=some c->X.s₀.heap.objs.size <= c
 hd:X.calm=true->X.A.handled=none
 frames:X.A.frames=some X.stack
 stk:X.stack=X.outer\/(X.stack=X.env :: X.outer/\X.env.frame=some X.env.locals)
 exf:∀ b∈X.ex,b≠X.env.locals/\∀ x c,X.env.cells.lookup x=some c->c≠b
 bs:∀ b o,X.base.get? b=some o->X.s₀.heap.get? b=some o/\X.H₀ b=none
 bsz:X.base.objs.size <= X.s₀.heap.objs.size
 noex:∀ b o,X.base.get? b=some o->b∉X.ex
 exfs:∀ b∈X.ex,b∉X.fs
 funs:X.s₀.heap.FunFrames X.base X.outer
 frf:∀ b∈X.fs,X.H₀ b=none
structure Inv (X:Cx) (pins:List (Addr × Obj)) (σ:List (Option V)) (H:Hp) (s:Shared):Prop where
 ok:X.Ok
 os:s.os=X.s₀.os
 bare:AllBare s.gens
 base:Un X.fs X.ex X.H₀ H X.s₀.heap s.heap
 loc:∃ m,s.heap.Ns X.env.locals m/\∀ (i:Nat) (x:Str) (v:V),X.N[i]?=some x->σ[i]?=some (some v)->Vis X.env.scope x->∃ u,xl v u/\vd6 X.env s.heap m x u
 cell:∀ x c,X.env.cells.lookup x=some c->∃ v,s.heap.IsCell c v
 free:H X.env.locals=none
 freeC:∀ x c,X.env.cells.lookup x=some c->H c=none
 pin:∀ p∈X.pn++pins,s.heap.get? p.1=some p.2/\H p.1=none/\p.1≠X.env.locals/\p.1∉X.fs/\∀ v,p.2.data≠.cell v
 hok:HOk X.prog X.w H s.heap
 len:σ.length=X.N.length
section
variable {X:Cx} {pins:List (Addr × Obj)} {σ:List (Option V)} {H H':Hp} {s:Shared} {h':Heap}
theorem Cx.Ok.nofr (ok:X.Ok) {b:Addr} {o:Obj} (e:X.base.get? b=some o):b∉X.fs:=fun hb=>by
 have:=(ok.funs.mem hb).1
 rw [e] at this; cases this
theorem Inv.bs (I:Inv X pins σ H s):∀ b o,X.base.get? b=some o->s.heap.get? b=some o/\H b=none:=fun b o e =>
 ⟨I.base.keep b o (I.ok.bs b o e).1 (I.ok.bs b o e).2 (I.ok.nofr e) (I.ok.noex b o e),I.base.free b o (I.ok.bs b o e).1 (I.ok.bs b o e).2 (I.ok.noex b o e)⟩
theorem Inv.bk (I:Inv X pins σ H s):∀ b o,X.base.get? b=some o->s.heap.get? b=some o:=fun b o e=>(I.bs b o e).1
theorem Inv.mod (I:Inv X pins σ H s):Mod X.K X.mg X.base:=I.ok.mod
theorem Inv.kIn (I:Inv X pins σ H s):X.K.In s.heap:=I.ok.mod.kin.keeps I.bk
theorem Inv.lt (I:Inv X pins σ H s):X.env.locals < s.heap.objs.size:=let ⟨_,hn,_⟩:=I.loc; hn.lt
theorem Inv.sz (I:Inv X pins σ H s):X.s₀.heap.objs.size <= s.heap.objs.size:=Nat.le_trans I.ok.above (Nat.le_of_lt I.lt)
theorem Inv.nofs (I:Inv X pins σ H s) {a:Addr} (h:s.heap.objs.size <= a):a∉X.fs:=fun hb=>by
 obtain ⟨_,o,ho,_⟩:=I.ok.funs.mem hb
 exact absurd (Nat.lt_of_lt_of_le (Heap.lt_size ho) (Nat.le_trans I.sz h)) (Nat.lt_irrefl _)
theorem Inv.cne (I:Inv X pins σ H s):∀ x c,X.env.cells.lookup x=some c->c≠X.env.locals:=fun x c e z=>by
 obtain ⟨v,o,ho,hd⟩:=I.cell x c e
 obtain ⟨m,⟨o',es,ep,ho',hd',_⟩,_⟩:=I.loc
 rw [z,ho'] at ho; cases ho; rw [hd'] at hd; cases hd
theorem Inv.funs (I:Inv X pins σ H s):s.heap.FunFrames X.base X.outer:=by
 have all:∀ (l:List Env),(∀ b∈frs l,b∈X.fs)->X.s₀.heap.FunFrames X.base l->s.heap.FunFrames X.base l:=by
  intro l
  induction l with
  | nil=>intro _ _; trivial
  | cons env r ih =>
   intro hs hl
   obtain ⟨hk,⟨L,o,hf,hn,ho,hd⟩,hr⟩:=hl
   have hL:L∈X.fs:=hs L (by unfold frs; rw [List.filterMap_cons,hf]; exact List.mem_cons_self)
   obtain ⟨sl,e⟩:=I.base.slot L o ho (I.ok.frf L hL) hL fun z=>I.ok.exfs L z hL
   exact ⟨hk,⟨L,_,hf,hn,e,hd⟩,ih (fun b hb=>hs b (by unfold frs; rw [List.filterMap_cons,hf]; exact List.mem_cons_of_mem _ hb)) hr⟩
 exact all X.outer (fun _ hb=>hb) I.ok.funs
theorem Inv.stack (I:Inv X pins σ H s):s.heap.FunFrames X.base X.stack:=by
 rcases I.ok.stk with e | ⟨e,hf⟩
 ·rw [e]; exact I.funs
 ·rw [e]
  obtain ⟨m,hn,_⟩:=I.loc
  refine .cons (by rw [I.ok.kind]; decide) hf hn ?_ I.funs
  exact Heap.get?_none_of_le (Nat.le_trans I.ok.bsz I.ok.above)
theorem Inv.stkSub (I:Inv X pins σ H s):∀ b∈frs X.stack,b∈X.env.locals :: X.fs:=fun b hb=>by
 rcases I.ok.stk with e | ⟨e,hf⟩
 ·rw [e] at hb; exact List.mem_cons_of_mem _ hb
 ·rw [e] at hb
  unfold frs at hb
  rw [List.filterMap_cons,hf] at hb
  exact hb
theorem Inv.stkFree (I:Inv X pins σ H s):∀ b∈frs X.stack,H b=none:=fun b hb=>by
 rcases List.mem_cons.mp (I.stkSub b hb) with e | hb
 ·rw [e]; exact I.free
 ·obtain ⟨_,o,ho,_⟩:=I.ok.funs.mem hb
  exact I.base.free b o ho (I.ok.frf b hb) fun z=>I.ok.exfs b z hb
theorem Inv.step {g':Array GenState} {t':Nat} {d':Drawn} {ch:List Addr} (I:Inv X pins σ H s)
  (hch:∀ b∈ch,(b∈X.ex\/X.s₀.heap.objs.size <= b)/\b≠X.env.locals/\(∀ x c,X.env.cells.lookup x=some c->c≠b)/\∀ p∈X.pn++pins,p.1≠b)
  (keep:∀ b o,b≠X.env.locals->b∉X.fs->b∉ch->s.heap.get? b=some o->H b=none->h'.get? b=some o)
  (slot:∀ b o,b≠X.env.locals->b∈X.fs->b∉ch->s.heap.get? b=some o->H b=none->∃ sl,h'.get? b=some { o with slots:=sl }) (free:∀ b o,b∉ch->s.heap.get? b=some o->H b=none->H' b=none)
  (there:∀ b o,b∉ch->s.heap.get? b=some o->∃ o',h'.get? b=some o')
  (tups:∀ b xs,H b=some (.tup xs)->H' b=some (.tup xs)) (frzs:∀ b o u,H b=some (.frz o u)->H' b=some (.frz o u)) (tbls:∀ b ps,H b=some (.tbl ps)->∃ more,H' b=some (.tbl (ps++more)))
  (ns:∀ m,s.heap.Ns X.env.locals m->h'.Ns X.env.locals m) (hok:HOk X.prog X.w H' h') (hg:AllBare g') :
  Inv X pins σ H' { s with heap:=h',gens:=g',drawn:=d',toks:=t' }:=by
 have neL:∀ b o,X.s₀.heap.get? b=some o->b≠X.env.locals:=fun b o e=>Nat.ne_of_lt (Nat.lt_of_lt_of_le (Heap.lt_size e) I.ok.above)
 have neC:∀ b o,X.s₀.heap.get? b=some o->b∉X.ex->b∉ch:=fun b o e hx hb=>by
  rcases (hch b hb).1 with z | z
  ·exact hx z
  ·exact absurd (Nat.lt_of_lt_of_le (Heap.lt_size e) z) (Nat.lt_irrefl _)
 have cellK:∀ x c,X.env.cells.lookup x=some c->∀ v,s.heap.IsCell c v->h'.IsCell c v:=fun x c e v ⟨o,ho,hd⟩=>by
  have nch:c∉ch:=fun z=>(hch c z).2.2.1 x c e rfl
  by_cases hc:c∈X.fs
  ·obtain ⟨sl,q⟩:=slot c o (I.cne x c e) hc nch ho (I.freeC x c e)
   exact ⟨_,q,hd⟩
  ·exact ⟨o,keep c o (I.cne x c e) hc nch ho (I.freeC x c e),hd⟩
 refine ⟨I.ok,I.os,hg,⟨fun b o e n hb hx=>?_,fun b o e n hb hx=>?_,fun b o e n hx=>?_,fun b o e hx=>?_,fun b xs e=>tups b xs (I.base.tups b xs e),fun b o xs e=>frzs b o xs (I.base.frzs b o xs e),fun b ps e=>?_⟩,?_,fun x c e=>?_,?_,fun x c e=>?_,fun p hp=>?_,hok,I.len⟩
 ·exact keep b o (neL b o e) hb (neC b o e hx) (I.base.keep b o e n hb hx) (I.base.free b o e n hx)
 ·obtain ⟨sl,e1⟩:=I.base.slot b o e n hb hx
  obtain ⟨sl',e2⟩:=slot b _ (neL b o e) hb (neC b o e hx) e1 (I.base.free b o e n hx)
  exact ⟨sl',e2⟩
 ·obtain ⟨o',e1⟩:=I.base.there b o e hx
  exact free b o' (neC b o e hx) e1 (I.base.free b o e n hx)
 ·obtain ⟨o',e1⟩:=I.base.there b o e hx
  exact there b o' (neC b o e hx) e1
 ·obtain ⟨m1,e1⟩:=I.base.tbls b ps e
  obtain ⟨m2,e2⟩:=tbls b _ e1
  exact ⟨m1++m2,by rw [e2,Array.append_assoc]⟩
 ·obtain ⟨m,hn,hl⟩:=I.loc
  refine ⟨m,ns m hn,fun i x v e1 e2 e3=>?_⟩
  obtain ⟨u,r,l⟩:=hl i x v e1 e2 e3
  refine ⟨u,r,?_⟩
  rcases l with l | ⟨k,c,e,z⟩
  ·exact .inl l
  ·exact .inr ⟨k,c,e,cellK x c e _ z⟩
 ·obtain ⟨v,z⟩:=I.cell x c e
  exact ⟨v,cellK x c e v z⟩
 ·obtain ⟨m,⟨o,_,_,ho,_⟩,_⟩:=I.loc
  exact free _ o (fun z=>(hch _ z).2.1 rfl) ho I.free
 ·obtain ⟨v,o,ho,hd⟩:=I.cell x c e
  exact free c o (fun z=>(hch c z).2.2.1 x c e rfl) ho (I.freeC x c e)
 ·obtain ⟨e,n,ne,nf,d⟩:=I.pin p hp
  have nch:p.1∉ch:=fun z=>(hch p.1 z).2.2.2 p hp rfl
  exact ⟨keep p.1 p.2 ne nf nch e n,free p.1 p.2 nch e n,ne,nf,d⟩
theorem Inv.un {t':Nat} (I:Inv X pins σ H s) (u:Un X.fs [] H H' s.heap h') (hok:HOk X.prog X.w H' h'):Inv X pins σ H' { s with heap:=h',toks:=t' }:=by
 obtain ⟨m,⟨o,es,ep,ho,r⟩,_⟩:=id I.loc
 obtain ⟨sl,hL⟩:=u.any ho I.free (by simp)
 exact I.step (g':=s.gens) (d':=s.drawn) (ch:=[]) (fun _ z=>nomatch z) (fun b o _ hb _ e n=>u.keep b o e n hb (by simp)) (fun b o _ hb _ e n=>u.slot b o e n hb (by simp)) (fun b o _ e n=>u.free b o e n (by simp)) (fun b o _ e=>u.there b o e (by simp)) u.tups u.frzs u.tbls (fun m' hm=>by
  obtain ⟨o',es',ep',ho',r'⟩:=hm
  rw [ho] at ho'; cases ho'
  exact ⟨_,es',ep',hL,r'⟩) hok I.bare
theorem Inv.call {g':Array GenState} {t':Nat} {d':Drawn} {ch:List Addr} (I:Inv X pins σ H s) (u:Un (frs X.stack) ch H H' s.heap h') (hok:HOk X.prog X.w H' h') (hg:AllBare g')
  (hch:∀ b∈ch,(b∈X.ex\/X.s₀.heap.objs.size <= b)/\b≠X.env.locals/\(∀ x c,X.env.cells.lookup x=some c->c≠b)/\∀ p∈X.pn++pins,p.1≠b) :
  Inv X pins σ H' { s with heap:=h',gens:=g',drawn:=d',toks:=t' }:=by
 obtain ⟨m,⟨o,es,ep,ho,r⟩,_⟩:=id I.loc
 obtain ⟨sl,hL⟩:=u.any ho I.free fun z=>(hch _ z).2.1 rfl
 exact I.step (ch:=ch) hch (fun b o hL hb hc e n=>u.keep b o e n (fun z=>(List.mem_cons.mp (I.stkSub b z)).elim hL hb) hc) (fun b o _ _ hc e n=>u.any e n hc) (fun b o hc e n=>u.free b o e n hc) (fun b o hc e=>u.there b o e hc) u.tups u.frzs u.tbls (fun m' hm=>by
  obtain ⟨o',es',ep',ho',r'⟩:=hm
  rw [ho] at ho'; cases ho'
  exact ⟨_,es',ep',hL,r'⟩) hok hg
theorem Inv.turned {t':Nat} {it:Addr} (I:Inv X pins σ H s) (k:∀ b o,b≠it->s.heap.get? b=some o->h'.get? b=some o) (hn:H it=none) (hL:it≠X.env.locals)
  (h1:it∈X.ex\/X.s₀.heap.objs.size <= it) (h2:∀ x c,X.env.cells.lookup x=some c->c≠it) (h3:∀ p∈X.pn++pins,p.1≠it):Inv X pins σ H { s with heap:=h',toks:=t' }:=by
 have nit:∀ b u,H b=some u->b≠it:=fun b u e z=>by rw [z,hn] at e; cases e
 refine I.step (g':=s.gens) (d':=s.drawn) (ch:=[it]) (fun b hb=>?_) (fun b o _ _ hc e _=>k b o (fun z=>hc (by simp [z])) e) (fun b o _ _ hc e _=>⟨o.slots,k b o (fun z=>hc (by simp [z])) e⟩) (fun _ _ _ _ n=>n)
  (fun b o hc e=>⟨o,k b o (fun z=>hc (by simp [z])) e⟩) (fun _ _ e=>e) (fun _ _ _ e=>e) (fun b ps e=>⟨#[],by rw [e]; simp⟩) (fun m hm=>?_) (fun b u e=>?_) I.bare
 ·have e:b=it:=by simpa using hb
  subst e
  exact ⟨h1,hL,h2,h3⟩
 ·obtain ⟨o,es,ep,ho,r⟩:=hm
  exact ⟨o,es,ep,k _ o (Ne.symm hL) ho,r⟩
 ·refine (I.hok b u e).stay (fun c v hc q=>k c v ?_ q) (fun _ q=>q) fun _ _ q=>q
  rcases hc with z | z
  ·rw [z]; exact nit b u e
  ·exact nit c _ z
theorem Inv.tok (I:Inv X pins σ H s) (t:Nat):Inv X pins σ H { s with toks:=t }:=I.un (h':=s.heap) (t':=t) Un.refl I.hok
theorem Inv.kept {t':Nat} (I:Inv X pins σ H s) (k:∀ b u,s.heap.get? b=some u->h'.get? b=some u):Inv X pins σ H { s with heap:=h',toks:=t' }:=I.un (Un.kept k) (I.hok.kept k)
theorem Inv.laid {a:Addr} {o:HO} {t':Nat} (I:Inv X pins σ H s) (k:∀ b u,s.heap.get? b=some u->h'.get? b=some u) (hp:s.heap.objs.size <= a) (new:xp X.prog X.w (upd H a o) h' a o) :
  Inv X pins σ (upd H a o) { s with heap:=h',toks:=t' }:=I.un (Un.laid k hp (I.hok.fresh hp)) (I.hok.laid k hp new)
theorem Inv.write {x e:Addr} {o:HO} {t':Nat} (I:Inv X pins σ H s) (mu:Mut (H x)) (he:e=x\/H e=some (.own x)) (k:∀ b u,b≠e->s.heap.get? b=some u->h'.get? b=some u) (heo:∃ u,h'.get? e=some u)
  (new:xp X.prog X.w (upd H x o) h' x o):Inv X pins σ (upd H x o) { s with heap:=h',toks:=t' }:=I.un (Un.write mu he k heo) (I.hok.write mu he k heo new)
theorem Inv.pins_of {pins':List (Addr × Obj)} (I:Inv X pins σ H s) (h:∀ p∈pins',s.heap.get? p.1=some p.2/\H p.1=none/\p.1≠X.env.locals/\p.1∉X.fs/\∀ v,p.2.data≠.cell v):Inv X pins' σ H s :=
 ⟨I.ok,I.os,I.bare,I.base,I.loc,I.cell,I.free,I.freeC,fun p hp=>(List.mem_append.mp hp).elim (fun z=>I.pin p (List.mem_append_left _ z)) (h p),I.hok,I.len⟩
theorem yds {N:List Str} (hN:N.Nodup) {i j:Nat} {x:Str} (a:N[i]?=some x) (b:N[j]?=some x):i=j:=by
 obtain ⟨h1,e1⟩:=List.getElem?_eq_some_iff.mp a
 obtain ⟨h2,e2⟩:=List.getElem?_eq_some_iff.mp b
 exact (List.getElem_inj hN).mp (e1.trans e2.symm)
theorem yac {M:Model} {A:Around} {E:Value->Shared->Prop} {i:Nat} {x:Str} {v:V} {u:Value} {Q:Unit->Shared->Prop} (I:Inv X pins σ H s) (hN:X.N.Nodup) (hi:X.N[i]?=some x) (hx:Loc X.env.scope x) (r:xl v u)
  (h:∀ s',Inv X pins (σ.set i (some v)) H s'->(∃ a,Heap.SameBut a s.heap s'.heap/\(a=X.env.locals\/X.env.cells.lookup x=some a))->Q () s') (hf:X.fn x=true\/X.env.scope.names.lookup x=some .local:=by first | exact .inl rfl | exact .inr rfl | assumption):wpAny M A (storeName X.env x u) Q E s:=by
 obtain ⟨m,hn,hl⟩:=id I.loc
 have hcls:(X.env.scope.kind == .class || (X.env.scope.kind == .module && X.env.locals != X.env.globals))=false:=by rw [I.ok.kind]; rfl
 have hiσ:i < σ.length:=by rw [I.len]; exact (List.getElem?_eq_some_iff.mp hi).1
 have cne:=I.cne
 have tracked:∀ {a:Addr} {h':Heap},(∃ o,s.heap.get? a=some o/\H a=none)->Heap.SameBut a s.heap h'->HOk X.prog X.w H h':=fun {a h'} ha hs b ob e=>by
  obtain ⟨_,_,hfree⟩:=ha
  refine (I.hok b ob e).stay (fun c w' hc q=>(hs.2 c ?_).trans q) (fun _ q=>q) fun _ _ q=>q
  rintro rfl
  rcases hc with rfl | hc
  ·rw [hfree] at e; cases e
  ·rw [hfree] at hc; cases hc
 rcases hx with hk | hk
 ·refine wpAny_storeName_local hk hn (fun h' hn' hs=>?_) hcls
  obtain ⟨oL,_,_,hoL,_⟩:=id hn
  refine h _ ⟨I.ok,I.os,I.bare,⟨fun b o e n hb hx=>?_,fun b o e n hb hx=>?_,I.base.free,fun b o e hx=>?_,I.base.tups,I.base.frzs,I.base.tbls⟩,⟨_,hn',fun j y v' e1 e2 e3=>?_⟩,fun y c e=>?_,I.free,I.freeC,fun p hp=>?_,tracked ⟨oL,hoL,I.free⟩ hs,by simpa using I.len⟩ ⟨_,hs,.inl rfl⟩
  ·exact (hs.2 b (Nat.ne_of_lt (Nat.lt_of_lt_of_le (Heap.lt_size e) I.ok.above))).trans (I.base.keep b o e n hb hx)
  ·obtain ⟨sl,e1⟩:=I.base.slot b o e n hb hx
   exact ⟨sl,(hs.2 b (Nat.ne_of_lt (Nat.lt_of_lt_of_le (Heap.lt_size e) I.ok.above))).trans e1⟩
  ·obtain ⟨o',e1⟩:=I.base.there b o e hx
   exact ⟨o',(hs.2 b (Nat.ne_of_lt (Nat.lt_of_lt_of_le (Heap.lt_size e) I.ok.above))).trans e1⟩
  ·by_cases hj:j=i
   ·subst hj
    rw [hi] at e1; cases e1
    rw [List.getElem?_set_self hiσ] at e2
    cases e2
    exact ⟨u,r,.inl ⟨hk,by simp⟩⟩
   ·rw [List.getElem?_set_ne (Ne.symm hj)] at e2
    obtain ⟨u',r',q⟩:=hl j y v' e1 e2 e3
    refine ⟨u',r',?_⟩
    rcases q with ⟨k,e⟩ | ⟨k,c,e,z⟩
    ·refine .inl ⟨k,?_⟩
     have:y≠x:=fun e=>hj (yds hN e1 (e ▸ hi))
     simp [this,e]
    ·exact .inr ⟨k,c,e,z.sameBut hs (cne y c e)⟩
  ·obtain ⟨w',z⟩:=I.cell y c e
   exact ⟨w',z.sameBut hs (cne y c e)⟩
  ·obtain ⟨e,n,ne,nf,d⟩:=I.pin p hp
   exact ⟨(hs.2 p.1 ne).trans e,n,ne,nf,d⟩
 ·have hfn:X.fn x=true:=by
   rcases hf with z | z
   ·exact z
   ·rw [z] at hk; cases hk
  obtain ⟨c,hc⟩:=I.ok.has x (.inl hk)
  obtain ⟨w',z⟩:=I.cell x c hc
  refine wpAny_storeName_cell I.ok.kind hk hc z (fun h' hc' hs=>?_)
  obtain ⟨oc,hoc,hocd⟩:=id z
  refine h { s with heap:=h' } ⟨I.ok,I.os,I.bare,⟨fun b o e n hb hx=>?_,fun b o e n hb hx=>?_,I.base.free,fun b o e hx=>?_,I.base.tups,I.base.frzs,I.base.tbls⟩,⟨m,hn.sameBut hs (Ne.symm (cne x c hc)),fun j y v' e1 e2 e3=>?_⟩,fun y c' e=>?_,I.free,I.freeC,fun p hp=>?_,tracked ⟨oc,hoc,I.freeC x c hc⟩ hs,by simpa using I.len⟩ ⟨c,hs,.inr hc⟩
  ·exact (hs.2 b (Nat.ne_of_lt (Nat.lt_of_lt_of_le (Heap.lt_size e) (I.ok.cab x c hfn hc)))).trans (I.base.keep b o e n hb hx)
  ·obtain ⟨sl,e1⟩:=I.base.slot b o e n hb hx
   exact ⟨sl,(hs.2 b (Nat.ne_of_lt (Nat.lt_of_lt_of_le (Heap.lt_size e) (I.ok.cab x c hfn hc)))).trans e1⟩
  ·obtain ⟨o',e1⟩:=I.base.there b o e hx
   exact ⟨o',(hs.2 b (Nat.ne_of_lt (Nat.lt_of_lt_of_le (Heap.lt_size e) (I.ok.cab x c hfn hc)))).trans e1⟩
  ·by_cases hj:j=i
   ·subst hj
    rw [hi] at e1; cases e1
    rw [List.getElem?_set_self hiσ] at e2
    cases e2
    exact ⟨u,r,.inr ⟨.inl hk,c,hc,hc'⟩⟩
   ·rw [List.getElem?_set_ne (Ne.symm hj)] at e2
    obtain ⟨u',r',q⟩:=hl j y v' e1 e2 e3
    refine ⟨u',r',?_⟩
    rcases q with q | ⟨k,c',e,z'⟩
    ·exact .inl q
    ·refine .inr ⟨k,c',e,z'.sameBut hs ?_⟩
     rintro rfl
     exact hj (yds hN e1 (I.ok.inj _ _ _ e hc ▸ hi))
  ·by_cases hcc:c'=c
   ·subst hcc; exact ⟨_,hc'⟩
   ·obtain ⟨w2,z2⟩:=I.cell y c' e
    exact ⟨w2,z2.sameBut hs hcc⟩
  ·obtain ⟨e,n,ne,nf,d⟩:=I.pin p hp
   refine ⟨(hs.2 p.1 ?_).trans e,n,ne,nf,d⟩
   intro q
   rw [q,hoc] at e
   have q':oc=p.2:=Option.some.inj e
   exact d w' (by rw [<- q']; exact hocd)
theorem uw {M:Model} {A:Around} {E:Value->Shared->Prop} {i:Nat} {x:Str} {v:V} {u:Value} {Q:Unit->Shared->Prop} (I:Inv X pins σ H s) (hN:X.N.Nodup) (hi:X.N[i]?=some x) (hx:Loc X.env.scope x) (r:xl v u)
  (h:∀ s',Inv X pins (σ.set i (some v)) H s'->Q () s') (hf:X.fn x=true\/X.env.scope.names.lookup x=some .local:=by first | exact .inl rfl | exact .inr rfl | assumption):wpAny M A (storeName X.env x u) Q E s :=
 yac I hN hi hx r (fun s' I' _=>h s' I') hf
theorem Inv.call' {s':Shared} {ch:List Addr} (I:Inv X pins σ H s) (ho:s'.os=s.os) (u:Un (frs X.stack) ch H H' s.heap s'.heap) (hok:HOk X.prog X.w H' s'.heap) (hg:AllBare s'.gens)
  (hch:∀ b∈ch,(b∈X.ex\/X.s₀.heap.objs.size <= b)/\b≠X.env.locals/\(∀ x c,X.env.cells.lookup x=some c->c≠b)/\∀ p∈X.pn++pins,p.1≠b):Inv X pins σ H' s':=by
 obtain ⟨h',g',d',t',o'⟩:=s'
 have e:o'=s.os:=ho
 subst e
 exact I.call (g':=g') (t':=t') (d':=d') u hok hg hch
end
abbrev XK:=Value->Option Addr->Hp->Prop
abbrev St:=List (Option V)
abbrev VK:=V->Hp->Prop
abbrev TE:=St->Hp->VK->Prop
abbrev TT:=St->Hp->(Bool->Hp->Prop)->Prop
abbrev TA:=St->Hp->(List V->Hp->Prop)->Prop
structure yc1 where
 nx:St->Hp->Prop
 rt:VK
 bk:St->Hp->Prop:=fun _ _=>False
 ct:St->Hp->Prop:=fun _ _=>False
abbrev TS:=yc1->St->Hp->Prop
def EP (X:Cx) (pins:List (Addr × Obj)) (σ:St) (Q:VK) (u:Value) (s':Shared):Prop:=∃ v H',Inv X pins σ H' s'/\xl v u/\Q v H'
def TP (X:Cx) (pins:List (Addr × Obj)) (σ:St) (Q:Bool->Hp->Prop) (b:Bool) (s':Shared):Prop:=∃ H',Inv X pins σ H' s'/\Q b H'
def AP (X:Cx) (pins:List (Addr × Obj)) (σ:St) (Q:List V->Hp->Prop) (us:List Value) (s':Shared):Prop:=∃ vs H',Inv X pins σ H' s'/\wz vs us/\Q vs H'
def SP (X:Cx) (pins:List (Addr × Obj)) (D:yc1) (f:Flow) (s':Shared):Prop :=
 match f with
 | .next=>∃ σ' H',Inv X pins σ' H' s'/\D.nx σ' H'
 | .brk=>∃ σ' H',Inv X pins σ' H' s'/\D.bk σ' H'
 | .cont=>∃ σ' H',Inv X pins σ' H' s'/\D.ct σ' H'
 | .ret u=>∃ v σ' H',Inv X pins σ' H' s'/\xl v u/\D.rt v H'
def PE (X:Cx) (e:Expr) (t:TE):Prop :=
 ∀ (pins:List (Addr × Obj)) (s:Shared) (σ:St) (H:Hp) (Q:VK),Inv X pins σ H s->t σ H Q->wpAny (model X.prog X.w) X.A (eval e X.env) (EP X pins σ Q) X.xe s
def PT (X:Cx) (e:Expr) (t:TT):Prop :=
 ∀ (pins:List (Addr × Obj)) (s:Shared) (σ:St) (H:Hp) (Q:Bool->Hp->Prop),Inv X pins σ H s->t σ H Q->wpAny (model X.prog X.w) X.A (isTrue e X.env (eval e X.env)) (TP X pins σ Q) X.xe s
def PW (X:Cx) (e:Expr) (t:TT):Prop :=
 ∀ (whole:Sem Value) (pins:List (Addr × Obj)) (s:Shared) (σ:St) (H:Hp) (Q:Bool->Hp->Prop),Inv X pins σ H s->t σ H Q->wpAny (model X.prog X.w) X.A (isTrue e X.env whole) (TP X pins σ Q) X.xe s
theorem PW.pt {X:Cx} {e:Expr} {t:TT} (h:PW X e t):PT X e t:=h _
def PA (X:Cx) (es:List Expr) (t:TA):Prop :=
 ∀ (pos:Pos) (pins:List (Addr × Obj)) (s:Shared) (σ:St) (H:Hp) (Q:List V->Hp->Prop),Inv X pins σ H s->t σ H Q->wpAny (model X.prog X.w) X.A (spliced (backTo pos (starEach es X.env))) (AP X pins σ Q) X.xe s
def PS (X:Cx) (st:Stmt) (t:TS):Prop :=
 ∀ (pins:List (Addr × Obj)) (s:Shared) (σ:St) (H:Hp) (D:yc1),Inv X pins σ H s->t D σ H->wpAny (model X.prog X.w) X.A (exec st X.env) (SP X pins D) X.xe s
def PSs (X:Cx) (st:List Stmt) (t:TS):Prop :=
 ∀ (pins:List (Addr × Obj)) (s:Shared) (σ:St) (H:Hp) (D:yc1),Inv X pins σ H s->t D σ H->wpAny (model X.prog X.w) X.A (execs st X.env) (SP X pins D) X.xe s
theorem thn {α:Type} {t:Sem α} {Q Q':α->Shared->Prop} {M:Model} {A:Around} {E:Value->Shared->Prop} {s:Shared} (h:wpAny M A t Q E s) (hQ:∀ a s,Q a s->Q' a s):wpAny M A t Q' E s:=wpAny_mono h hQ fun _ _ x=>x
end L2
namespace L2
open PySem PySem.Spec PyProof.Rows
section
variable {X:Cx}
def vc6 (i:Nat):TE:=fun σ H Q=>∃ v,σ[i]?=some (some v)/\Q v H
def tC (v:V):TE:=fun _ H Q=>Q v H
theorem yzm {i:Nat} {x:Str} {pos:Pos} (hN:X.N[i]?=some x) (hv:Vis X.env.scope x) (hd:(x == ("__debug__":Str))=false:=by decide) (hcd:(x == ("__classdict__":Str))=false:=by decide):PE X (.Name x pos) (vc6 i):=by
 intro pins s σ H Q I h
 obtain ⟨v,e,h⟩:=h
 obtain ⟨m,hn,hl⟩:=I.loc
 obtain ⟨u,r,l⟩:=hl i x v hN e hv
 have fin:EP X pins σ Q u s:=⟨v,H,I,r,h⟩
 rcases l with ⟨hk,hm⟩ | ⟨hk,c,hc,hcell⟩
 ·exact wpAny_Name (wpAny_loadName_local I.ok.kind hk hn hm fin) hd
 ·rcases hk with hk | hk
  ·exact wpAny_Name (wpAny_loadName_cell I.ok.kind hk hc hcell fin) hd
  ·exact wpAny_Name (wpAny_loadName_free I.ok.kind hk hc hcell fin hcd) hd
theorem yg {i j pos}:PE X (.Constant (.int i) j pos) (tC (.int i)):=fun _ _ _ H _ I h=>wpAny_Constant_int ⟨.int i,H,I.tok _,⟨_,rfl⟩,h⟩
theorem yd6 {b j pos}:PE X (.Constant (.bool b) j pos) (tC (.bl b)):=fun _ _ _ H _ I h=>Constant_bool ⟨.bl b,H,I,rfl,h⟩
theorem ya9 {j pos}:PE X (.Constant .none j pos) (tC .non):=fun _ _ _ H _ I h=>Constant_none ⟨.non,H,I,rfl,h⟩
theorem vo {x j pos}:PE X (.Constant (.str x) j pos) (tC (.str x)):=fun _ _ _ H _ I h=>Calls.Constant_str ⟨.str x,H,I.tok _,⟨_,rfl⟩,h⟩
def Gl (X:Cx) (x:Str):Prop:=X.env.kindOf x=some .globalImplicit
theorem zv {E:Value->Shared->Prop} {pins:List (Addr × Obj)} {s:Shared} {σ:St} {H:Hp} {x:Str} {u:Value} {pos:Pos} {Q:Value->Shared->Prop} (I:Inv X pins σ H s) (hg:Gl X x) (hm:X.mg x=some u) (h:Q u s)
  (hd:(x == ("__debug__":Str))=false:=by decide):wpAny (model X.prog X.w) X.A (eval (.Name x pos) X.env) Q E s :=
 Calls.Name_function_global I.ok.kind hg (Calls.loadGlobal_global (by rw [I.ok.glob]; exact I.mod.glob.keeps I.bk) hm h) hd
theorem yce {E:Value->Shared->Prop} {pins:List (Addr × Obj)} {s:Shared} {σ:St} {H:Hp} {x:Str} {u:Value} {pos:Pos} {Q:Value->Shared->Prop} (I:Inv X pins σ H s) (hg:Gl X x) (hm:X.mg x=none) (hv:bootBuiltins x=some u) (h:Q u s)
  (hn:x≠"__name__":=by decide) (hd:(x == ("__debug__":Str))=false:=by decide):wpAny (model X.prog X.w) X.A (eval (.Name x pos) X.env) Q E s:=by
 obtain ⟨mb,h1,h2⟩:=I.mod.blt
 exact Calls.Name_function_global I.ok.kind hg (Calls.loadGlobal_builtin (by rw [I.ok.glob]; exact I.mod.glob.keeps I.bk) hm (by rw [I.ok.blt]; exact h1.keeps I.bk) ((h2 x hn).trans hv) h) hd
theorem ymb {x:Str} {v:V} {u:Value} {pos:Pos} (hg:Gl X x) (hm:X.mg x=some u) (r:xl v u) (hd:(x == ("__debug__":Str))=false:=by decide):PE X (.Name x pos) (tC v) :=
 fun _ _ _ H _ I h=>zv I hg hm ⟨v,H,I,r,h⟩ hd
theorem ys0 {x:Str} {v:V} {u:Value} {pos:Pos} (hg:Gl X x) (hm:X.mg x=none) (hv:bootBuiltins x=some u) (r:xl v u) (hn:x≠"__name__":=by decide) (hd:(x == ("__debug__":Str))=false:=by decide):PE X (.Name x pos) (tC v) :=
 fun _ _ _ H _ I h=>yce I hg hm hv ⟨v,H,I,r,h⟩ hn hd
variable {a b:Expr} {ta tb:TE} {pos:Pos}
def PC (X:Cx) (op:CmpOp) (a b:Expr) (t:TE):Prop :=
 ∀ (pins:List (Addr × Obj)) (s:Shared) (σ:St) (H:Hp) (Q:VK),Inv X pins σ H s->t σ H Q ->
  wpAny (model X.prog X.w) X.A (eval a X.env) (fun v s₁=>wpAny (model X.prog X.w) X.A (eval b X.env) (fun u s₂=>wpAny (model X.prog X.w) X.A (compareOp op v u) (EP X pins σ Q) X.xe s₂) X.xe s₁) X.xe s
def tB (t:TE):TT:=fun σ H Q=>t σ H fun x H1=>∃ c,x=.bl c/\Q c H1
theorem yyv {op:CmpOp} {t:TE} (h:PC X op a b t) (h1:behindInMarks op b=false:=by first | exact nobehind _ (by decide) (by decide) | rfl):PT X (.Compare a [op] [b] pos) (tB t):=by
 intro pins s σ H Q I hw
 refine wpAny_isTrue_Compare1 (thn (h pins s σ H _ I hw) fun v s1 h1=>thn h1 fun u s2 h2=>thn h2 fun c s3 ⟨x,H1,I1,r1,q1⟩=>?_) h1
 obtain ⟨d,rfl,q⟩:=q1
 cases r1
 exact wpAny_truthy_bool ⟨H1,I1,q⟩
theorem xr {e:Expr} {t:TE} (h:PE X e t) (he:∀ whole,isTrue e X.env whole=(do let v <- whole; standAt e.pos; holding [v] (truthy v)):=by intro _; rfl):PT X e (tB t):=by
 intro pins s σ H Q I hw
 refine isTrue_plain (thn (h pins s σ H _ I hw) fun v s1 ⟨x,H1,I1,r1,q1⟩=>?_) (he _)
 obtain ⟨d,rfl,q⟩:=q1
 cases r1
 exact wpAny_truthy_bool ⟨H1,I1,q⟩
variable {tA tB':TT} {zb:List Expr}
def vds (t u:TT):TT:=fun σ H Q=>t σ H fun c H1=>if c=true then u σ H1 Q else Q false H1
def tOr (t u:TT):TT:=fun σ H Q=>t σ H fun c H1=>if c=true then Q true H1 else u σ H1 Q
def vdb (t:TT):TT:=fun σ H Q=>t σ H fun c H1=>Q (!c) H1
theorem ytd (ha:PT X a tA):PW X (.BoolOp .And [a] pos) tA:=by
 intro wh pins s σ H Q I h
 refine isTrue_and (thn (ha pins s σ H Q I h) fun c s1 e=>?_)
 cases c with
 | true=>exact isTrue_and_nil e
 | false=>exact e
theorem yfh (ha:PT X a tA):PW X (.BoolOp .Or [a] pos) tA:=by
 intro wh pins s σ H Q I h
 refine isTrue_or (thn (ha pins s σ H Q I h) fun c s1 e=>?_)
 cases c with
 | false=>exact isTrue_or_nil e
 | true=>exact e
theorem yye (ha:PT X a tA) (hb:PW X (.BoolOp .And (b :: zb) pos) tB'):PW X (.BoolOp .And (a :: b :: zb) pos) (vds tA tB'):=by
 intro wh pins s σ H Q I h
 refine isTrue_and (thn (ha pins s σ H _ I h) fun c s1 ⟨H1,I1,q1⟩=>?_)
 cases c with
 | true=>exact hb wh pins s1 σ H1 Q I1 q1
 | false=>exact ⟨H1,I1,q1⟩
theorem yfp (ha:PT X a tA) (hb:PW X (.BoolOp .Or (b :: zb) pos) tB'):PW X (.BoolOp .Or (a :: b :: zb) pos) (tOr tA tB'):=by
 intro wh pins s σ H Q I h
 refine isTrue_or (thn (ha pins s σ H _ I h) fun c s1 ⟨H1,I1,q1⟩=>?_)
 cases c with
 | true=>exact ⟨H1,I1,q1⟩
 | false=>exact hb wh pins s1 σ H1 Q I1 q1
theorem ud (ha:PT X a tA):PT X (.UnaryOp .Not a pos) (vdb tA):=by
 intro pins s σ H Q I h
 exact isTrue_not (ha pins s σ H (fun c H1=>Q (!c) H1) I h)
def vag (ta tb:TE):TE:=fun σ H Q=>ta σ H fun x H1=>∃ c,x=.bl c/\if c=true then tb σ H1 Q else Q (.bl false) H1
def vat (ta:TE):TE:=fun σ H Q=>ta σ H fun x H1=>∃ c,x=.bl c/\Q (.bl (!c)) H1
theorem ya6 {op} {t:TE} (h:PE X a t):PE X (.BoolOp op [a] pos) t:=fun pins s σ H Q I hw=>BoolOp_one (h pins s σ H Q I hw)
theorem ji (ha:PE X a ta) (hb:PE X (.BoolOp .And (b :: zb) pos) tb):PE X (.BoolOp .And (a :: b :: zb) pos) (vag ta tb):=by
 intro pins s σ H Q I h
 refine BoolOp_and (thn (ha pins s σ H _ I h) fun v s1 ⟨x,H1,I1,r1,q1⟩=>?_)
 obtain ⟨c,rfl,q1⟩:=q1
 cases r1
 refine wpAny_truthy_bool ?_
 cases c with
 | true=>exact hb pins s1 σ H1 Q I1 q1
 | false=>exact ⟨.bl false,H1,I1,rfl,q1⟩
theorem yw1 (ha:PE X a ta):PE X (.UnaryOp .Not a pos) (vat ta):=by
 intro pins s σ H Q I h
 refine UnaryOp_ (thn (ha pins s σ H _ I h) fun v s1 ⟨x,H1,I1,r1,q1⟩=>?_)
 obtain ⟨c,rfl,q1⟩:=q1
 cases r1
 exact not_of (wpAny_truthy_bool ⟨.bl (!c),H1,I1,rfl,q1⟩)
def tIf (t:TT) (ta tb:TE):TE:=fun σ H Q=>t σ H fun c H1=>if c=true then ta σ H1 Q else tb σ H1 Q
theorem yak {c:Expr} (hc:PT X c tA) (ha:PE X a ta) (hb:PE X b tb):PE X (.IfExp c a b pos) (tIf tA ta tb):=by
 intro pins s σ H Q I h
 refine wpAny_IfExp (thn (hc pins s σ H _ I h) fun d s1 ⟨H1,I1,q1⟩=>?_)
 cases d with
 | true=>exact ha pins s1 σ H1 Q I1 q1
 | false=>exact hb pins s1 σ H1 Q I1 q1
end
end L2
namespace L2
open PySem PySem.Spec PyProof.Rows
def SqL (K:W.Frag) (H:Hp) (a:Addr) (xs:List V):Prop :=
 Rd H a (.lst xs) \/
  ∃ (o:Obj) (its:Array Value) (n:Nat),K.lookup a=some o/\o.cls=.type "list"/\o.dict=none/\o.data=.seq its n/\its.size <= sizeLine/\wz xs its.toList
def SqT (K:W.Frag) (H:Hp) (a:Addr) (xs:List V):Prop :=
 Rd H a (.tup xs) \/
  ∃ (o:Obj) (its:Array Value) (n:Nat),K.lookup a=some o/\o.cls=.type "tuple"/\o.data=.seq its n/\its.size <= sizeLine/\wz xs its.toList
def vd4:Value->Option V
 | .none=>some .non
 | .bool b=>some (.bl b)
 | .int i _=>some (.int i)
 | .str x _=>some (.str x)
 | .bytes b _=>some (.byt b)
 | .float b _=>some (.flt b)
 | .ref a=>some (.ref a)
 | .type n=>some (.ty n)
 | _=>none
theorem xl.abs {x:V} {u:Value} (r:xl x u):vd4 u=some x:=by
 cases x with
 | non=>cases r; rfl
 | bl _=>cases r; rfl
 | int _=>obtain ⟨t,rfl⟩:=r; rfl
 | str _=>obtain ⟨t,rfl⟩:=r; rfl
 | byt _=>obtain ⟨t,rfl⟩:=r; rfl
 | flt _=>obtain ⟨t,rfl⟩:=r; rfl
 | ref _=>cases r; rfl
 | ty _=>cases r; rfl
theorem xl.inj {x y:V} {u:Value} (r:xl x u) (q:xl y u):x=y:=Option.some.inj (r.abs.symm.trans q.abs)
theorem wz.inj:∀ {xs ys:List V} {us:List Value},wz xs us->wz ys us->xs=ys
 | _,_,_,.nil,.nil=>rfl
 | _,_,_,.cons r t,.cons r' t'=>by rw [r.inj r',wz.inj t t']
section
variable {X:Cx} {pins:List (Addr × Obj)} {σ:St} {H:Hp} {s:Shared} {a:Addr} {xs ys:List V}
theorem SqL.of {K:W.Frag} (h:H a=some (.lst xs)):SqL K H a xs:=.inl (.inl h)
theorem SqT.of {K:W.Frag} (h:H a=some (.tup xs)):SqT K H a xs:=.inl (.inl h)
theorem Inv.list (I:Inv X pins σ H s) (h:SqL X.K H a xs):∃ its:List Value,wz xs its/\PlainL s.heap a its.toArray/\xs.length <= sizeLine:=by
 rcases h with h | ⟨o,its,n,hk,hc,hd,hs,hz,r⟩
 ·obtain ⟨z,its,n,r,e⟩:=h.ok I.hok
  exact ⟨its,r,⟨_,n,e,rfl,rfl,rfl⟩,z⟩
 ·refine ⟨its.toList,r,⟨o,n,I.kIn a o hk,hc,hd,by simpa using hs⟩,?_⟩
  have e:=r.length
  simp only [Array.length_toList] at e
  omega
theorem Inv.tuple (I:Inv X pins σ H s) (h:SqT X.K H a xs):∃ its:List Value,wz xs its/\IsTup s.heap a its.toArray/\xs.length <= sizeLine:=by
 rcases h with h | ⟨o,its,n,hk,hc,hs,hz,r⟩
 ·obtain ⟨z,its,r,p⟩:=h.ok I.hok
  exact ⟨its,r,p,z⟩
 ·refine ⟨its.toList,r,⟨o,I.kIn a o hk,hc,n,by simpa using hs⟩,?_⟩
  have e:=r.length
  simp only [Array.length_toList] at e
  omega
theorem Inv.list_inj (I:Inv X pins σ H s) (h:SqL X.K H a xs) (h':SqL X.K H a ys):xs=ys:=by
 obtain ⟨its,r,⟨o,n,e,_,_,d⟩,_⟩:=I.list h
 obtain ⟨its',r',⟨o',n',e',_,_,d'⟩,_⟩:=I.list h'
 rw [e] at e'; cases e'
 rw [d] at d'
 injection d' with d1 _
 have:its=its':=by simpa using congrArg Array.toList d1
 subst this
 exact r.inj r'
theorem Inv.tuple_inj (I:Inv X pins σ H s) (h:SqT X.K H a xs) (h':SqT X.K H a ys):xs=ys:=by
 obtain ⟨its,r,⟨o,e,_,n,d⟩,_⟩:=I.tuple h
 obtain ⟨its',r',⟨o',e',_,n',d'⟩,_⟩:=I.tuple h'
 rw [e] at e'; cases e'
 rw [d] at d'
 injection d' with d1 _
 have:its=its':=by simpa using congrArg Array.toList d1
 subst this
 exact r.inj r'
end
abbrev Cx.wish (X:Cx) (E:Value->Shared->Prop):Cx:={ X with xe:=E }
abbrev Cx.nox (X:Cx):Cx:=X.wish fun _ _=>False
theorem Cx.Ok.wish {X:Cx} (ok:X.Ok) (E:Value->Shared->Prop):(X.wish E).Ok :=
 ⟨ok.mod,ok.kind,ok.glob,ok.blt,ok.above,ok.inj,ok.has,ok.cab,ok.hd,ok.frames,ok.stk,ok.exf,ok.bs,ok.bsz,ok.noex,ok.exfs,ok.funs,ok.frf⟩
theorem Cx.Ok.unwish {X:Cx} {E:Value->Shared->Prop} (ok:(X.wish E).Ok):X.Ok :=
 ⟨ok.mod,ok.kind,ok.glob,ok.blt,ok.above,ok.inj,ok.has,ok.cab,ok.hd,ok.frames,ok.stk,ok.exf,ok.bs,ok.bsz,ok.noex,ok.exfs,ok.funs,ok.frf⟩
section
variable {X:Cx} {pins:List (Addr × Obj)} {σ:St} {H:Hp} {s:Shared} {E:Value->Shared->Prop}
theorem Inv.wish (I:Inv X pins σ H s) (E:Value->Shared->Prop):Inv (X.wish E) pins σ H s:=⟨I.ok.wish E,I.os,I.bare,I.base,I.loc,I.cell,I.free,I.freeC,I.pin,I.hok,I.len⟩
theorem Inv.unwish (I:Inv (X.wish E) pins σ H s):Inv X pins σ H s:=⟨I.ok.unwish,I.os,I.bare,I.base,I.loc,I.cell,I.free,I.freeC,I.pin,I.hok,I.len⟩
theorem SP.unwish {D:yc1} {f:Flow} {s':Shared} (h:SP (X.wish E) pins D f s'):SP X pins D f s':=by
 cases f with
 | next=>obtain ⟨σ',H',I,q⟩:=h; exact ⟨σ',H',I.unwish,q⟩
 | brk=>obtain ⟨σ',H',I,q⟩:=h; exact ⟨σ',H',I.unwish,q⟩
 | cont=>obtain ⟨σ',H',I,q⟩:=h; exact ⟨σ',H',I.unwish,q⟩
 | ret u=>obtain ⟨v,σ',H',I,r,q⟩:=h; exact ⟨v,σ',H',I.unwish,r,q⟩
theorem PSs.nox {st:List Stmt} {t:TS} (h:PSs X.nox st t):PSs X st t:=fun pins s σ H D I hw =>
 wpAny_mono (h pins s σ H D (I.wish _) hw) (fun _ _ q=>q.unwish) fun _ _ z=>False.elim z
end
section
variable {X:Cx} {st:Stmt} {zb:List Stmt} {t u:TS} {e:Expr} {te:TE} {pos:Pos}
def vaf:TS:=fun D σ H=>D.nx σ H
def va6 (t u:TS):TS:=fun D σ H=>t { D with nx:=u D } σ H
theorem vf:PSs X [] vaf:=fun _ _ σ H _ I h=>wpAny_execs_nil ⟨σ,H,I,h⟩
theorem yi (h1:PS X st t) (h2:PSs X zb u):PSs X (st :: zb) (va6 t u):=by
 intro pins s σ H D I h
 refine wpAny_execs_cons (thn (h1 pins s σ H { D with nx:=u D } I h) fun f s1 q=>?_)
 cases f with
 | next =>
  obtain ⟨σ',H',I',q⟩:=q
  exact h2 pins s1 σ' H' D I' q
 | ret v=>exact q
 | brk=>exact q
 | cont=>exact q
theorem yf (h1:PS X st t):PSs X [st] t:=by
 intro pins s σ H D I h
 refine wpAny_execs_cons (thn (h1 pins s σ H D I h) fun f s1 q=>?_)
 cases f with
 | next=>exact wpAny_execs_nil q
 | ret v=>exact q
 | brk=>exact q
 | cont=>exact q
theorem Inv.quiet {pins:List (Addr × Obj)} {σ:St} {H:Hp} {s:Shared} (I:Inv X pins σ H s):interactive X.env=false:=by simp [interactive,I.ok.kind]
def vaj (te:TE):TS:=fun D σ H=>te σ H fun _ H1=>D.nx σ H1
theorem vz (he:PE X e te) (hs:swapsWith e none pos.line X.env=pure false:=by rfl):PS X (.Expr e pos) (vaj te):=by
 intro pins s σ H D I h
 exact wpAny_Expr_any (thn (he pins s σ H _ I h) fun v s1 ⟨x,H1,I1,r1,q1⟩=>⟨σ,H1,I1,q1⟩) I.quiet hs
def vdl (te:TE):TS:=fun D σ H=>te σ H D.rt
theorem yv (he:PE X e te):PS X (.Return (some e) pos) (vdl te):=by
 intro pins s σ H D I h
 exact wpAny_Return_some (thn (he pins s σ H _ I h) fun v s1 ⟨x,H1,I1,r1,q1⟩=>⟨x,σ,H1,I1,r1,q1⟩)
def vdd (c:TT) (t u:TS):TS:=fun D σ H=>c σ H fun b H1=>if b=true then t D σ H1 else u D σ H1
theorem wj {c:Expr} {a b:List Stmt} {tc:TT} (hc:PT X c tc) (ha:PSs X a t) (hb:PSs X b u):PS X (.If c a b pos) (vdd tc t u):=by
 intro pins s σ H D I h
 refine wpAny_If (thn (hc pins s σ H _ I h) fun d s1 ⟨H1,I1,q1⟩=>?_)
 cases d with
 | true=>exact ha pins s1 σ H1 D I1 q1
 | false=>exact hb pins s1 σ H1 D I1 q1
def yxz:TS:=fun _ _ _=>False
theorem ynt:PS X st yxz:=fun _ _ _ _ _ _ h=>h.elim
end
abbrev TG:=V->St->Hp->(St->Hp->Prop)->Prop
abbrev TGs:=List V->St->Hp->(St->Hp->Prop)->Prop
def PG (X:Cx) (target:Expr) (t:TG):Prop :=
 ∀ (pins:List (Addr × Obj)) (s:Shared) (σ:St) (H:Hp) (v:V) (u:Value) (Q:St->Hp->Prop),Inv X pins σ H s->xl v u->t v σ H Q ->
  wpAny (model X.prog X.w) X.A (assign target X.env u) (fun _ s'=>∃ σ' H',Inv X pins σ' H' s'/\Q σ' H') X.xe s
def PGs (X:Cx) (ts:List Expr) (t:TGs):Prop :=
 ∀ (pins:List (Addr × Obj)) (s:Shared) (σ:St) (H:Hp) (vs:List V) (us:List Value) (Q:St->Hp->Prop),Inv X pins σ H s->wz vs us->t vs σ H Q ->
  wpAny (model X.prog X.w) X.A (assignInOrder ((assignEach ts X.env).map (·.2)) us) (fun _ s'=>∃ σ' H',Inv X pins σ' H' s'/\Q σ' H') X.xe s
abbrev vbe:=V->V->V->Hp->(Hp->Prop)->Prop
def vdk (X:Cx) (t:vbe):Prop :=
 ∀ (pins:List (Addr × Obj)) (s:Shared) (σ:St) (H:Hp) (o i v:V) (ov iv u:Value) (Q:Hp->Prop),Inv X pins σ H s->xl o ov->xl i iv->xl v u->t o i v H Q ->
  wpAny (model X.prog X.w) X.A (setItem ov iv u) (fun _ s'=>∃ H',Inv X pins σ H' s'/\Q H') X.xe s
section
variable {X:Cx} {pos:Pos}
def xk (i:Nat):TG:=fun v σ H Q=>Q (σ.set i (some v)) H
theorem ub {i:Nat} {x:Str} (hN:X.N.Nodup) (hi:X.N[i]?=some x) (hx:Loc X.env.scope x) (hf:X.fn x=true\/X.env.scope.names.lookup x=some .local:=by first | exact .inl rfl | exact .inr rfl | assumption):PG X (.Name x pos) (xk i):=by
 intro pins s σ H v u Q I r h
 exact wpAny_assign_Name (uw I hN hi hx r (fun s' I'=>⟨_,H,I',h⟩) hf)
def ypc:TGs:=fun vs σ H Q=>vs=[]/\Q σ H
def ju (t:TG) (u:TGs):TGs:=fun vs σ H Q=>∃ v r,vs=v :: r/\t v σ H fun σ' H'=>u r σ' H' Q
theorem ygu:PGs X [] ypc:=by
 intro pins s σ H vs us Q I r h
 obtain ⟨e,h⟩:=h
 subst e
 cases r
 exact assignInOrder_nil ⟨σ,H,I,h⟩
theorem jr {e:Expr} {es:List Expr} {t:TG} {u:TGs} (h1:PG X e t) (h2:PGs X es u)
  (hs:(assignEach (e :: es) X.env).map (·.2)=assign e X.env :: (assignEach es X.env).map (·.2):=by rfl):PGs X (e :: es) (ju t u):=by
 intro pins s σ H vs us Q I r h
 obtain ⟨v,vr,e1,h⟩:=h
 subst e1
 cases r with
 | cons r rr =>
  rw [hs]
  refine assignInOrder_cons (thn (h1 pins s σ H _ _ _ I r h) fun _ s1 ⟨σ1,H1,I1,q1⟩=>?_)
  exact h2 pins s1 σ1 H1 _ _ Q I1 rr q1
def yv5 (K:W.Frag) (n:Nat) (t:TGs):TG:=fun v σ H Q=>∃ a xs,v=.ref a/\SqT K H a xs/\xs.length=n/\t xs σ H Q
theorem ym6 {es:List Expr} {k:Nat} {t:TGs} {n:Nat} (hc:X.calm=true) (h:PGs X es t)
  (hn:(assignEach es X.env).length=n:=by rfl) (hst:(assignEach es X.env).findIdx? (·.1)=none:=by rfl):PG X (.Tuple es k pos) (yv5 X.K n t):=by
 intro pins s σ H v u Q I r hw
 obtain ⟨a,xs,e1,hq,hl,hw⟩:=hw
 subst e1
 cases r
 obtain ⟨its,rv,ht,hz⟩:=I.tuple hq
 refine assign_Tuple_tuple (I.ok.hd hc) ht (by simp [hn,<- hl,rv.length]) hst fun h' hx=>?_
 have I1:Inv X pins σ H { s with heap:=h' }:=I.kept (t':=s.toks) fun b o e=>hx b o (Nat.ne_of_lt (Heap.lt_size e)) e
 exact h pins _ σ H xs _ Q I1 (by simpa using rv) hw
def vdh (to ti:TE) (t:vbe):TG:=fun v σ H Q=>to σ H fun o H1=>ti σ H1 fun i H2=>t o i v H2 fun H3=>Q σ H3
theorem yx0 {o i:Expr} {to ti:TE} {t:vbe} (ho:PE X o to) (hi:PE X i ti) (hs:vdk X t)
  (ha:∀ v,assign (.Subscript o i pos) X.env v=(do
   let ov <- holding [v] (eval o X.env)
   let iv <- holding [v,ov] (eval i X.env)
   standAt pos
   holding [v,ov,iv] (setItem ov iv v)
   release [v,ov,iv] []):=by intro _; rfl):PG X (.Subscript o i pos) (vdh to ti t):=by
 intro pins s σ H v u Q I r h
 rw [ha]
 refine wpAny_bind (wpAny_holding (thn (ho pins s σ H _ I h) fun ov s1 ⟨x,H1,I1,r1,q1⟩=>?_))
 refine wpAny_bind (wpAny_holding (thn (hi pins s1 σ H1 _ I1 q1) fun iv s2 ⟨y,H2,I2,r2,q2⟩=>?_))
 refine wpAny_bind (wpAny_standAt (wpAny_bind (wpAny_holding (thn (hs pins s2 σ H2 x y v ov iv u _ I2 r1 r2 r q2) fun _ s3 ⟨H3,I3,q3⟩=>?_))))
 exact wpAny_release ⟨σ,H3,I3,q3⟩
def yvz (te:TE) (g:TG):TS:=fun D σ H=>te σ H fun x H1=>g x σ H1 D.nx
theorem yzn {tg e:Expr} {te:TE} {g:TG} (he:PE X e te) (hg:PG X tg g) (hs:swapsWithSole [tg] e pos.line X.env=pure false:=by rfl) (hw:swappedStores [tg] e X.env=pure none:=by rfl)
  (h1:(assignEach [tg] X.env).map (·.2)=[assign tg X.env]:=by rfl):PS X (.Assign [tg] e pos) (yvz te g):=by
 intro pins s σ H D I h
 refine wpAny_Assign_stores (thn (he pins s σ H _ I h) fun v s1 ⟨x,H1,I1,r1,q1⟩=>?_) hs hw
 rw [h1]
 exact thn (hg pins s1 σ H1 x v _ I1 r1 q1) fun _ s2 q=>q
theorem yy {i:Nat} {x:Str} {e:Expr} {te:TE} {pos':Pos} (hN:X.N.Nodup) (hi:X.N[i]?=some x) (hx:Loc X.env.scope x) (he:PE X e te) (hs:swapsWith e (some (.Name x pos')) pos.line X.env=pure false:=by rfl) (hf:X.fn x=true\/X.env.scope.names.lookup x=some .local:=by first | exact .inl rfl | exact .inr rfl | assumption) :
  PS X (.Assign [.Name x pos'] e pos) (yvz te (xk i)):=by
 intro pins s σ H D I h
 refine wpAny_Assign_Name (thn (he pins s σ H _ I h) fun v s1 ⟨y,H1,I1,r1,q1⟩=>?_) hs
 exact uw I1 hN hi hx r1 (fun s2 I2=>⟨_,H1,I2,q1⟩) hf
end
section
variable {X:Cx} {pos:Pos}
def yw0 (c:TT) (tb:TS):TS:=fun D σ H=>∃ W:Nat->St->Hp->Prop,(∃ m,W m σ H)/\∀ m σ H,W m σ H ->
 c σ H fun b H1=>if b=true then ∃ N:St->Hp->Prop,(∀ σ' H',N σ' H'->∃ m',m' < m/\W m' σ' H')/\tb { D with nx:=N,ct:=N,bk:=D.nx } σ H1 else D.nx σ H1
theorem yai {c:Expr} {body:List Stmt} {tc:TT} {tb:TS} (hp:PassesOwn (model X.prog X.w) X.A X.env X.xe) (hc:PT X c tc) (hb:PSs X body tb):PS X (.While c body [] pos) (yw0 tc tb):=by
 intro pins s σ H D I h
 obtain ⟨W,⟨m0,w0⟩,turn⟩:=h
 refine wpAny_While (codeAny_whileLoop (fun n s'=>∃ σ' H',Inv X pins σ' H' s'/\W n σ' H') ?_ m0 ⟨σ,H,I,w0⟩)
 rintro n s1 ⟨σ1,H1,I1,w1⟩
 refine wpAny_passesOwn hp (thn (hc pins s1 σ1 H1 _ I1 (turn n σ1 H1 w1)) fun b s2 ⟨H2,I2,q2⟩=>?_)
 cases b with
 | true =>
  obtain ⟨N,hN,q2⟩:=q2
  rw [if_pos rfl]
  refine wpAny_passesOwn hp (thn (hb pins s2 σ1 H2 _ I2 q2) fun f s3 q3=>?_)
  cases f with
  | next =>
   obtain ⟨σ3,H3,I3,n3⟩:=q3
   obtain ⟨m',hm,w3⟩:=hN σ3 H3 n3
   exact ⟨m',hm,σ3,H3,I3,w3⟩
  | cont =>
   obtain ⟨σ3,H3,I3,n3⟩:=q3
   obtain ⟨m',hm,w3⟩:=hN σ3 H3 n3
   exact ⟨m',hm,σ3,H3,I3,w3⟩
  | brk=>exact q3
  | ret v=>exact q3
 | false =>
  rw [if_neg Bool.false_ne_true]
  exact wpAny_execs_nil ⟨σ1,H2,I2,q2⟩
end
structure It where
 go:Nat->Hp->Prop
 yld:Nat->Hp->V->Hp->Prop
 stop:Nat->Hp->Prop
def ycg (X:Cx) (pins:List (Addr × Obj)) (H:Hp) (b:Addr):Prop :=
 H b=none/\b≠X.env.locals/\b∉X.fs/\(b∈X.ex\/X.s₀.heap.objs.size <= b)/\(∀ x c,X.env.cells.lookup x=some c->c≠b)/\∀ p∈X.pn++pins,p.1≠b
theorem Inv.fpOk {X:Cx} {pins:List (Addr × Obj)} {σ:St} {H H':Hp} {s:Shared} {b:Addr} (I:Inv X pins σ H s) (hb:s.heap.objs.size <= b) (hn:H' b=none):ycg X pins H' b:=by
 refine ⟨hn,Nat.ne_of_gt (Nat.lt_of_lt_of_le I.lt hb),I.nofs hb,.inr (Nat.le_trans I.sz hb),fun x c e z=>?_,fun p hp z=>?_⟩
 ·obtain ⟨v,q⟩:=I.cell x c e
  exact absurd (Nat.lt_of_lt_of_le q.lt (by rw [z]; exact hb)) (Nat.lt_irrefl _)
 ·exact absurd (Nat.lt_of_lt_of_le (Heap.lt_size (I.pin p hp).1) (by rw [z]; exact hb)) (Nat.lt_irrefl _)
structure ynh (P:Program) (w:World) (K:W.Frag) (tg:Expr) (J:It) (fp:List Addr) (it:Addr) (tn:Nat->Heap->Prop):Prop where
 mem:it∈fp
 obj:∀ i h,tn i h->∀ b∈fp,∃ o,h.get? b=some o/\∀ v,o.data≠.cell v
 keep:∀ i h h',tn i h->(∀ b∈fp,∀ o,h.get? b=some o->h'.get? b=some o)->tn i h'
 item:∀ (X:Cx),X.prog=P->X.w=w->X.K=K->X.calm=true->∀ (i:Nat) (pins:List (Addr × Obj)) (s:Shared) (σ:St) (H:Hp) (E:Value->Shared->Prop),Inv X pins σ H s->(∀ b∈fp,ycg X pins H b)->tn i s.heap->J.go i H ->
  wpAny (model P w) X.A (pyNext (.ref it)) (fun r s1=>∃ u,r=some u /\
   wpAny (model P w) X.A (letOwnedTupleGo tg (.ref it) u) (fun _ s2=>∃ x H',Inv X pins σ H' s2/\xl x u/\J.yld i H x H'/\tn (i+1) s2.heap/\∀ b∈fp,H' b=none) E s1) E s
 done:∀ (X:Cx),X.prog=P->X.w=w->X.K=K->X.calm=true->∀ (i:Nat) (pins:List (Addr × Obj)) (s:Shared) (σ:St) (H:Hp) (E:Value->Shared->Prop),Inv X pins σ H s->(∀ b∈fp,ycg X pins H b)->tn i s.heap->J.stop i H ->
  wpAny (model P w) X.A (pyNext (.ref it)) (fun r s1=>r=none/\Inv X pins σ H s1) E s
 self:∀ (A:Around) (i:Nat) (s:Shared) (Q:Value->Shared->Prop) (E:Value->Shared->Prop),tn i s.heap->Q (.ref it) s->wpAny (model P w) A (pyIter (.ref it)) Q E s
abbrev TI:=St->Hp->(It->Hp->Prop)->Prop
def PIE (X:Cx) (pins:List (Addr × Obj)) (σ:St) (tg:Expr) (R:It->Hp->Prop) (itv:Value) (s2:Shared):Prop :=
 ∃ (it:Addr) (fp:List Addr) (tn:Nat->Heap->Prop) (J:It) (H':Hp),itv=.ref it/\Inv X pins σ H' s2/\ynh X.prog X.w X.K tg J fp it tn/\tn 0 s2.heap/\(∀ b∈fp,ycg X pins H' b)/\R J H'
def PI (X:Cx) (tg iter:Expr) (wi:TI):Prop :=
 ∀ (pins:List (Addr × Obj)) (s:Shared) (σ:St) (H:Hp) (R:It->Hp->Prop),Inv X pins σ H s->wi σ H R ->
  wpAny (model X.prog X.w) X.A (eval iter X.env) (fun v s1=>wpAny (model X.prog X.w) X.A (pyIter v) (PIE X pins σ tg R) X.xe s1) X.xe s
theorem yve {M:Model} {A:Around} {E:Value->Shared->Prop} {s:Shared} {tg:Expr} {it:Addr} {u:Value} {o:Obj} {n:String} {vs:Array Value} {Q:Unit->Shared->Prop} (ho:s.heap.get? it=some o) (hc:o.cls=.type n) (hd:o.data=.fields vs)
  (hn:["enumerate","zip","dict_itemiterator","dict_reverseitemiterator","odict_iterator","itertools.zip_longest","itertools.pairwise"].contains n=false) (hQ:Q () s):wpAny M A (letOwnedTupleGo tg (.ref it) u) Q E s:=by
 unfold letOwnedTupleGo
 cases tg <;> first
  | exact wpAny_pure hQ
  | (cases u <;> first
    | exact wpAny_pure hQ
    | (refine wpAny_bind (wpAny_load ho ?_)
       rw [hc,hd]
       show wpAny M A (if (["enumerate","zip","dict_itemiterator","dict_reverseitemiterator","odict_iterator","itertools.zip_longest","itertools.pairwise"].contains n && vs[0]? == some (rawInt _))=true then _ else _) Q E s
       rw [if_neg (by intro h; rw [hn,Bool.false_and] at h; cases h)]
       exact wpAny_pure hQ))
def Itl (K:W.Frag) (a:Addr):It :=
 ⟨fun i H=>∃ xs x,SqL K H a xs/\xs[i]?=some x,fun i H x H'=>H'=H/\∀ xs,SqL K H a xs->xs[i]?=some x,fun i H=>∃ xs,SqL K H a xs/\xs.length <= i⟩
def Itt (K:W.Frag) (a:Addr):It :=
 ⟨fun i H=>∃ xs x,SqT K H a xs/\xs[i]?=some x,fun i H x H'=>H'=H/\∀ xs,SqT K H a xs->xs[i]?=some x,fun i H=>∃ xs,SqT K H a xs/\xs.length <= i⟩
def Itr (lo:Int) (n:Nat):It:=⟨fun i _=>i < n,fun i H x H'=>H'=H/\x=.int (lo+i),fun i _=>n <= i⟩
theorem yke {P:Program} {w:World} {K:W.Frag} {tg:Expr} (a it:Addr):ynh P w K tg (Itl K a) [it] it (fun i h=>h.IsListIter it a i) where
 mem:=by simp
 obj:=fun i h st b hb=>by
  have e:b=it:=by simpa using hb
  subst e
  obtain ⟨o,e,c,d⟩:=st
  exact ⟨o,e,fun v z=>by rw [d] at z; cases z⟩
 keep:=fun i h h' st k=>st.at fun o e=>k it (by simp) o e
 item:=by
  intro X hP hw hK hc i pins s σ H E I hf st hg
  subst hP hw hK
  obtain ⟨xs,x,hq,hx⟩:=hg
  obtain ⟨its,rv,p,hz⟩:=I.list hq
  obtain ⟨u,hu,ru⟩:=rv.get hx
  obtain ⟨f0,f1,f2,f3,f4,f5⟩:=hf it (by simp)
  refine wpAny_pyNext_list_item st p.isList (x:=u) (by simpa using hu) fun h' st' sb=>?_
  have I1:Inv X pins σ H { s with heap:=h' }:=I.turned (t':=s.toks) (fun b o hb e=>(sb.2 b hb).trans e) f0 f1 f3 f4 f5
  obtain ⟨o,e,c,d⟩:=id st'
  exact ⟨u,rfl,yve (s:={ s with heap:=h' }) e c d (by decide) ⟨x,H,I1,ru,⟨rfl,fun ys hy=>by rw [I.list_inj hy hq]; exact hx⟩,st',fun b hb=>(hf b hb).1⟩⟩
 done:=by
  intro X hP hw hK hc i pins s σ H E I hf st hg
  subst hP hw hK
  obtain ⟨xs,hq,hx⟩:=hg
  obtain ⟨its,rv,p,hz⟩:=I.list hq
  obtain ⟨f0,f1,f2,f3,f4,f5⟩:=hf it (by simp)
  have hl:=rv.length
  exact wpAny_pyNext_list_end (I.ok.hd hc) st p.isList (by simp; omega) fun h' eb=>⟨rfl,I.turned (t':=s.toks) (fun b o hb e=>eb b o hb e) f0 f1 f3 f4 f5⟩
 self:=fun _ _ _ _ _ st h=>wpAny_pyIter_listiter st h
theorem yjv {P:Program} {w:World} {K:W.Frag} {tg:Expr} (a it:Addr):ynh P w K tg (Itt K a) [it] it (fun i h=>h.IsTupleIter it a i) where
 mem:=by simp
 obj:=fun i h st b hb=>by
  have e:b=it:=by simpa using hb
  subst e
  obtain ⟨o,e,c,d⟩:=st
  exact ⟨o,e,fun v z=>by rw [d] at z; cases z⟩
 keep:=fun i h h' st k=>st.at fun o e=>k it (by simp) o e
 item:=by
  intro X hP hw hK hc i pins s σ H E I hf st hg
  subst hP hw hK
  obtain ⟨xs,x,hq,hx⟩:=hg
  obtain ⟨its,rv,p,hz⟩:=I.tuple hq
  obtain ⟨u,hu,ru⟩:=rv.get hx
  obtain ⟨f0,f1,f2,f3,f4,f5⟩:=hf it (by simp)
  refine wpAny_pyNext_tuple_item st (show s.heap.IsTuple a its.toArray from p) (x:=u) (by simpa using hu) fun h' st' sb=>?_
  have I1:Inv X pins σ H { s with heap:=h' }:=I.turned (t':=s.toks) (fun b o hb e=>(sb.2 b hb).trans e) f0 f1 f3 f4 f5
  obtain ⟨o,e,c,d⟩:=id st'
  exact ⟨u,rfl,yve (s:={ s with heap:=h' }) e c d (by decide) ⟨x,H,I1,ru,⟨rfl,fun ys hy=>by rw [I.tuple_inj hy hq]; exact hx⟩,st',fun b hb=>(hf b hb).1⟩⟩
 done:=by
  intro X hP hw hK hc i pins s σ H E I hf st hg
  subst hP hw hK
  obtain ⟨xs,hq,hx⟩:=hg
  obtain ⟨its,rv,p,hz⟩:=I.tuple hq
  obtain ⟨f0,f1,f2,f3,f4,f5⟩:=hf it (by simp)
  have hl:=rv.length
  exact wpAny_pyNext_tuple_end (I.ok.hd hc) st (show s.heap.IsTuple a its.toArray from p) (by simp; omega) fun h' eb=>⟨rfl,I.turned (t':=s.toks) (fun b o hb e=>eb b o hb e) f0 f1 f3 f4 f5⟩
 self:=fun _ _ _ _ _ st h=>wpAny_pyIter_tupleiter st h
theorem yix {P:Program} {w:World} {K:W.Frag} {tg:Expr} (it:Addr) (lo:Int) (n:Nat):ynh P w K tg (Itr lo n) [it] it (fun i h=>IsRangeIter h it (lo+(i:Nat) * 1) ((n:Int) - (i:Nat)) 1) where
 mem:=by simp
 obj:=fun i h st b hb=>by
  have e:b=it:=by simpa using hb
  subst e
  exact ⟨_,st,fun v z=>by
   have z':Data.fields _=Data.cell v:=z
   cases z'⟩
 keep:=fun i h h' st k=>k it (by simp) _ st
 item:=by
  intro X hP hw hK hc i pins s σ H E I hf st hg
  subst hP hw hK
  obtain ⟨f0,f1,f2,f3,f4,f5⟩:=hf it (by simp)
  have W:=Walks.range (prog:=X.prog) (w:=X.w) (I.ok.hd hc) it lo 1 n
  refine W.item i s _ _ hg st fun v h' tk hv st' kk=>?_
  obtain ⟨t,rfl⟩:=hv
  have I1:Inv X pins σ H { s with heap:=h',toks:=tk }:=I.turned (fun b o hb e=>kk b o (by simpa using hb) e) f0 f1 f3 f4 f5
  refine ⟨_,rfl,yve (s:={ s with heap:=h',toks:=tk }) (n:="range_iterator") st' rfl rfl (by decide) ⟨.int (lo+i),H,I1,⟨t,?_⟩,⟨rfl,rfl⟩,st',fun b hb=>(hf b hb).1⟩⟩
  rw [Int.mul_one]
 done:=by
  intro X hP hw hK hc i pins s σ H E I hf st hg
  subst hP hw hK
  obtain ⟨f0,f1,f2,f3,f4,f5⟩:=hf it (by simp)
  exact wpAny_pyNext_range_end (I.ok.hd hc) st (by have:n <= i:=hg; omega) fun h' eb=>⟨rfl,I.turned (t':=s.toks) (fun b o hb e=>eb b o hb e) f0 f1 f3 f4 f5⟩
 self:=fun _ _ _ _ _ st h=>wpAny_pyIter_rangeiter st h
end L2
namespace L2
open PySem PySem.Spec PyProof.Rows
section
variable {X:Cx} {tg:Expr}
def va2 (K:W.Frag) (tl:TE):TI:=fun σ H R=>tl σ H fun x H1=>∃ a,x=.ref a/\(∃ xs,SqL K H1 a xs)/\R (Itl K a) H1
def vdf (K:W.Frag) (tl:TE):TI:=fun σ H R=>tl σ H fun x H1=>∃ a,x=.ref a/\(∃ xs,SqT K H1 a xs)/\R (Itt K a) H1
theorem xc {l:Expr} {tl:TE} (hl:PE X l tl):PI X tg l (va2 X.K tl):=by
 intro pins s σ H R I h
 refine thn (hl pins s σ H _ I h) fun v s1 ⟨x,H1,I1,r1,q1⟩=>?_
 obtain ⟨a,e,⟨xs,hq⟩,q⟩:=q1
 subst e
 cases r1
 obtain ⟨its,rv,p,hz⟩:=I1.list hq
 refine wpAny_pyIter_list p.isList ?_
 refine ⟨s1.heap.objs.size,[s1.heap.objs.size],_,_,H1,rfl,I1.kept (t':=s1.toks) fun b o e=>Heap.get?_push_of_some _ e,yke a _,⟨_,Heap.get?_push_size _ rfl,rfl,rfl⟩,fun b hb=>?_,q⟩
 have e:b=s1.heap.objs.size:=by simpa using hb
 subst e
 exact I1.fpOk (Nat.le_refl _) (I1.hok.fresh (Nat.le_refl _))
theorem yik {l:Expr} {tl:TE} (hl:PE X l tl):PI X tg l (vdf X.K tl):=by
 intro pins s σ H R I h
 refine thn (hl pins s σ H _ I h) fun v s1 ⟨x,H1,I1,r1,q1⟩=>?_
 obtain ⟨a,e,⟨xs,hq⟩,q⟩:=q1
 subst e
 cases r1
 obtain ⟨its,rv,p,hz⟩:=I1.tuple hq
 refine wpAny_pyIter_tuple (show s1.heap.IsTuple a its.toArray from p) ?_
 refine ⟨s1.heap.objs.size,[s1.heap.objs.size],_,_,H1,rfl,I1.kept (t':=s1.toks) fun b o e=>Heap.get?_push_of_some _ e,yjv a _,⟨_,Heap.get?_push_size _ rfl,rfl,rfl⟩,fun b hb=>?_,q⟩
 have e:b=s1.heap.objs.size:=by simpa using hb
 subst e
 exact I1.fpOk (Nat.le_refl _) (I1.hok.fresh (Nat.le_refl _))
theorem yht {pins:List (Addr × Obj)} {σ:St} {H:Hp} {s:Shared} {R:It->Hp->Prop} {E:Value->Shared->Prop} {lo hi:Int} {t u v:Tok} {tk:Nat} (I:Inv X pins σ H s) (h1:-(2 ^ 62) <= lo) (h2:lo < 2 ^ 62) (h3:-(2 ^ 62) <= hi) (h4:hi < 2 ^ 62)
  (q:R (Itr lo (hi - lo).toNat) H):wpAny (model X.prog X.w) X.A (pyIter (.ref s.heap.objs.size)) (PIE X pins σ tg R) E { s with heap:=s.heap.push { cls:=.type "range",data:=.fields #[.int lo t,.int hi u,.int 1 v] },toks:=tk }:=by
 refine wpAny_pyIter_range (IsRange.new ..) (small_one h1 h2 h3 h4) ?_
 have I1:Inv X pins σ H { s with heap:=s.heap.push { cls:=.type "range",data:=.fields #[.int lo t,.int hi u,.int 1 v] },toks:=tk }:=I.kept fun b o e=>Heap.get?_push_of_some _ e
 refine ⟨(s.heap.push { cls:=.type "range",data:=.fields #[.int lo t,.int hi u,.int 1 v] }).objs.size,[(s.heap.push { cls:=.type "range",data:=.fields #[.int lo t,.int hi u,.int 1 v] }).objs.size],_,_,H,rfl,
  I1.kept (t':=tk) fun b o e=>Heap.get?_push_of_some _ e,yix _ lo (hi - lo).toNat,?_,fun b hb=>?_,q⟩
 ·have e1:lo+((0:Nat):Int) * 1=lo:=by simp
  have e2:(((hi - lo).toNat:Nat):Int) - ((0:Nat):Int)=Builtin.Range.rangeSize lo hi 1:=by rw [rangeSize_one]; split <;> omega
  show IsRangeIter _ _ (lo+((0:Nat):Int) * 1) ((((hi - lo).toNat:Nat):Int) - ((0:Nat):Int)) 1
  rw [e1,e2]
  exact Heap.get?_push_size _ rfl
 ·have e:b=(s.heap.push { cls:=.type "range",data:=.fields #[.int lo t,.int hi u,.int 1 v] }).objs.size:=by simpa using hb
  subst e
  exact I1.fpOk (Nat.le_refl _) (I1.hok.fresh (Nat.le_refl _))
def vac (ta:TA):TI:=fun σ H R=>ta σ H fun vs H1=>∃ j:Int,vs=[.int j]/\-(2 ^ 62) <= j/\j < 2 ^ 62/\R (Itr 0 j.toNat) H1
def var (ta:TA):TI:=fun σ H R=>ta σ H fun vs H1=>∃ i j:Int,vs=[.int i,.int j]/\(-(2 ^ 62) <= i/\i < 2 ^ 62/\-(2 ^ 62) <= j/\j < 2 ^ 62)/\R (Itr i (j - i).toNat) H1
theorem yb1 {a:Expr} {ta:TA} {p pos:Pos} (hg:Gl X "range") (hm:X.mg "range"=none) (ha:PA X [a] ta) (hs:starEach [a] X.env=[(false,eval a X.env)]:=by rfl):PI X tg (.Call (.Name "range" p) [a] [] pos) (vac ta):=by
 intro pins s σ H R I h
 refine Call_ (yce I hg hm boot_range (PyProof.Rows.callWith_type1 (thn (ha pos pins s σ H _ I h) fun us s1 ⟨vs,H1,I1,r1,q1⟩=>?_) hs rfl))
 obtain ⟨j,e,q1,q2,q⟩:=q1
 subst e
 cases r1 with
 | cons r rr =>
  cases rr
  obtain ⟨t,rfl⟩:=r
  exact call_range_1 (yht I1 (by omega) (by omega) q1 q2 (by simpa using q))
theorem ykd {a b:Expr} {ta:TA} {p pos:Pos} (hg:Gl X "range") (hm:X.mg "range"=none) (ha:PA X [a,b] ta) (hs:starEach [a,b] X.env=[(false,eval a X.env),(false,eval b X.env)]:=by rfl) (hs2:starEach [b] X.env=[(false,eval b X.env)]:=by rfl) :
  PI X tg (.Call (.Name "range" p) [a,b] [] pos) (var ta):=by
 intro pins s σ H R I h
 refine Call_ (yce I hg hm boot_range (PyProof.Rows.callWith_type1 (thn (ha pos pins s σ H _ I h) fun us s1 ⟨vs,H1,I1,r1,q1⟩=>?_) (by rw [hs,hs2]) (by rw [hs2]; rfl)))
 obtain ⟨i,j,e,⟨q1,q2,q3,q4⟩,q⟩:=q1
 subst e
 cases r1 with
 | cons r rr =>
  cases rr with
  | cons r' rr =>
   cases rr
   obtain ⟨t,rfl⟩:=r
   obtain ⟨t',rfl⟩:=r'
   exact call_range_2 (yht I1 q1 q2 q3 q4 q)
def vde (wi:TI) (g:TG) (tb:TS):TS:=fun D σ H=>wi σ H fun J H1=>∃ W:Nat->Nat->St->Hp->Prop,(∃ m,W 0 m σ H1)/\∀ i m σ H,W i m σ H ->
 (J.stop i H/\D.nx σ H)\/(J.go i H/\∃ N:St->Hp->Prop,(∀ σ' H',N σ' H'->∃ m',m' < m/\W (i+1) m' σ' H')/\∀ x H',J.yld i H x H'->g x σ H' fun σ2 H2=>tb { D with nx:=N,ct:=N,bk:=D.nx } σ2 H2)
def ycc (fp:List Addr) (h:Heap):List (Addr × Obj):=fp.filterMap fun b=>(h.get? b).map fun o=>(b,o)
theorem wf {fp:List Addr} {h:Heap} {b:Addr} {o:Obj} (hb:b∈fp) (e:h.get? b=some o):(b,o)∈ycc fp h:=List.mem_filterMap.mpr ⟨b,hb,by rw [e]; rfl⟩
theorem ykz {fp:List Addr} {h:Heap} {p:Addr × Obj} (hp:p∈ycc fp h):p.1∈fp/\h.get? p.1=some p.2:=by
 obtain ⟨b,hb,e⟩:=List.mem_filterMap.mp hp
 cases q:h.get? b with
 | none=>rw [q] at e; cases e
 | some o =>
  rw [q] at e
  have e':(b,o)=p:=Option.some.inj e
  subst e'
  exact ⟨hb,q⟩
theorem Inv.pinned {pins:List (Addr × Obj)} {σ:St} {H:Hp} {s:Shared} {fp:List Addr} (I:Inv X pins σ H s) (hf:∀ b∈fp,ycg X pins H b) (ho:∀ b∈fp,∃ o,s.heap.get? b=some o/\∀ v,o.data≠.cell v):Inv X (pins++ycc fp s.heap) σ H s :=
 I.pins_of fun p hp=>(List.mem_append.mp hp).elim (fun z=>I.pin p (List.mem_append_right _ z)) fun z=>by
  obtain ⟨hb,e⟩:=ykz z
  obtain ⟨f0,f1,f2,_⟩:=hf p.1 hb
  obtain ⟨o,e',d⟩:=ho p.1 hb
  rw [e] at e'; cases e'
  exact ⟨e,f0,f1,f2,d⟩
theorem Inv.unpinned {pins pl:List (Addr × Obj)} {σ:St} {H:Hp} {s:Shared} (I:Inv X (pins++pl) σ H s):Inv X pins σ H s:=I.pins_of fun p hp=>I.pin p (List.mem_append_right _ (List.mem_append_left _ hp))
theorem ya7 {iter:Expr} {body:List Stmt} {wi:TI} {g:TG} {tb:TS} {pos:Pos} (hp:PassesOwn (model X.prog X.w) X.A X.env X.xe) (hc:X.calm=true) (hi:PI X tg iter wi) (hg:PG X tg g) (hb:PSs X body tb)
  (hs:∀ x,foldedSetIterable iter X.env x=pure x:=by intro _; rfl):PS X (.For tg iter body [] pos) (vde wi g tb):=by
 intro pins s σ H D I h
 refine wpAny_For (thn (hi pins s σ H _ I h) fun v s1 h1=>thn h1 fun itv s2 h2=>?_) hs
 obtain ⟨it,fp,tn,J,H2,e,I2,T,st2,f2,W,⟨m0,w0⟩,turn⟩:=h2
 subst e
 have stat:∀ {H':Hp},(∀ b∈fp,H' b=none)->∀ b∈fp,ycg X pins H' b:=fun hn b hb=>⟨hn b hb,(f2 b hb).2⟩
 refine codeAny_forLoop_any (fun n s'=>∃ i σ' H',Inv X pins σ' H' s'/\tn i s'.heap/\(∀ b∈fp,H' b=none)/\W i n σ' H') ?_ m0 ⟨0,σ,H2,I2,st2,fun b hb=>(f2 b hb).1,w0⟩
 rintro n s3 ⟨i,σ3,H3,I3,st3,fr3,w3⟩
 rcases turn i n σ3 H3 w3 with ⟨stop,qn⟩ | ⟨go,N,hN,step⟩
 ·refine wpAny_passesOwn hp (thn (T.done X rfl rfl rfl hc i pins s3 σ3 H3 X.xe I3 (stat fr3) st3 stop) fun r s4 ⟨hr,I4⟩=>?_)
  subst hr
  exact wpAny_execs_nil ⟨σ3,H3,I4,qn⟩
 ·refine wpAny_passesOwn hp (thn (T.item X rfl rfl rfl hc i pins s3 σ3 H3 X.xe I3 (stat fr3) st3 go) fun r s4 ⟨u,hr,h4⟩=>?_)
  subst hr
  refine wpAny_passesOwn hp (thn h4 fun _ s5 ⟨x,H5,I5,r5,y5,st5,fr5⟩=>?_)
  have I5':=I5.pinned (stat fr5) (T.obj _ _ st5)
  refine wpAny_passesOwn hp (thn (hg _ s5 σ3 H5 x u _ I5' r5 (step x H5 y5)) fun _ s6 ⟨σ6,H6,I6,q6⟩=>?_)
  refine wpAny_passesOwn hp (thn (hb _ s6 σ6 H6 _ I6 q6) fun f s7 q7=>?_)
  have again:∀ {σ7:St} {H7:Hp},Inv X (pins++ycc fp s5.heap) σ7 H7 s7->N σ7 H7->∃ m,m < n/\∃ i σ' H',Inv X pins σ' H' s7/\tn i s7.heap/\(∀ b∈fp,H' b=none)/\W i m σ' H':=fun {σ7 H7} I7 n7=>by
   obtain ⟨m',hm,w7⟩:=hN σ7 H7 n7
   refine ⟨m',hm,i+1,σ7,H7,I7.unpinned,T.keep _ _ _ st5 fun b hb o e=>(I7.pin (b,o) (List.mem_append_right _ (List.mem_append_right _ (wf hb e)))).1,fun b hb=>?_,w7⟩
   obtain ⟨o,e,d⟩:=T.obj _ _ st5 b hb
   exact (I7.pin (b,o) (List.mem_append_right _ (List.mem_append_right _ (wf hb e)))).2.1
  cases f with
  | next=>obtain ⟨σ7,H7,I7,n7⟩:=q7; exact again I7 n7
  | cont=>obtain ⟨σ7,H7,I7,n7⟩:=q7; exact again I7 n7
  | brk=>obtain ⟨σ7,H7,I7,q7⟩:=q7; exact ⟨σ7,H7,I7.unpinned,q7⟩
  | ret v=>obtain ⟨x7,σ7,H7,I7,r7,q7⟩:=q7; exact ⟨x7,σ7,H7,I7.unpinned,r7,q7⟩
end
theorem yam {K:W.Frag} {a:Addr} {xs:List V} {g:TG} {tb:TS} {D:yc1} {σ:St} {H:Hp} (Pv:Nat->St->Hp->Prop) (h0:Pv 0 σ H) (hl:∀ i σ H,i <= xs.length->Pv i σ H->SqL K H a xs)
  (hs:∀ i x σ H,xs[i]?=some x->Pv i σ H->g x σ H fun σ2 H2=>tb { D with nx:=Pv (i+1),ct:=Pv (i+1),bk:=D.nx } σ2 H2) (hd:∀ σ H,Pv xs.length σ H->D.nx σ H) :
  ∃ W:Nat->Nat->St->Hp->Prop,(∃ m,W 0 m σ H)/\∀ i m σ H,W i m σ H ->
   ((Itl K a).stop i H/\D.nx σ H)\/((Itl K a).go i H/\∃ N:St->Hp->Prop,(∀ σ' H',N σ' H'->∃ m',m' < m/\W (i+1) m' σ' H')/\∀ x H',(Itl K a).yld i H x H'->g x σ H' fun σ2 H2=>tb { D with nx:=N,ct:=N,bk:=D.nx } σ2 H2):=by
 refine ⟨fun i m σ H=>m=xs.length - i/\i <= xs.length/\Pv i σ H,⟨xs.length,by simp,Nat.zero_le _,h0⟩,?_⟩
 rintro i m σ H ⟨rfl,hi,p⟩
 have q:=hl i σ H hi p
 by_cases hlt:i < xs.length
 ·refine .inr ⟨⟨xs,xs[i],q,by simp [hlt]⟩,Pv (i+1),fun σ' H' p'=>⟨xs.length - (i+1),by omega,rfl,hlt,p'⟩,fun x H' y=>?_⟩
  obtain ⟨e,y⟩:=y
  subst e
  exact hs i x σ _ (y xs q) p
 ·have e:i=xs.length:=by omega
  subst e
  exact .inl ⟨⟨xs,q,Nat.le_refl _⟩,hd σ H p⟩
theorem yb7 {lo:Int} {n:Nat} {g:TG} {tb:TS} {D:yc1} {σ:St} {H:Hp} (Pv:Nat->St->Hp->Prop) (h0:Pv 0 σ H)
  (hs:∀ i σ H,i < n->Pv i σ H->g (.int (lo+i)) σ H fun σ2 H2=>tb { D with nx:=Pv (i+1),ct:=Pv (i+1),bk:=D.nx } σ2 H2) (hd:∀ σ H,Pv n σ H->D.nx σ H) :
  ∃ W:Nat->Nat->St->Hp->Prop,(∃ m,W 0 m σ H)/\∀ i m σ H,W i m σ H ->
   ((Itr lo n).stop i H/\D.nx σ H)\/((Itr lo n).go i H/\∃ N:St->Hp->Prop,(∀ σ' H',N σ' H'->∃ m',m' < m/\W (i+1) m' σ' H')/\∀ x H',(Itr lo n).yld i H x H'->g x σ H' fun σ2 H2=>tb { D with nx:=N,ct:=N,bk:=D.nx } σ2 H2):=by
 refine ⟨fun i m σ H=>m=n - i/\i <= n/\Pv i σ H,⟨n,by simp,Nat.zero_le _,h0⟩,?_⟩
 rintro i m σ H ⟨rfl,hi,p⟩
 by_cases hlt:i < n
 ·refine .inr ⟨hlt,Pv (i+1),fun σ' H' p'=>⟨n - (i+1),by omega,rfl,hlt,p'⟩,fun x H' y=>?_⟩
  obtain ⟨e,y⟩:=y
  subst e y
  exact hs i σ _ hlt p
 ·have e:i=n:=by omega
  subst e
  exact .inl ⟨Nat.le_refl _,hd σ H p⟩
end L2
namespace L2
open PySem PySem.Spec PyProof.Rows
abbrev R2:=V->V->Hp->VK->Prop
def OpR (X:Cx) (f:Value->Value->Sem Value) (r:R2):Prop :=
 ∀ (pins:List (Addr × Obj)) (s:Shared) (σ:St) (H:Hp) (x y:V) (v u:Value) (Q:VK),Inv X pins σ H s->xl x v->xl y u->r x y H Q ->
  wpAny (model X.prog X.w) X.A (f v u) (EP X pins σ Q) X.xe s
def UnR (X:Cx) (f:Value->Sem Value) (r:V->Hp->VK->Prop):Prop :=
 ∀ (pins:List (Addr × Obj)) (s:Shared) (σ:St) (H:Hp) (x:V) (v:Value) (Q:VK),Inv X pins σ H s->xl x v->r x H Q ->
  wpAny (model X.prog X.w) X.A (f v) (EP X pins σ Q) X.xe s
def ybb (X:Cx) (f:Value) (r:List V->Hp->VK->Prop):Prop :=
 ∀ (pins:List (Addr × Obj)) (s:Shared) (σ:St) (H:Hp) (xs:List V) (us:List Value) (Q:VK),Inv X pins σ H s->wz xs us->r xs H Q ->
  wpAny (model X.prog X.w) X.A (call f us) (EP X pins σ Q) X.xe s
def tOp (r:R2) (ta tb:TE):TE:=fun σ H Q=>ta σ H fun x H1=>tb σ H1 fun y H2=>r x y H2 Q
def tUn (r:V->Hp->VK->Prop) (ta:TE):TE:=fun σ H Q=>ta σ H fun x H1=>r x H1 Q
def rI (C:Int->Int->Prop) (g:Int->Int->V):R2:=fun x y H Q=>∃ i j,x=.int i/\y=.int j/\C i j/\Q (g i j) H
def rI0 (g:Int->Int->V):R2:=fun x y H Q=>∃ i j,x=.int i/\y=.int j/\Q (g i j) H
def rU (g:Int->V):V->Hp->VK->Prop:=fun x H Q=>∃ i,x=.int i/\Q (g i) H
section
variable {X:Cx} {a b c:Expr} {ta tb tc:TE} {pos:Pos}
theorem vcw (ha:PE X a ta) (hb:PE X b tb) {pins:List (Addr × Obj)} {s:Shared} {σ:St} {H:Hp} {R:V->V->Hp->Prop} (I:Inv X pins σ H s)
  (h:ta σ H fun x H1=>tb σ H1 fun y H2=>R x y H2) {Q:Value->Shared->Prop} {f:Value->Value->Sem Value}
  (hf:∀ v u s2 x y H2,Inv X pins σ H2 s2->xl x v->xl y u->R x y H2->wpAny (model X.prog X.w) X.A (f v u) Q X.xe s2) :
  wpAny (model X.prog X.w) X.A (eval a X.env) (fun v s₁=>wpAny (model X.prog X.w) X.A (eval b X.env) (fun u s₂=>wpAny (model X.prog X.w) X.A (f v u) Q X.xe s₂) X.xe s₁) X.xe s:=by
 refine thn (ha pins s σ H _ I h) fun v s1 ⟨x,H1,I1,r1,q1⟩=>?_
 refine thn (hb pins s1 σ H1 _ I1 q1) fun u s2 ⟨y,H2,I2,r2,q2⟩=>?_
 exact hf v u s2 x y H2 I2 r1 r2 q2
theorem yo {op:Operator} {r:R2} (ho:OpR X (binaryOp op) r) (ha:PE X a ta) (hb:PE X b tb):PE X (.BinOp a op b pos) (tOp r ta tb):=by
 intro pins s σ H Q I h
 exact wpAny_BinOp (vcw ha hb I h fun v u s2 x y H2 I2 rx ry q=>ho pins s2 σ H2 x y v u Q I2 rx ry q)
theorem vcp {op:UnaryOp} {r:V->Hp->VK->Prop} (ho:UnR X (unaryOp op) r) (ha:PE X a ta):PE X (.UnaryOp op a pos) (tUn r ta):=by
 intro pins s σ H Q I h
 exact UnaryOp_ (thn (ha pins s σ H _ I h) fun v s1 ⟨x,H1,I1,r1,q1⟩=>ho pins s1 σ H1 x v Q I1 r1 q1)
theorem opI {f:Value->Value->Sem Value} {C:Int->Int->Prop} {g:Int->Int->Int}
  (rule:∀ (i j:Int) (t u:Tok) (s:Shared) (Q:Value->Shared->Prop) (E:Value->Shared->Prop),C i j->Q (.int (g i j) s.toks) { s with toks:=s.toks+1 }->wpAny (model X.prog X.w) X.A (f (.int i t) (.int j u)) Q E s) :
  OpR X f (rI C fun i j=>.int (g i j)):=by
 intro pins s σ H x y v u Q I rx ry h
 obtain ⟨i,j,rfl,rfl,hc,q⟩:=h
 obtain ⟨t,rfl⟩:=rx
 obtain ⟨t',rfl⟩:=ry
 exact rule i j t t' s _ _ hc ⟨.int (g i j),H,I.tok _,⟨_,rfl⟩,q⟩
theorem vcz {f:Value->Value->Sem Value} {g:Int->Int->Int}
  (rule:∀ (i j:Int) (t u:Tok) (s:Shared) (Q:Value->Shared->Prop) (E:Value->Shared->Prop),Q (.int (g i j) s.toks) { s with toks:=s.toks+1 }->wpAny (model X.prog X.w) X.A (f (.int i t) (.int j u)) Q E s) :
  OpR X f (rI0 fun i j=>.int (g i j)):=by
 intro pins s σ H x y v u Q I rx ry h
 obtain ⟨i,j,rfl,rfl,q⟩:=h
 obtain ⟨t,rfl⟩:=rx
 obtain ⟨t',rfl⟩:=ry
 exact rule i j t t' s _ _ ⟨.int (g i j),H,I.tok _,⟨_,rfl⟩,q⟩
theorem vba {f:Value->Value->Sem Value} {g:Int->Int->Bool}
  (rule:∀ (i j:Int) (t u:Tok) (s:Shared) (Q:Value->Shared->Prop) (E:Value->Shared->Prop),Q (.bool (g i j)) s->wpAny (model X.prog X.w) X.A (f (.int i t) (.int j u)) Q E s) :
  OpR X f (rI0 fun i j=>.bl (g i j)):=by
 intro pins s σ H x y v u Q I rx ry h
 obtain ⟨i,j,rfl,rfl,q⟩:=h
 obtain ⟨t,rfl⟩:=rx
 obtain ⟨t',rfl⟩:=ry
 exact rule i j t t' s _ _ ⟨.bl (g i j),H,I,rfl,q⟩
def vc5 (i j:Int):Prop:=0 <= j/\j <= 1000000/\i.natAbs < 2 ^ 64
def vc8 (i j:Int):Prop:=(-(2 ^ 64) < i/\i < 2 ^ 64)\/(-(2 ^ 64) < j/\j < 2 ^ 64)
theorem vc8.ok {i j:Int} (h:vc8 i j):IntMulOk i j:=by
 rcases h with ⟨h1,h2⟩ | ⟨h1,h2⟩
 ·exact .of_left (intBits_le_64 h1 h2)
 ·exact .of_right (intBits_le_64 h1 h2)
theorem yjj (k:Nat):(0:Int) <= 2 ^ k:=by
 rw [two_pow_cast]
 exact Int.natCast_nonneg _
theorem wu:OpR X (binaryOp .Add) (rI0 fun i j=>.int (i+j)):=vcz fun _ _ _ _ _ _ _ q=>add_int q
theorem ux:OpR X (binaryOp .Sub) (rI0 fun i j=>.int (i - j)):=vcz fun _ _ _ _ _ _ _ q=>sub_int q
theorem w8:OpR X (binaryOp .Mult) (rI vc8 fun i j=>.int (i * j)):=opI fun _ _ _ _ _ _ _ hc q=>mul_int q hc.ok
theorem wn:OpR X (binaryOp .Mod) (rI (fun _ j=>0 < j) fun i j=>.int (i % j)):=opI fun i j _ _ _ _ _ hc q=>by
 have h1:(0:Int) < j:=hc
 exact mod_int' (by omega) (by rw [Int.fmod_eq_emod_of_nonneg i (by omega)]; exact q)
theorem yys:OpR X (binaryOp .Pow) (rI vc5 fun i j=>.int (i ^ j.toNat)):=opI fun _ _ _ _ _ _ _ hc q=>pow_int_small hc.1 hc.2.1 hc.2.2 q
theorem ypl:OpR X (binaryOp .RShift) (rI (fun _ j=>0 <= j) fun i j=>.int (i / 2 ^ j.toNat)):=opI fun i j _ _ _ _ _ hc q =>
 rshift_int hc (by rw [Int.fdiv_eq_ediv_of_nonneg i (yjj _)]; exact q)
theorem yq1:OpR X (binaryOp .BitAnd) (rI0 fun i j=>.int (Builtin.bitAnd i j)):=vcz fun _ _ _ _ _ _ _ q=>and_int q
theorem unI {f:Value->Sem Value} {g:Int->Int}
  (rule:∀ (i:Int) (t:Tok) (s:Shared) (Q:Value->Shared->Prop) (E:Value->Shared->Prop),Q (.int (g i) s.toks) { s with toks:=s.toks+1 }->wpAny (model X.prog X.w) X.A (f (.int i t)) Q E s) :
  UnR X f (rU fun i=>.int (g i)):=by
 intro pins s σ H x v Q I rx h
 obtain ⟨i,rfl,q⟩:=h
 obtain ⟨t,rfl⟩:=rx
 exact rule i t s _ _ ⟨.int (g i),H,I.tok _,⟨_,rfl⟩,q⟩
theorem yzp:UnR X (unaryOp .USub) (rU fun i=>.int (-i)):=unI fun _ _ _ _ _ q=>neg_int q
end
def vdr:V->V->Bool
 | .non,.non=>true | .non,.int _=>true | .int _,.non=>true | .non,.bl _=>true | .bl _,.non=>true | .non,.str _=>true | .str _,.non=>true
 | .int _,.int _=>true | .bl _,.bl _=>true | .str _,.str _=>true | .byt _,.byt _=>true
 | .int _,.str _=>true | .str _,.int _=>true | .bl _,.str _=>true | .str _,.bl _=>true
 | _,_=>false
def rEq:R2:=fun x y H Q=>vdr x y=true/\Q (.bl (decide (x=y))) H
def rNe:R2:=fun x y H Q=>vdr x y=true/\Q (.bl (!decide (x=y))) H
theorem ylu {i j:Int}:decide (V.int i=V.int j)=(i == j):=by
 rw [Bool.eq_iff_iff]
 simp
theorem yqq {i j:Bool}:decide (V.bl i=V.bl j)=(i == j):=by
 rw [Bool.eq_iff_iff]
 simp
theorem yl6 {i j:Str}:decide (V.str i=V.str j)=(i == j):=by
 rw [Bool.eq_iff_iff]
 simp
theorem ymf {i j:Array UInt8}:decide (V.byt i=V.byt j)=(i.toList == j.toList):=by
 rw [Bool.eq_iff_iff]
 cases i
 cases j
 simp
section
variable {X:Cx} {a b c:Expr} {ta tb tc:TE} {pos:Pos}
theorem wt {pins:List (Addr × Obj)} {σ:St} {H:Hp} {s:Shared} {Q:VK} {k k':Bool} (I:Inv X pins σ H s) (q:Q (.bl k) H) (e:k=k'):EP X pins σ Q (.bool k') s:=by
 subst e
 exact ⟨.bl k,H,I,rfl,q⟩
theorem uj:OpR X (compareOp .Eq) rEq:=by
 intro pins s σ H x y v u Q I rx ry h
 obtain ⟨hs,q⟩:=h
 cases x with
 | non =>
  cases rx
  cases y with
  | non=>cases ry; exact PySem.EqNone.eq_none_none (wt I q (by simp))
  | bl j=>cases ry; exact PySem.EqNone.eq_none_bool (wt I q (by simp))
  | int j=>obtain ⟨t',rfl⟩:=ry; exact PySem.EqNone.eq_none_int (wt I q (by simp))
  | str j=>obtain ⟨t',rfl⟩:=ry; exact PySem.EqNone.eq_none_str (wt I q (by simp))
  | _=>exact absurd (show false=true from hs) Bool.false_ne_true
 | bl i =>
  cases rx
  cases y with
  | non=>cases ry; exact PySem.EqNone.eq_bool_none (wt I q (by simp))
  | bl j=>cases ry; exact eq_bool (wt I q yqq)
  | str j=>obtain ⟨t',rfl⟩:=ry; exact PySem.EqMixed.eq_bool_str (wt I q (by simp))
  | _=>exact absurd (show false=true from hs) Bool.false_ne_true
 | int i =>
  obtain ⟨t,rfl⟩:=rx
  cases y with
  | non=>cases ry; exact PySem.EqNone.eq_int_none (wt I q (by simp))
  | int j=>obtain ⟨t',rfl⟩:=ry; exact eq_int (wt I q ylu)
  | str j=>obtain ⟨t',rfl⟩:=ry; exact PySem.EqMixed.eq_int_str (wt I q (by simp))
  | _=>exact absurd (show false=true from hs) Bool.false_ne_true
 | str i =>
  obtain ⟨t,rfl⟩:=rx
  cases y with
  | non=>cases ry; exact PySem.EqNone.eq_str_none (wt I q (by simp))
  | bl j=>cases ry; exact PySem.EqMixed.eq_str_bool (wt I q (by simp))
  | int j=>obtain ⟨t',rfl⟩:=ry; exact PySem.EqMixed.eq_str_int (wt I q (by simp))
  | str j=>obtain ⟨t',rfl⟩:=ry; exact eq_str (wt I q yl6)
  | _=>exact absurd (show false=true from hs) Bool.false_ne_true
 | byt i =>
  obtain ⟨t,rfl⟩:=rx
  cases y with
  | byt j=>obtain ⟨t',rfl⟩:=ry; exact W.eq_bytes (wt I q ymf)
  | _=>exact absurd (show false=true from hs) Bool.false_ne_true
 | _=>cases y <;> exact absurd (show false=true from hs) Bool.false_ne_true
theorem van:OpR X (compareOp .NotEq) rNe:=by
 intro pins s σ H x y v u Q I rx ry h
 obtain ⟨hs,q⟩:=h
 cases x with
 | non =>
  cases rx
  cases y with
  | non=>cases ry; exact PySem.EqNone.ne_none_none (wt I q (by simp))
  | bl j=>cases ry; exact PySem.EqNone.ne_none_bool (wt I q (by simp))
  | int j=>obtain ⟨t',rfl⟩:=ry; exact PySem.EqNone.ne_none_int (wt I q (by simp))
  | str j=>obtain ⟨t',rfl⟩:=ry; exact PySem.EqNone.ne_none_str (wt I q (by simp))
  | _=>exact absurd (show false=true from hs) Bool.false_ne_true
 | bl i =>
  cases rx
  cases y with
  | non=>cases ry; exact PySem.EqNone.ne_bool_none (wt I q (by simp))
  | bl j=>cases ry; exact ne_bool (wt I q (congrArg not yqq))
  | str j=>obtain ⟨t',rfl⟩:=ry; exact PySem.EqMixed.ne_bool_str (wt I q (by simp))
  | _=>exact absurd (show false=true from hs) Bool.false_ne_true
 | int i =>
  obtain ⟨t,rfl⟩:=rx
  cases y with
  | non=>cases ry; exact PySem.EqNone.ne_int_none (wt I q (by simp))
  | int j=>obtain ⟨t',rfl⟩:=ry; exact ne_int (wt I q (congrArg not ylu))
  | str j=>obtain ⟨t',rfl⟩:=ry; exact PySem.EqMixed.ne_int_str (wt I q (by simp))
  | _=>exact absurd (show false=true from hs) Bool.false_ne_true
 | str i =>
  obtain ⟨t,rfl⟩:=rx
  cases y with
  | non=>cases ry; exact PySem.EqNone.ne_str_none (wt I q (by simp))
  | bl j=>cases ry; exact PySem.EqMixed.ne_str_bool (wt I q (by simp))
  | int j=>obtain ⟨t',rfl⟩:=ry; exact PySem.EqMixed.ne_str_int (wt I q (by simp))
  | str j=>obtain ⟨t',rfl⟩:=ry; exact ne_str (wt I q (congrArg not yl6))
  | _=>exact absurd (show false=true from hs) Bool.false_ne_true
 | byt i =>
  obtain ⟨t,rfl⟩:=rx
  cases y with
  | byt j=>obtain ⟨t',rfl⟩:=ry; exact W.ne_bytes (wt I q (congrArg not ymf))
  | _=>exact absurd (show false=true from hs) Bool.false_ne_true
 | _=>cases y <;> exact absurd (show false=true from hs) Bool.false_ne_true
theorem yfr:OpR X (compareOp .Lt) (rI0 fun i j=>.bl (decide (i < j))):=vba fun _ _ _ _ _ _ _ q=>lt_int q
theorem jj:OpR X (compareOp .LtE) (rI0 fun i j=>.bl (decide (i <= j))):=vba fun _ _ _ _ _ _ _ q=>le_int q
theorem yu3:OpR X (compareOp .Gt) (rI0 fun i j=>.bl (decide (j < i))):=vba fun _ _ _ _ _ _ _ q=>gt_int q
theorem vbo:OpR X (compareOp .GtE) (rI0 fun i j=>.bl (decide (j <= i))):=vba fun _ _ _ _ _ _ _ q=>ge_int q
theorem yio:OpR X (compareOp .Is) (fun x y H Q=>y=.non/\Q (.bl (decide (x=.non))) H):=by
 intro pins s σ H x y v u Q I rx ry h
 obtain ⟨rfl,q⟩:=h
 cases ry
 refine is_none_gen (wt I q ?_)
 cases x <;> first
  | (cases rx; rfl)
  | (obtain ⟨t,rfl⟩:=rx; rfl)
theorem vq (b:Expr) {op:CmpOp} (h:op≠.In:=by decide) (h2:op≠.NotIn:=by decide):behindInMarks op b=false:=by
 have e1:(op == CmpOp.In)=false:=by cases op <;> first | rfl | exact absurd rfl h
 have e2:(op == CmpOp.NotIn)=false:=by cases op <;> first | rfl | exact absurd rfl h2
 cases b <;> simp [behindInMarks,e1,e2]
theorem yaz {op:CmpOp} {r:R2} (ho:OpR X (compareOp op) r) (ha:PE X a ta) (hb:PE X b tb) (hm:behindInMarks op b=false):PE X (.Compare a [op] [b] pos) (tOp r ta tb):=by
 intro pins s σ H Q I h
 exact wpAny_Compare1 (vcw ha hb I h fun v u s2 x y H2 I2 rx ry q=>ho pins s2 σ H2 x y v u Q I2 rx ry q) hm
def yun (t:TE):TT:=fun σ H Q=>t σ H fun x H'=>∃ k,x=.bl k/\Q k H'
theorem yz {op:CmpOp} {r:R2} (ho:OpR X (compareOp op) r) (ha:PE X a ta) (hb:PE X b tb) (hm:behindInMarks op b=false):PT X (.Compare a [op] [b] pos) (yun (tOp r ta tb)):=by
 intro pins s σ H Q I h
 refine wpAny_isTrue_Compare1 (thn (ha pins s σ H _ I h) fun v s1 ⟨x,H1,I1,r1,q1⟩=>thn (hb pins s1 σ H1 _ I1 q1) fun u s2 ⟨y,H2,I2,r2,q2⟩ =>
  thn (ho pins s2 σ H2 x y v u _ I2 r1 r2 q2) fun c s3 ⟨z,H3,I3,r3,k,e,q3⟩=>?_) hm
 subst e
 cases r3
 exact wpAny_truthy_bool ⟨H3,I3,q3⟩
def ymk (r r':R2) (ta tb tc:TE):TE:=fun σ H Q=>ta σ H fun x H1=>tb σ H1 fun y H2=>r x y H2 fun z H3=>∃ k,z=.bl k /\
 (if k=true then tc σ H3 fun w' H4=>r' y w' H4 Q else Q (.bl false) H3)
theorem ybh {op op':CmpOp} {r r':R2} (ho:OpR X (compareOp op) r) (ho':OpR X (compareOp op') r') (ha:PE X a ta) (hb:PE X b tb) (hc:PE X c tc)
  (hm:lastMarks [op,op'] [b,c]=false:=by with_unfolding_all rfl):PE X (.Compare a [op,op'] [b,c] pos) (ymk r r' ta tb tc):=by
 intro pins s σ H Q I h
 refine Compare_chain (thn (ha pins s σ H _ I h) fun v s1 ⟨x,H1,I1,r1,q1⟩=>chain_link (thn (hb pins s1 σ H1 _ I1 q1) fun u s2 ⟨y,H2,I2,r2,q2⟩ =>
  thn (ho pins s2 σ H2 x y v u _ I2 r1 r2 q2) fun d s3 ⟨z,H3,I3,r3,k,e,q3⟩=>?_)) hm
 subst e
 cases r3
 refine wpAny_truthy_bool ?_
 cases k with
 | false=>exact ite_ff ⟨.bl false,H3,I3,rfl,q3⟩
 | true=>exact ite_tt (chain_last (thn (hc pins s3 σ H3 _ I3 q3) fun w' s4 ⟨z',H4,I4,r4,q4⟩=>ho' pins s4 σ H4 y z' u w' Q I4 r2 r4 q4))
theorem ydt {op op':CmpOp} {r r':R2} (ho:OpR X (compareOp op) r) (ho':OpR X (compareOp op') r') (ha:PE X a ta) (hb:PE X b tb) (hc:PE X c tc)
  (hm:lastMarks [op,op'] [b,c]=false:=by with_unfolding_all rfl):PT X (.Compare a [op,op'] [b,c] pos) (yun (ymk r r' ta tb tc)):=by
 intro pins s σ H Q I h
 refine isTrue_chain (thn (ha pins s σ H _ I h) fun v s1 ⟨x,H1,I1,r1,q1⟩=>test_link (thn (hb pins s1 σ H1 _ I1 q1) fun u s2 ⟨y,H2,I2,r2,q2⟩ =>
  thn (ho pins s2 σ H2 x y v u _ I2 r1 r2 q2) fun d s3 ⟨z,H3,I3,r3,k,e,q3⟩=>?_)) hm
 subst e
 cases r3
 refine wpAny_truthy_bool ?_
 cases k with
 | false =>
  obtain ⟨k',e',q'⟩:=q3
  cases e'
  exact ite_ff ⟨H3,I3,q'⟩
 | true =>
  refine ite_tt (test_last (thn (hc pins s3 σ H3 _ I3 q3) fun w' s4 ⟨z',H4,I4,r4,q4⟩=>thn (ho' pins s4 σ H4 y z' u w' _ I4 r2 r4 q4) fun d' s5 ⟨z2,H5,I5,r5,k2,e2,q5⟩=>?_))
  subst e2
  cases r5
  exact wpAny_truthy_bool ⟨H5,I5,q5⟩
theorem yib:(sizeLine:Nat) < 2 ^ 63:=by rw [sizeLine_eq]; decide
theorem ynf {x:V} {us:List Value} (r:wz [x] us):∃ u,us=[u]/\xl x u:=by
 cases r with
 | cons r1 r2=>cases r2; exact ⟨_,rfl,r1⟩
theorem ynb {x y:V} {us:List Value} (r:wz [x,y] us):∃ u w',us=[u,w']/\xl x u/\xl y w':=by
 cases r with
 | cons r1 r2 =>
  cases r2 with
  | cons r3 r4=>cases r4; exact ⟨_,_,rfl,r1,r3⟩
theorem yet (hc:X.calm=true):ybb X (.builtin "max") (fun xs H Q=>∃ i j,xs=[.int i,.int j]/\Q (.int (if j > i then j else i)) H):=by
 intro pins s σ H xs us Q I r h
 obtain ⟨i,j,rfl,q⟩:=h
 obtain ⟨u,w',rfl,⟨t,rfl⟩,⟨t',rfl⟩⟩:=ynb r
 refine max_two_ints (I.ok.hd hc) fun h' tk k=>⟨_,H,I.kept k,?_,q⟩
 by_cases hj:j > i
 ·rw [if_pos hj,if_pos hj]; exact ⟨_,rfl⟩
 ·rw [if_neg hj,if_neg hj]; exact ⟨_,rfl⟩
theorem yfb (hc:X.calm=true):ybb X (.builtin "min") (fun xs H Q=>∃ i j,xs=[.int i,.int j]/\Q (.int (if j < i then j else i)) H):=by
 intro pins s σ H xs us Q I r h
 obtain ⟨i,j,rfl,q⟩:=h
 obtain ⟨u,w',rfl,⟨t,rfl⟩,⟨t',rfl⟩⟩:=ynb r
 refine min_two_ints (I.ok.hd hc) fun h' tk k=>⟨_,H,I.kept k,?_,q⟩
 by_cases hj:j < i
 ·rw [if_pos hj,if_pos hj]; exact ⟨_,rfl⟩
 ·rw [if_neg hj,if_neg hj]; exact ⟨_,rfl⟩
end
end L2
namespace L2
open PySem PySem.Spec PyProof.Rows
structure yv1 (h:Heap) (x dx C:Addr) (mA:Str->Option Value):Prop where
 obj:h.get? x=some (W.instObj C dx)
 ns:h.Ns1 dx mA
 ne:dx≠x
theorem ylf {h:Heap} {dx:Addr} {mA:Str->Option Value} (n:h.Ns1 dx mA):∃ od,h.get? dx=some od/\∀ name,W.lookIn name od=some (mA name):=by
 obtain ⟨o,es,ep,ho,hd,hk,_,hm⟩:=n
 refine ⟨o,ho,fun name=>?_⟩
 have e:=hm name
 unfold nsFind findBy at e
 rw [<- Array.find?_toList] at e
 unfold W.lookIn
 rw [hd]
 dsimp only
 split
 ·rename_i y q
  rw [q] at e
  exact congrArg some e
 ·rename_i q
  rw [q] at e
  have a:es.toList.any (·.refKey)=false:=by
   rw [List.any_eq_false]
   intro y hy
   obtain ⟨z,t,hkey⟩:=hk y (Array.mem_toList_iff.mp hy)
   simp [DictEntry.refKey,hkey]
  have a':¬ es.toList.any (·.refKey)=true:=by rw [a]; exact Bool.false_ne_true
  rw [if_neg a']
  exact congrArg some e
theorem yv1.look {h:Heap} {x dx C:Addr} {mA:Str->Option Value} (I:yv1 h x dx C mA):∃ od,W.InstAt h x (W.instObj C dx) C (some od)/\∀ name,W.lookIn name od=some (mA name) :=
 let ⟨od,ho,hl⟩:=ylf I.ns
 ⟨od,⟨I.obj,rfl,rfl,ho⟩,hl⟩
section
variable {prog:Program} {w:World} {A:Around} {E:Value->Shared->Prop} {s:Shared} {K:W.Frag} {x dx C f:Addr} {mA:Str->Option Value} {name:Str} {v:Value}
theorem ysu {expr:Bool} {Q:Value->Shared->Prop} (X:K.In s.heap) (I:yv1 s.heap x dx C mA) (hg:W.plainGet K C name=true) (hh:W.hasDictIn K C=true)
  (ha:W.findIn K (.ref C) name=some none) (hv:mA name=some v) (hv':W.handedIn v=true) (h:Q v { s with toks:=s.toks+1 }) :
  wpAny (model prog w) A (getAttr (.ref x) name expr) Q E s:=by
 obtain ⟨od,J,hl⟩:=I.look
 exact W.get_value X J (W.plainGet_of hg).1 (W.findObj_own hh ha rfl (by rw [hl,hv])) hv' h
theorem yon {pl:Sem Bool} {Q:Value × List Value->Shared->Prop} (X:K.In s.heap) (I:yv1 s.heap x dx C mA) (hg:W.plainGet K C name=true)
  (hf:W.findIn K (.ref C) name=some (some (.ref f))) (ht:W.isFn K (.ref f)=true) (hv:mA name=none) (h:Q (.ref f,[.ref x]) s) :
  wpAny (model prog w) A (getMethod (.ref x) name pl) Q E s:=by
 obtain ⟨od,J,hl⟩:=I.look
 exact W.method_fn X J (W.plainGet_of hg).1 (W.plainGet_of hg).2 hf (beq_iff_eq.mp ht) (by show (W.lookIn name od).map (·.isSome)=some false; rw [hl,hv]; rfl) h
theorem yru {ns:List Str} {Q:Unit->Shared->Prop} (X:K.In s.heap) (I:yv1 s.heap x dx C mA)
  (hs:W.findIn K (.ref C) "__setattr__"=some (some (.builtin "object.__setattr__"))) (hp:W.plainOver K C=true) (ht:W.takerIn K C name=some none) (hh:W.hasDictIn K C=true)
  (hw:PySem.Within mA ns) (hsz:ns.length <= sizeLine)
  (h:∀ h',yv1 h' x dx C (fun y=>if y=name then some v else mA y)->Heap.SameBut dx s.heap h'->Q () { s with heap:=h',toks:=s.toks+2 }) :
  wpAny (model prog w) A (setAttr (.ref x) name v) Q E s:=by
 obtain ⟨od,J,hl⟩:=I.look
 refine W.set_plain X J hs (W.osa_open (s:={ s with toks:=s.toks+1 }) (r:=none) X J hp ht fun b=>?_)
 obtain ⟨cd,hc,hd'⟩:=W.any_some hh
 have hx:s.heap.get? x=some ⟨.ref C,some dx,.plain,#[]⟩:=I.obj
 refine wpAny_bind (wpAny_pure (wpAny_bind (wpAny_bind (wpAny_loadPart hx (wpAny_bind (W.Looks.here (s:={ s with toks:=s.toks+1 }) (W.looks_clsIn X hc) ?_))))))
 rw [hd']
 refine wpAny_pure (a:=some dx) (wpAny_bind (wpAny_pure (wpAny_bind ?_)))
 refine wpAny_nsSet1 (s:={ s with toks:=s.toks+1 }) I.ns fun h' hn2 hs2=>?_
 obtain ⟨oD,esD,epD,hoD,hdD,hcD⟩:=hn2.count (PySem.Within.cons name v hw)
 refine wpAny_bind (wpAny_lookBehind hoD (by rw [hdD]; exact pastItsLine_dict (Nat.le_trans hcD (by rw [List.length_cons]; omega))) ?_)
 exact wpAny_pure (h _ ⟨(hs2.2 _ (Ne.symm I.ne)).trans I.obj,hn2,I.ne⟩ hs2)
theorem yhn {R:Result->Shared->Prop} {vs:List Value} {kw:List (Str × Value)} (X:K.In s.heap) (hm:W.makesIn K C=true)
  (hi:W.findIn K (.ref C) "__init__"=some (some (.ref f))) (hf:W.typeIn K (.ref f)=some (.type "function"))
  (h:codeAny (model prog w) (A.under (.builtin "type.__call__" ⟨.ref C :: vs,kw⟩)) (.call (.ref f) ⟨.ref (s.heap.objs.size+1) :: vs,kw⟩) (W.InitBack (s.heap.objs.size+1) R)
   { s with heap:=(s.heap.push W.emptyDict).push (W.instObj C s.heap.objs.size) }) :
  codeAny (model prog w) A (.call (.ref C) ⟨vs,kw⟩) R s:=by
 obtain ⟨hh,g,d,t,os⟩:=s
 exact W.make_core (W.makes_of X hm) (W.looks_findIn X hi) (fun self=>W.bind_fn X self hf) (.inl rfl) h
end
def wo (f:Str) (v:V):List (Str × V)->List (Str × V)
 | []=>[(f,v)]
 | (g,x) :: r=>if g=f then (g,v) :: r else (g,x) :: wo f v r
theorem ybv (f g:Str) (v:V):∀ fs:List (Str × V),(wo f v fs).lookup g=if g=f then some v else fs.lookup g
 | []=>by
  show List.lookup g [(f,v)]=_
  by_cases h:g=f
  ·have hb:(g == f)=true:=beq_iff_eq.mpr h
   simp only [List.lookup,hb,if_pos h]
  ·have hb:(g == f)=false:=beq_eq_false_iff_ne.mpr h
   simp only [List.lookup,hb,if_neg h]
 | (k,x) :: r=>by
  have ih:=ybv f g v r
  rw [show wo f v ((k,x) :: r)=(if k=f then (k,v) :: r else (k,x) :: wo f v r) from rfl]
  by_cases hk:k=f
  ·rw [if_pos hk]
   by_cases h:g=k
   ·have hb:(g == k)=true:=beq_iff_eq.mpr h
    simp only [List.lookup,hb,if_pos (h.trans hk)]
   ·have hb:(g == k)=false:=beq_eq_false_iff_ne.mpr h
    simp only [List.lookup,hb,if_neg (fun e:g=f=>h (e.trans hk.symm))]
  ·rw [if_neg hk]
   by_cases h:g=k
   ·have hb:(g == k)=true:=beq_iff_eq.mpr h
    simp only [List.lookup,hb,if_neg (fun e:g=f=>hk (h.symm.trans e))]
   ·have hb:(g == k)=false:=beq_eq_false_iff_ne.mpr h
    simp only [List.lookup,hb]
    exact ih
theorem yb8 (f:Str) (v:V):∀ fs:List (Str × V),f∈(wo f v fs).map (·.1)/\∀ g,g∈fs.map (·.1)->g∈(wo f v fs).map (·.1)
 | []=>⟨by simp [wo],fun g h=>by simp at h⟩
 | (k,x) :: r=>by
  obtain ⟨i1,i2⟩:=yb8 f v r
  rw [show wo f v ((k,x) :: r)=(if k=f then (k,v) :: r else (k,x) :: wo f v r) from rfl]
  by_cases hk:k=f
  ·rw [if_pos hk]
   subst hk
   exact ⟨by simp,fun g h=>by simpa using h⟩
  ·rw [if_neg hk]
   refine ⟨?_,fun g h=>?_⟩
   ·rw [List.map_cons]
    exact List.mem_cons_of_mem _ i1
   ·rw [List.map_cons] at h ⊢
    rcases List.mem_cons.mp h with e | e
    ·exact List.mem_cons.mpr (.inl e)
    ·exact List.mem_cons_of_mem _ (i2 g e)
theorem yby (f:Str) (v:V):∀ fs:List (Str × V),(wo f v fs).length <= fs.length+1
 | []=>by simp [wo]
 | (k,x) :: r=>by
  have ih:=yby f v r
  rw [show wo f v ((k,x) :: r)=(if k=f then (k,v) :: r else (k,x) :: wo f v r) from rfl]
  by_cases hk:k=f
  ·rw [if_pos hk,List.length_cons,List.length_cons]; omega
  ·rw [if_neg hk,List.length_cons,List.length_cons]; omega
theorem yfv.some_of {v:V} {o:Option Value} (r:yfv (some v) o):∃ u,o=some u/\xl v u:=by
 cases o with
 | none=>exact (show False from r).elim
 | some u=>exact ⟨u,rfl,r⟩
theorem yfv.none_of {o:Option Value} (r:yfv none o):o=none:=by
 cases o with
 | none=>rfl
 | some u=>exact (show False from r).elim
theorem ykp {v:V} {u:Value} (r:xl v u):W.handedIn u=true:=by
 cases v with
 | non=>cases (show u=Value.none from r); rfl
 | bl b=>cases (show u=Value.bool b from r); rfl
 | int i=>obtain ⟨t,e⟩:=(show ∃ t,u=Value.int i t from r); cases e; rfl
 | str x=>obtain ⟨t,e⟩:=(show ∃ t,u=Value.str x t from r); cases e; rfl
 | byt b=>obtain ⟨t,e⟩:=(show ∃ t,u=Value.bytes b t from r); cases e; rfl
 | flt b=>obtain ⟨t,e⟩:=(show ∃ t,u=Value.float b t from r); cases e; rfl
 | ref a=>cases (show u=Value.ref a from r); rfl
 | ty n=>cases (show u=Value.type n from r); rfl
section
variable {P:Program} {w:World} {H H':Hp} {h h':Heap} {a C dx:Addr} {fs fs':List (Str × V)}
theorem yd3 (hok:HOk P w H h) (e:H a=some (.ins C dx fs)):∃ mA,yv1 h a dx C mA/\(∀ f,yfv (fs.lookup f) (mA f))/\PySem.Within mA (fs.map (·.1))/\fs.length <= 1000/\H dx=some (.own a):=by
 obtain ⟨d,z,ne,ob,mA,n,r,q⟩:=(show xp P w H h a (.ins C dx fs) from hok a _ e)
 exact ⟨mA,⟨ob,n,ne⟩,r,q,z,d⟩
end
structure Cls (K:W.Frag) (C:Addr):Prop where
 pg:W.plainGet K C Str.empty=true
 hd:W.hasDictIn K C=true
 po:W.plainOver K C=true
 sa:W.findIn K (.ref C) "__setattr__"=some (some (.builtin "object.__setattr__"))
theorem Cls.get {K:W.Frag} {C:Addr} (c:Cls K C) (f:Str):W.plainGet K C f=true:=c.pg
def yr (K:W.Frag) (C:Addr) (f:Str):Prop:=W.findIn K (.ref C) f=some none
theorem yr.taker {K:W.Frag} {C:Addr} {f:Str} (n:yr K C f):W.takerIn K C f=some none:=by
 unfold W.takerIn
 rw [show W.findIn K (.ref C) f=some none from n]
 rfl
structure Con (K:W.Frag) (C:Addr) (f:Str) (v:V) (u:Value):Prop where
 at_:W.findIn K (.ref C) f=some (some u)
 rel:xl v u
 get:W.specialIn K u "__get__"=some none
 cp:W.copiedNames.contains f=false
structure yv4 (K:W.Frag) (C:Addr) (m:Str) (f:Addr):Prop where
 at_:W.findIn K (.ref C) m=some (some (.ref f))
 fn:W.isFn K (.ref f)=true
 kp:W.keepIn K (.ref f)=true
section
variable {X:Cx} {pins:List (Addr × Obj)} {σ:St} {H:Hp} {s:Shared} {a C dx:Addr} {fs:List (Str × V)} {f:Str} {v:V} {A:Around} {E:Value->Shared->Prop}
theorem yi0 {b:Bool} {Q:Value->Shared->Prop} (I:Inv X pins σ H s) (e:H a=some (.ins C dx fs)) (c:Cls X.K C) (n:yr X.K C f) (l:fs.lookup f=some v)
  (h:∀ u s',Inv X pins σ H s'->xl v u->Q u s'):wpAny (model X.prog X.w) A (getAttr (.ref a) f b) Q E s:=by
 obtain ⟨mA,O,r,_,_,_⟩:=yd3 I.hok e
 obtain ⟨u,hu,ru⟩:=yfv.some_of (v:=v) (o:=mA f) (by rw [<- l]; exact r f)
 exact ysu I.kIn O (c.get f) c.hd n hu (ykp ru) (h u _ (I.tok _) ru)
theorem yas {m:Str} {g:Addr} {pl:Sem Bool} {Q:Value × List Value->Shared->Prop} (I:Inv X pins σ H s) (e:H a=some (.ins C dx fs)) (c:Cls X.K C) (k:yv4 X.K C m g) (l:fs.lookup m=none)
  (h:Q (.ref g,[.ref a]) s):wpAny (model X.prog X.w) A (getMethod (.ref a) m pl) Q E s:=by
 obtain ⟨mA,O,r,_,_,_⟩:=yd3 I.hok e
 have hn:mA m=none:=yfv.none_of (by rw [<- l]; exact r m)
 exact yon I.kIn O (c.get m) k.at_ k.fn hn h
theorem yja {y:V} {u:Value} {Q:Unit->Shared->Prop} (I:Inv X pins σ H s) (e:H a=some (.ins C dx fs)) (c:Cls X.K C) (n:yr X.K C f) (hl:fs.length < 1000) (ry:xl y u)
  (h:∀ s',Inv X pins σ (upd H a (.ins C dx (wo f y fs))) s'->Q () s'):wpAny (model X.prog X.w) A (setAttr (.ref a) f u) Q E s:=by
 obtain ⟨mA,O,r,wi,_,ho⟩:=yd3 I.hok e
 have hz:(fs.map (·.1)).length <= sizeLine:=by rw [List.length_map,sizeLine_eq]; omega
 refine yru I.kIn O c.sa c.po n.taker c.hd wi hz fun h' O' sb=>h _ ?_
 have hd:∃ o,h'.get? dx=some o:=let ⟨o,_,_,e',_⟩:=O'.ns; ⟨o,e'⟩
 refine I.write (x:=a) (e:=dx) (by rw [e]; exact True.intro) (.inr ho) (fun b q hb z=>(sb.2 b hb).trans z) hd ?_
 refine ⟨by rw [yp O.ne]; exact ho,?_,O.ne,O'.obj,_,O'.ns,fun g=>?_,fun g hg=>?_⟩
 ·have:=yby f y fs; omega
 ·show yfv ((wo f y fs).lookup g) (if g=f then some u else mA g)
  rw [ybv]
  by_cases q:g=f
  ·rw [if_pos q,if_pos q]; exact ry
  ·rw [if_neg q,if_neg q]; exact r g
 ·by_cases q:g=f
  ·rw [q]; exact (yb8 f y fs).1
  ·refine (yb8 f y fs).2 g (wi g fun z=>hg ?_)
   show (if g=f then some u else mA g)=none
   rw [if_neg q]; exact z
theorem Inv.made (I:Inv X pins σ H s):Inv X pins σ (upd (upd H s.heap.objs.size (.own (s.heap.objs.size+1))) (s.heap.objs.size+1) (.ins C s.heap.objs.size []))
  { s with heap:=(s.heap.push W.emptyDict).push (W.instObj C s.heap.objs.size) }:=by
 have e1:(s.heap.push W.emptyDict).get? s.heap.objs.size=some W.emptyDict:=Heap.get?_push_size s.heap rfl
 have e2:((s.heap.push W.emptyDict).push (W.instObj C s.heap.objs.size)).get? (s.heap.objs.size+1)=some (W.instObj C s.heap.objs.size):=by
  have:=Heap.get?_push_size (s.heap.push W.emptyDict) (o:=W.instObj C s.heap.objs.size) rfl
  rwa [Heap.size_push] at this
 have e3:(s.heap.push W.emptyDict).Ns s.heap.objs.size (fun _=>none):=⟨W.emptyDict,#[],_,e1,rfl,(fun e he=>absurd he (by simp)),fun _=>rfl⟩
 have I1:=I.laid (a:=s.heap.objs.size) (o:=.own (s.heap.objs.size+1)) (h':=s.heap.push W.emptyDict) (t':=s.toks) (fun b u q=>Heap.get?_push_of_some _ q) (Nat.le_refl _) ⟨_,e1⟩
 refine I1.laid (a:=s.heap.objs.size+1) (o:=.ins C s.heap.objs.size []) (t':=s.toks) (fun b u q=>Heap.get?_push_of_some _ q) (Nat.le_of_eq (Heap.size_push _ _)) ?_
 have ne:s.heap.objs.size≠s.heap.objs.size+1:=Nat.ne_of_lt (Nat.lt_succ_self _)
 refine ⟨by rw [yp ne,yc],Nat.zero_le _,ne,e2,fun _=>none,(Heap.Ns1.of_empty e3).at fun o q=>Heap.get?_push_of_some _ q,fun _=>True.intro,fun y hy=>absurd rfl hy⟩
theorem yss {prog:Program} {w:World} {env:Env} {e:Expr} {f:Str} {pos:Pos} {s:Shared} {Q:Value->Shared->Prop} (hb:attributeBase e f env (eval e env)=eval e env)
  (h:wpAny (model prog w) A (eval e env) (fun o s₁=>wpAny (model prog w) A (getAttr o f true) Q E s₁) E s):wpAny (model prog w) A (eval (.Attribute e f pos) env) Q E s :=
 Attribute_any_ h (by rw [arm_eval_Attribute,hb])
end
def vcx (K:W.Frag) (ta:TE) (f:Str):TE:=fun σ H Q=>ta σ H fun x H1=>∃ a C dx fs v,x=.ref a/\H1 a=some (.ins C dx fs)/\Cls K C/\yr K C f/\fs.lookup f=some v/\Q v H1
def vdn (K:W.Frag) (ta tv:TE) (f:Str):TS:=fun D σ H=>tv σ H fun y H1=>ta σ H1 fun x H2=>∃ a C dx fs,x=.ref a/\H2 a=some (.ins C dx fs)/\Cls K C/\yr K C f/\fs.length < 1000 /\
 D.nx σ (upd H2 a (.ins C dx (wo f y fs)))
section
variable {X:Cx} {o e value:Expr} {f:Str} {pos pos' tpos:Pos} {ta tv:TE}
theorem yw (he:PE X e ta) (hb:attributeBase e f X.env (eval e X.env)=eval e X.env):PE X (.Attribute e f pos) (vcx X.K ta f):=by
 intro pins s σ H Q I h
 refine yss hb (thn (he pins s σ H _ I h) fun u s1 ⟨x,H1,I1,rx,a,C,dx,fs,v,ex,ea,c,n,l,q⟩=>?_)
 subst ex
 obtain rfl:u=Value.ref a:=rx
 exact yi0 I1 ea c n l fun u' s2 I2 ru=>⟨v,H1,I2,ru,q⟩
theorem v7 (ha:PE X o ta) (hv:PE X value tv) (hs:swapsWith value (some (.Attribute o f pos')) pos.line X.env=pure false):PS X (.Assign [.Attribute o f pos'] value pos) (vdn X.K ta tv f):=by
 intro pins s σ H D I h
 refine plainObj_wpAny_Assign_Attribute (thn (hv pins s σ H _ I h) fun u s1 ⟨y,H1,I1,ry,q⟩=>thn (ha pins s1 σ H1 _ I1 q) fun ov s2 ⟨x,H2,I2,rx,a,C,dx,fs,ex,ea,c,n,l,q2⟩=>?_) hs
 subst ex
 obtain rfl:ov=Value.ref a:=rx
 exact yja I2 ea c n l ry fun s3 I3=>⟨σ,_,I3,q2⟩
end
section
variable {X:Cx} {pins:List (Addr × Obj)} {σ:St} {H:Hp} {s:Shared} {A:Around} {E:Value->Shared->Prop} {Q:Value->Shared->Prop} {c:Value} {b:Bool}
inductive xw (K:W.Frag) (H:Hp):V->Value->Prop where
 | non:xw K H .non (.type "NoneType")
 | bl (x:Bool):xw K H (.bl x) (.type "bool")
 | int (i:Int):xw K H (.int i) (.type "int")
 | str (x:Str):xw K H (.str x) (.type "str")
 | flt (x:UInt64):xw K H (.flt x) (.type "float")
 | lst {a:Addr} {xs:List V} (e:H a=some (.lst xs)):xw K H (.ref a) (.type "list")
 | frz {a:Addr} {o:Obj} {xs:List V} (e:H a=some (.frz o (.lst xs))):xw K H (.ref a) (.type "list")
 | tup {a:Addr} {xs:List V} (e:H a=some (.tup xs)):xw K H (.ref a) (.type "tuple")
 | dK {a:Addr} {kvs:List (Key × V)} (e:H a=some (.dK kvs)):xw K H (.ref a) (.type "dict")
 | dT {a:Addr} {kvs:List (List Key × V)} (e:H a=some (.dT kvs)):xw K H (.ref a) (.type "dict")
 | ins {a C dx:Addr} {fs:List (Str × V)} (e:H a=some (.ins C dx fs)) (cl:Cls K C) (ha:W.findIn K (.ref C) "__class__"=some (some (.builtin "object.__class__")))
   (hn:W.specialIn K (.builtin "object.__class__") "__get__"=some (some (.builtin "getset_descriptor.__get__"))) (htk:W.takesIn K (.builtin "object.__class__")=some true)
   (hm:W.mroIn K C (.type "object")=some true):xw K H (.ref a) (.ref C)
theorem ylc {x:V} {u t:Value} (I:Inv X pins σ H s) (rx:xl x u) (ty:xw X.K H x t) (e:W.kitOne X.K t c=some b) (h:∀ tk,Q (.bool b) { s with toks:=tk }) :
  wpAny (model X.prog X.w) A (call (.builtin "isinstance") [u,c]) Q E s:=by
 cases ty with
 | non=>cases (show u=Value.none from rx); exact W.kia_one W.kitx_none I.kIn True.intro e (fun z=>nomatch z) h
 | bl y=>cases (show u=Value.bool y from rx); exact W.kia_one W.kitx_bool I.kIn True.intro e (fun z=>nomatch z) h
 | int i=>obtain ⟨t,q⟩:=(show ∃ t,u=Value.int i t from rx); cases q; exact W.kia_one W.kitx_int I.kIn True.intro e (fun z=>nomatch z) h
 | str y=>obtain ⟨t,q⟩:=(show ∃ t,u=Value.str y t from rx); cases q; exact W.kia_one W.kitx_str I.kIn True.intro e (fun z=>nomatch z) h
 | flt y=>obtain ⟨t,q⟩:=(show ∃ t,u=Value.float y t from rx); cases q; exact W.kia_one W.kitx_float I.kIn True.intro e (fun z=>nomatch z) h
 | @lst a xs ea =>
  cases (show u=Value.ref a from rx)
  obtain ⟨_,_,n,_,h1⟩:=(show xp X.prog X.w H s.heap a (.lst xs) from I.hok a _ ea)
  exact W.kia_one W.kitx_list I.kIn ⟨_,h1,rfl⟩ e (fun z=>nomatch z) h
 | @frz a ob xs ea =>
  cases (show u=Value.ref a from rx)
  obtain ⟨_,_,_,n,_,h1⟩:=(show xp X.prog X.w H s.heap a (.frz ob (.lst xs)) from I.hok a _ ea)
  exact W.kia_one W.kitx_list I.kIn ⟨_,h1,rfl⟩ e (fun z=>nomatch z) h
 | @tup a xs ea =>
  cases (show u=Value.ref a from rx)
  obtain ⟨_,_,_,p⟩:=(show xp X.prog X.w H s.heap a (.tup xs) from I.hok a _ ea)
  obtain ⟨o,h1,h2,_⟩:=p
  exact W.kia_one W.kitx_tuple I.kIn ⟨o,h1,h2⟩ e (fun z=>nomatch z) h
 | @dK a kvs ea =>
  cases (show u=Value.ref a from rx)
  obtain ⟨_,_,vs,_,p⟩:=(show xp X.prog X.w H s.heap a (.dK kvs) from I.hok a _ ea)
  obtain ⟨o,es,ep,h1,h2,_⟩:=p
  exact W.kia_one W.kitx_dict I.kIn ⟨o,h1,h2.1⟩ e (fun z=>nomatch z) h
 | @dT a kvs ea =>
  cases (show u=Value.ref a from rx)
  obtain ⟨_,_,xs,_,o,es,ep,h1,h2,_⟩:=(show xp X.prog X.w H s.heap a (.dT kvs) from I.hok a _ ea)
  exact W.kia_one W.kitx_dict I.kIn ⟨o,h1,h2.1⟩ e (fun z=>nomatch z) h
 | @ins a C dx fs ea cl ha hn htk hm =>
  cases (show u=Value.ref a from rx)
  obtain ⟨mA,O,_⟩:=yd3 I.hok ea
  obtain ⟨od,J,_⟩:=O.look
  exact W.kia_one (W.kitx_own (cl.get _) cl.hd ha hn htk hm) I.kIn J e (fun z=>nomatch z) h
end
end L2
namespace L2
open PySem PySem.Spec PyProof.Rows
structure jv (k:Nat) (A:Around):Prop where
 hd:A.handled=none
 dp:A.depth+3 * k+5 < recursionLimit
 un:A.units+16 * k+200 < cLine
theorem jv.mono {j k:Nat} {A:Around} (r:jv k A) (h:j <= k):jv j A:=⟨r.hd,by have:=r.dp; omega,by have:=r.un; omega⟩
theorem jv.deeper {k:Nat} {A:Around} (r:jv (k+1) A) (env:Env):jv k (A.deeper env) :=
 ⟨r.hd,by have:=r.dp; show A.depth+1+3 * k+5 < _; omega,by have:=r.un; show A.units+3+16 * k+200 < _; omega⟩
theorem yi1 {A:Around} {C:Addr} {us:List Value} {kw:List (Str × Value)}:(A.under (.builtin "type.__call__" ⟨.ref C :: us,kw⟩)).depth=A.depth+1:=by
 first | rfl | simp [Around.under,Code.weight,Code.isCreation,Code.isGuard,Code.isCaller,Code.frames,Code.isFrame,guardIds]
theorem yjl {A:Around} {C:Addr} {us:List Value} {kw:List (Str × Value)}:(A.under (.builtin "type.__call__" ⟨.ref C :: us,kw⟩)).units=A.units+1:=by
 first | rfl | simp [Around.under,Code.cUnits,Code.frames,Code.isFrame]
theorem jv.make {k:Nat} {A:Around} (r:jv (k+1) A) (C:Addr) (us:List Value) (kw:List (Str × Value)):jv k (A.under (.builtin "type.__call__" ⟨.ref C :: us,kw⟩)) :=
 ⟨r.hd,by have:=r.dp; rw [yi1]; omega,by have:=r.un; rw [yjl]; omega⟩
theorem jv.depth {k:Nat} {A:Around} (r:jv k A):A.depth < recursionLimit:=by have:=r.dp; omega
theorem jv.units {k:Nat} {A:Around} (r:jv k A):A.units+64 < cLine:=by have:=r.un; omega
def yrj:TA:=fun _ H Q=>Q [] H
def yug (ta:TE) (tr:TA):TA:=fun σ H Q=>ta σ H fun x H1=>tr σ H1 fun xs H2=>Q (x :: xs) H2
section
variable {X:Cx} {e:Expr} {es:List Expr} {te:TE} {t:TA} {pos:Pos}
theorem yd:PA X [] yrj:=fun _ _ _ _ H Q I h=>Calls.spliced_nil ⟨[],H,I,.nil,h⟩
theorem yb (ha:PE X e te) (hr:PA X es t) (hs:starEach (e :: es) X.env=(false,eval e X.env) :: starEach es X.env:=by rfl):PA X (e :: es) (yug te t):=by
 intro pos pins s σ H Q I h
 rw [hs]
 show wpAny _ _ (spliced ((false,eval e X.env) :: backTo pos (starEach es X.env))) _ _ s
 refine Calls.spliced_cons (thn (ha pins s σ H _ I h) fun u s1 ⟨x,H1,I1,r1,q1⟩=>?_)
 exact thn (hr pos pins s1 σ H1 _ I1 q1) fun us s2 ⟨xs,H2,I2,r2,q2⟩=>⟨x :: xs,H2,I2,.cons r1 r2,q2⟩
def vdt (t:TA):TE:=fun σ H Q=>t σ H fun xs H1=>xs.length <= sizeLine/\∀ p,H1 p=none->Q (.ref p) (upd H1 p (.tup xs))
def vc4 (t:TA):TE:=fun σ H Q=>t σ H fun xs H1=>xs.length <= sizeLine/\∀ p,H1 p=none->Q (.ref p) (upd H1 p (.lst xs))
theorem wb {x1} (h:PA X es t):PE X (.Tuple es x1 pos) (vdt t):=by
 intro pins s σ H Q I hq
 refine wpAny_Tuple_spliced (thn (h pos pins s σ H _ I hq) fun us s1 ⟨xs,H1,I1,r,z,q⟩=>⟨by rw [<- r.length]; exact z,?_⟩)
 have hf:H1 s1.heap.objs.size=none:=I1.hok.fresh (Nat.le_refl _)
 refine ⟨.ref s1.heap.objs.size,upd H1 s1.heap.objs.size (.tup xs),I1.laid (t':=s1.toks) (fun b u e=>Heap.get?_push_of_some _ e) (Nat.le_refl _) ?_,rfl,q _ hf⟩
 exact ⟨z,us,r,⟨_,Heap.get?_push_size _ rfl,rfl,_,rfl⟩⟩
theorem vk (h:PA X es t):PE X (.List es pos) (vc4 t):=by
 intro pins s σ H Q I hq
 refine wpAny_List_spliced (thn (h pos pins s σ H _ I hq) fun us s1 ⟨xs,H1,I1,r,z,q⟩=>⟨by rw [<- r.length]; exact z,?_⟩)
 have hf:H1 s1.heap.objs.size=none:=I1.hok.fresh (Nat.le_refl _)
 refine ⟨.ref s1.heap.objs.size,upd H1 s1.heap.objs.size (.lst xs),I1.laid (t':=s1.toks) (fun b u e=>Heap.get?_push_of_some _ e) (Nat.le_refl _) ?_,rfl,q _ hf⟩
 exact ⟨z,us,0,r,Heap.get?_push_size _ rfl⟩
end
abbrev Sp:=List V->Hp->VK->XK->Prop
abbrev CXT:=List Env->Hp->Shared->XK->Value->Shared->Prop
structure yv3 (P:Program) (w:World) (K:W.Frag) (mg:Str->Option Value) (base:Heap) (A:Around) (outer:List Env) (s:Shared) (H:Hp):Prop where
 frames:A.frames=some outer
 mod:Mod K mg base
 bs:∀ b o,base.get? b=some o->s.heap.get? b=some o/\H b=none
 bsz:base.objs.size <= s.heap.objs.size
 funs:s.heap.FunFrames base outer
 frf:∀ b∈frs outer,H b=none
 hok:HOk P w H s.heap
 bare:AllBare s.gens
def CE (outer:List Env) (P:Program) (w:World) (H:Hp) (s:Shared) (Q:VK) (u:Value) (s':Shared):Prop :=
 ∃ v H',s'.os=s.os/\AllBare s'.gens/\Un (frs outer) [] H H' s.heap s'.heap/\HOk P w H' s'.heap/\xl v u/\Q v H'
def CR (CX:CXT) (outer:List Env) (P:Program) (w:World) (H:Hp) (s:Shared) (Q:VK) (E:XK) (r:Result) (s':Shared):Prop :=
 match r with
 | .ok (.ret u)=>CE outer P w H s Q u s'
 | .ok _=>False
 | .error e=>CX outer H s E e s'
structure wv (P:Program) (w:World) (K:W.Frag) (mg:Str->Option Value) (base:Heap) (CX:CXT) (k:Nat) (f:Addr) (fd:FuncData) (ps:List Str) (sp:Sp):Prop where
 len:∀ vs H Q E,sp vs H Q E->vs.length=ps.length
 run:∀ (A:Around) (outer:List Env) (s:Shared) (H:Hp) (args:Args) (us:List Value) (vs:List V) (Q:VK) (E:XK),jv k A->yv3 P w K mg base A outer s H->BindsTo s fd args (ps.zip us)->wz vs us->sp vs H Q E ->
  codeAny (model P w) A (.call (.ref f) args) (CR CX outer P w H s Q E) s
theorem yv3.make {P:Program} {w:World} {K:W.Frag} {mg:Str->Option Value} {base:Heap} {A:Around} {outer:List Env} {s:Shared} {H:Hp} (e:yv3 P w K mg base A outer s H) (C:Addr) (us:List Value) (kw:List (Str × Value)) :
  yv3 P w K mg base (A.under (.builtin "type.__call__" ⟨.ref C :: us,kw⟩)) outer s H:=⟨by first | exact e.frames | (simpa [Around.under,Code.envs,Code.isFrame,pushEnvs] using e.frames),e.mod,e.bs,e.bsz,e.funs,e.frf,e.hok,e.bare⟩
section
variable {X:Cx} {pins:List (Addr × Obj)} {σ:St} {H:Hp} {s s':Shared}
theorem Inv.env0 (I:Inv X pins σ H s):yv3 X.prog X.w X.K X.mg X.base X.A X.stack s H :=
 ⟨I.ok.frames,I.ok.mod,I.bs,Nat.le_trans I.ok.bsz I.sz,I.stack,I.stkFree,I.hok,I.bare⟩
theorem Inv.after {Q:VK} {u:Value} (I:Inv X pins σ H s) (h:CE X.stack X.prog X.w H s Q u s'):EP X pins σ Q u s':=by
 obtain ⟨v,H',os,bare,un,hok,r,q⟩:=h
 obtain ⟨hh,g,d,t,os'⟩:=s'
 obtain rfl:os'=s.os:=os
 exact ⟨v,H',I.call (h':=hh) (g':=g) (d':=d) (t':=t) (ch:=[]) un hok bare (fun b z=>absurd z (by simp)),r,q⟩
end
def vak (sp:Sp) (dvs:List V) (E:XK) (t:TA):TE:=fun σ H Q=>t σ H fun vs H1=>sp (vs++dvs) H1 Q E
def yhb (C:Addr) (m:Str) (sp:Sp) (dvs:List V) (E:XK) (ta:TE) (t:TA):TE:=fun σ H Q=>ta σ H fun x H1=>∃ a dx fs,x=.ref a/\H1 a=some (.ins C dx fs)/\fs.lookup m=none /\
 t σ H1 fun vs H2=>sp (x :: (vs++dvs)) H2 Q E
def yt1 (C:Addr) (sp:Sp) (dvs:List V) (E:XK) (t:TA):TE:=fun σ H Q=>t σ H fun vs H1=>∀ x dx,H1 x=none->H1 dx=none->dx≠x ->
 sp (.ref x :: (vs++dvs)) (upd (upd H1 dx (.own x)) x (.ins C dx [])) (fun v H2=>v=.non/\Q (.ref x) H2) E
def uk (K:W.Frag) (fd:FuncData) (ps:List Str) (ds:List Value):Prop :=
 ∀ (s:Shared) (us:List Value),K.In s.heap->(us++ds).length=ps.length->BindsTo s fd ⟨us,[]⟩ (ps.zip (us++ds))
theorem uk.all {K:W.Frag} {fd:FuncData} {ps:List Str} (h:∀ us:List Value,us.length=ps.length->bindArgs fd ⟨us,[]⟩=pure (ps.zip us)):uk K fd ps []:=fun s us _ hl=>by
 rw [List.append_nil] at hl ⊢
 exact .of_eq (h us hl)
def ya8 (CX:CXT) (X:Cx) (E:XK):Prop:=∀ (pins:List (Addr × Obj)) (σ:St) (H:Hp) (s:Shared) (e:Value) (s':Shared),Inv X pins σ H s->CX X.stack H s E e s'->X.xe e s'
section
variable {X:Cx} {CX:CXT} {k:Nat} {f C:Addr} {fd:FuncData} {ps:List Str} {sp:Sp} {dvs:List V} {ds:List Value} {E:XK} {x m:Str} {p pos apos:Pos} {e o:Expr} {es:List Expr} {ta:TE} {t:TA}
theorem ym5 {pins:List (Addr × Obj)} {σ:St} {H:Hp} {s:Shared} {Q:VK} {us:List Value} {vs:List V} (F:wv X.prog X.w X.K X.mg X.base CX k f fd ps sp) (hr:jv k X.A) (hb:uk X.K fd ps ds) (hd:wz dvs ds) (hx:ya8 CX X E)
  (I:Inv X pins σ H s) (r:wz vs us) (h:sp (vs++dvs) H Q E):wpAny (model X.prog X.w) X.A (call (.ref f) us) (EP X pins σ Q) X.xe s:=by
 have r2:wz (vs++dvs) (us++ds):=r.append hd
 have hl:(us++ds).length=ps.length:=by rw [<- r2.length]; exact F.len _ _ _ _ h
 refine wpAny_call (codeAny_mono (F.run X.A X.stack s H ⟨us,[]⟩ (us++ds) (vs++dvs) Q E hr I.env0 (hb s us I.kIn hl) r2 h) fun r s' hq=>?_)
 cases r with
 | error e=>exact hx pins σ H s e s' I hq
 | ok fl =>
  cases fl with
  | ret u=>exact I.after hq
  | next=>exact False.elim hq
  | brk=>exact False.elim hq
  | cont=>exact False.elim hq
theorem vg (F:wv X.prog X.w X.K X.mg X.base CX k f fd ps sp) (hr:jv k X.A) (hg:Gl X x) (hm:X.mg x=some (.ref f)) (hk:W.keepIn X.K (.ref f)=true) (hb:uk X.K fd ps ds) (hd:wz dvs ds) (hx:ya8 CX X E)
  (ha:PA X (e :: es) t) (hdb:(x == ("__debug__":Str))=false:=by decide) (he:starEach (e :: es) X.env=(false,eval e X.env) :: starEach es X.env:=by rfl) (hpl:(backTo pos (starEach es X.env)).any (·.1)=false:=by rfl) :
  PE X (.Call (.Name x p) (e :: es) [] pos) (vak sp dvs E t):=by
 intro pins s σ H Q I h
 refine wpAny_Call_Name_kw (zv I hg hm ?_ hdb)
 refine W.callWith_K (h₀:=X.base) I.ok.mod.kin hk (thn (ha pos pins s σ H _ I h) fun us s1 ⟨vs,H1,I1,r,q⟩=>⟨I1.kIn,?_⟩) he hpl
 exact ym5 F hr hb hd hx I1 r q
theorem ut {pl:Sem Bool} (he:PE X o ta) (c:Cls X.K C) (hm:yv4 X.K C m f) (F:wv X.prog X.w X.K X.mg X.base CX k f fd ps sp) (hr:jv k X.A) (hb:uk X.K fd ps ds) (hd:wz dvs ds) (hx:ya8 CX X E) (ha:PA X (e :: es) t)
  (hst:starEach (e :: es) X.env=(false,eval e X.env) :: starEach es X.env:=by rfl) (hpl:(backTo pos (starEach es X.env)).any (·.1)=false:=by rfl)
  (ht:eval (.Call (.Attribute o m apos) (e :: es) [] pos) X.env=(do
   let ov <- eval o X.env
   standAt apos.atName
   let (f,first) <- holding [ov] (getMethod ov m pl)
   callWith pos f first (backTo pos (starEach (e :: es) X.env)) (backToKw pos (keywordEach [] X.env))):=by rfl) :
  PE X (.Call (.Attribute o m apos) (e :: es) [] pos) (yhb C m sp dvs E ta t):=by
 intro pins s σ H Q I h
 refine W.methodCall_KW (pl:=pl) (thn (he pins s σ H _ I h) fun u s1 ⟨x,H1,I1,rx,a,dx,fs,ex,ea,l,q⟩=>?_) ht
 subst ex
 obtain rfl:u=Value.ref a:=rx
 refine yas I1 ea c hm l ?_
 refine W.callWith_K (first:=[.ref a]) (h₀:=X.base) I.ok.mod.kin hm.kp (thn (ha pos pins s1 σ H1 _ I1 q) fun us s2 ⟨vs,H2,I2,r,q2⟩=>⟨I2.kIn,?_⟩) hst hpl
 exact ym5 (us:=.ref a :: us) (vs:=.ref a :: vs) F hr hb hd hx I2 (.cons rfl r) q2
theorem xf {pl:Sem Bool} (he:PE X o ta) (c:Cls X.K C) (hm:yv4 X.K C m f) (F:wv X.prog X.w X.K X.mg X.base CX k f fd ps sp) (hr:jv k X.A) (hb:uk X.K fd ps ds) (hd:wz dvs ds) (hx:ya8 CX X E)
  (ht:eval (.Call (.Attribute o m apos) [] [] pos) X.env=(do
   let ov <- eval o X.env
   standAt apos.atName
   let (f,first) <- holding [ov] (getMethod ov m pl)
   callWith pos f first (backTo pos (starEach [] X.env)) (backToKw pos (keywordEach [] X.env))):=by rfl) :
  PE X (.Call (.Attribute o m apos) [] [] pos) (yhb C m sp dvs E ta yrj):=by
 intro pins s σ H Q I h
 refine W.methodCall_KW (pl:=pl) (thn (he pins s σ H _ I h) fun u s1 ⟨x,H1,I1,rx,a,dx,fs,ex,ea,l,q⟩=>?_) ht
 subst ex
 obtain rfl:u=Value.ref a:=rx
 refine yas I1 ea c hm l ?_
 exact W.callWith_K0 (first:=[.ref a]) I1.kIn hm.kp (ym5 (us:=[.ref a]) (vs:=[.ref a]) F hr hb hd hx I1 (.cons rfl .nil) q)
structure Mk (K:W.Frag) (C f:Addr):Prop where
 makes:W.makesIn K C=true
 init:W.findIn K (.ref C) "__init__"=some (some (.ref f))
 fn:W.isFn K (.ref f)=true
 kp:W.keepIn K (.ref C)=true
theorem yh2 {pins:List (Addr × Obj)} {σ:St} {H:Hp} {s:Shared} {Q:VK} {us:List Value} {vs:List V} (M:Mk X.K C f) (F:wv X.prog X.w X.K X.mg X.base CX k f fd ps sp) (hr:jv (k+1) X.A) (hb:uk X.K fd ps ds) (hd:wz dvs ds)
  (hx:ya8 CX X E) (I:Inv X pins σ H s) (r:wz vs us)
  (h:∀ x dx,H x=none->H dx=none->dx≠x->sp (.ref x :: (vs++dvs)) (upd (upd H dx (.own x)) x (.ins C dx [])) (fun v H2=>v=.non/\Q (.ref x) H2) E) :
  wpAny (model X.prog X.w) X.A (call (.ref C) us) (EP X pins σ Q) X.xe s:=by
 have hq:=h (s.heap.objs.size+1) s.heap.objs.size (I.hok.fresh (Nat.le_succ _)) (I.hok.fresh (Nat.le_refl _)) (Nat.ne_of_lt (Nat.lt_succ_self _))
 have I2:=Inv.made (C:=C) I
 have r2:wz (V.ref (s.heap.objs.size+1) :: (vs++dvs)) (Value.ref (s.heap.objs.size+1) :: (us++ds)):=.cons rfl (r.append hd)
 have hl:(Value.ref (s.heap.objs.size+1) :: us++ds).length=ps.length:=by
  have e:=r2.length
  rw [F.len _ _ _ _ hq] at e
  exact e.symm
 refine wpAny_call (yhn (f:=f) I.kIn M.makes M.init (beq_iff_eq.mp M.fn) (codeAny_mono (F.run _ X.stack _ _ ⟨Value.ref (s.heap.objs.size+1) :: us,[]⟩ (Value.ref (s.heap.objs.size+1) :: (us++ds)) _ _ E (hr.make C us [])
  (I2.env0.make C us []) (hb _ (Value.ref (s.heap.objs.size+1) :: us) I2.kIn hl) r2 hq) fun r s' hq'=>?_))
 cases r with
 | error e=>exact hx pins σ _ _ e s' I2 hq'
 | ok fl =>
  cases fl with
  | ret u =>
   obtain ⟨v,H',I3,rv,ev,q3⟩:=I2.after hq'
   subst ev
   exact ⟨rv,⟨V.ref (s.heap.objs.size+1),H',I3,rfl,q3⟩⟩
  | next=>exact False.elim hq'
  | brk=>exact False.elim hq'
  | cont=>exact False.elim hq'
theorem yl0 (M:Mk X.K C f) (F:wv X.prog X.w X.K X.mg X.base CX k f fd ps sp) (hr:jv (k+1) X.A) (hg:Gl X x) (hm:X.mg x=some (.ref C)) (hb:uk X.K fd ps ds) (hd:wz dvs ds) (hx:ya8 CX X E)
  (ha:PA X (e :: es) t) (hdb:(x == ("__debug__":Str))=false:=by decide) (he:starEach (e :: es) X.env=(false,eval e X.env) :: starEach es X.env:=by rfl) (hpl:(backTo pos (starEach es X.env)).any (·.1)=false:=by rfl) :
  PE X (.Call (.Name x p) (e :: es) [] pos) (yt1 C sp dvs E t):=by
 intro pins s σ H Q I h
 refine wpAny_Call_Name_kw (zv I hg hm ?_ hdb)
 refine W.callWith_K (h₀:=X.base) I.ok.mod.kin M.kp (thn (ha pos pins s σ H _ I h) fun us s1 ⟨vs,H1,I1,r,q⟩=>⟨I1.kIn,?_⟩) he hpl
 exact yh2 M F hr hb hd hx I1 r q
theorem yaj (M:Mk X.K C f) (F:wv X.prog X.w X.K X.mg X.base CX k f fd ps sp) (hr:jv (k+1) X.A) (hg:Gl X x) (hm:X.mg x=some (.ref C)) (hb:uk X.K fd ps ds) (hd:wz dvs ds) (hx:ya8 CX X E)
  (hdb:(x == ("__debug__":Str))=false:=by decide):PE X (.Call (.Name x p) [] [] pos) (yt1 C sp dvs E yrj):=by
 intro pins s σ H Q I h
 refine wpAny_Call_Name_kw (zv I hg hm ?_ hdb)
 exact W.callWith_K0 I.kIn M.kp (yh2 (us:=[]) M F hr hb hd hx I .nil h)
end
section
variable {X:Cx} {CX:CXT} {k:Nat} {f C:Addr} {fd:FuncData} {ps ks:List Str} {sp:Sp} {E:XK} {x m:Str} {p pos apos kpos:Pos} {e o:Expr} {es:List Expr} {kws:List Keyword} {te ta:TE} {t tk:TA} {nm:Option Str}
structure vc9 (K:W.Frag) (fd:FuncData) (ps ks:List Str) (g:List Value->List Value->List Value) (gV:List V->List V->List V):Prop where
 to:∀ (s:Shared) (us ws:List Value),K.In s.heap->(g us ws).length=ps.length->BindsTo s fd ⟨us,ks.zip ws⟩ (ps.zip (g us ws))
 rel:∀ {vs:List V} {us:List Value} {zs:List V} {ws:List Value},wz vs us->wz zs ws->wz (gV vs zs) (g us ws)
variable {g:List Value->List Value->List Value} {gV:List V->List V->List V}
end
structure ym (N P:List Str) (sc:Scope):Prop where
 kind:sc.kind=.function
 co:sc.isCoroutine=false
 gen:sc.isGenerator=false
 nd:N.Nodup
 pre:N.take P.length=P
 par:∀ x∈P,sc.names.lookup x=some .local\/sc.names.lookup x=some .cell
 nofree:∀ y∈sc.names,y.2≠.free
theorem yes {kindOf:Str->Option NameKind} {x:Str}:∀ {binds:List (Str × Value)} {m:Str->Option Value},(∀ v,(x,v)∉binds)->bindL kindOf binds m x=m x
 | [],_,_=>rfl
 | (n,v) :: r,m,h=>by
  unfold bindL
  rw [yes fun w hw=>h w (List.mem_cons_of_mem _ hw)]
  split
  ·have:x≠n:=by rintro rfl; exact h v List.mem_cons_self
   simp [this]
  ·rfl
theorem yex {kindOf:Str->Option NameKind} {x:Str}:∀ {binds:List (Str × Value)} {m:Str->Option Value},(∀ v,(x,v)∉binds)->bindC kindOf binds m x=m x
 | [],_,_=>rfl
 | (n,v) :: r,m,h=>by
  unfold bindC
  rw [yex fun w hw=>h w (List.mem_cons_of_mem _ hw)]
  split
  ·rfl
  ·have:x≠n:=by rintro rfl; exact h v List.mem_cons_self
   simp [this]
theorem yey {kindOf:Str->Option NameKind} {x:Str} {v:Value}:∀ {P:List Str} {vs:List Value} {i:Nat} {m:Str->Option Value},P.Nodup->P[i]?=some x->vs[i]?=some v->kindOf x=some .local ->
  bindL kindOf (P.zip vs) m x=some v
 | [],_,_,_,_,h,_,_=>by simp at h
 | _ :: _,[],_,_,_,_,h,_=>by simp at h
 | p :: P,w :: vs,0,m,nd,h1,h2,hk=>by
  simp at h1 h2; subst h1; subst h2
  show bindL kindOf ((p,w) :: P.zip vs) m p=_
  unfold bindL
  rw [yes fun v hv=>(List.nodup_cons.mp nd).1 (List.of_mem_zip hv).1,if_pos hk]
  simp
 | p :: P,w :: vs,i+1,m,nd,h1,h2,hk=>by
  show bindL kindOf ((p,w) :: P.zip vs) m x=_
  unfold bindL
  exact yey (i:=i) (List.nodup_cons.mp nd).2 (by simpa using h1) (by simpa using h2) hk
theorem yfc {kindOf:Str->Option NameKind} {x:Str} {v:Value}:∀ {P:List Str} {vs:List Value} {i:Nat} {m:Str->Option Value},P.Nodup->P[i]?=some x->vs[i]?=some v->kindOf x≠some .local ->
  bindC kindOf (P.zip vs) m x=some v
 | [],_,_,_,_,h,_,_=>by simp at h
 | _ :: _,[],_,_,_,_,h,_=>by simp at h
 | p :: P,w :: vs,0,m,nd,h1,h2,hk=>by
  simp at h1 h2; subst h1; subst h2
  show bindC kindOf ((p,w) :: P.zip vs) m p=_
  unfold bindC
  rw [yex fun v hv=>(List.nodup_cons.mp nd).1 (List.of_mem_zip hv).1,if_neg hk]
  simp
 | p :: P,w :: vs,i+1,m,nd,h1,h2,hk=>by
  show bindC kindOf ((p,w) :: P.zip vs) m x=_
  unfold bindC
  exact yfc (i:=i) (List.nodup_cons.mp nd).2 (by simpa using h1) (by simpa using h2) hk
def yba (N:List Str) (vs:List V):St:=vs.map some++List.replicate (N.length - vs.length) none
def wk (CX:CXT) (P:Program) (w:World) (K:W.Frag) (mg:Str->Option Value) (base:Heap) (N:List Str) (qual:Str) (scope:Scope) (f:Addr) (cd:Value) (A:Around) (outer:List Env) (s:Shared) (H:Hp) (E:XK):Cx where
 prog:=P
 w:=w
 K:=K
 mg:=mg
 base:=base
 A:=A.deeper (envOfC qual scope s.heap.objs.size f cd)
 N:=N
 s₀:=s
 H₀:=H
 env:=envOfC qual scope s.heap.objs.size f cd
 outer:=outer
 stack:=envOfC qual scope s.heap.objs.size f cd :: outer
 ex:=[]
 calm:=true
 fn:=fun _=>true
 pn:=[]
 xe:=fun e s'=>wpAny (model P w) (A.deeper (envOfC qual scope s.heap.objs.size f cd)) (leaving (envOfC qual scope s.heap.objs.size f cd) e) (fun _ s''=>CX outer H s E e s'') (fun e' s''=>CX outer H s E e' s'') s'
theorem yh6 {sc:Scope} {n:Nat} {x:Str} (h:sc.names.lookup x=some .cell):∃ c,(cellsFrom n sc.names []).lookup x=some c:=by
 have q:=W.cellsFrom_some sc.names n [] (.inl h)
 exact Option.isSome_iff_exists.mp q
theorem yk0 {CX:CXT} {P:Program} {w:World} {K:W.Frag} {mg:Str->Option Value} {base:Heap} {N ps:List Str} {qual:Str} {scope:Scope} {f:Addr} {cd:Value} {A:Around} {outer:List Env} {s s1:Shared} {H:Hp} {E:XK} {us:List Value} {vs:List V}
  (S:ym N ps scope) (hd:A.handled=none) (e0:yv3 P w K mg base A outer s H) (hl:vs.length=ps.length) (r:wz vs us)
  (x:InCallC s s.heap.objs.size (bindL (envOfC qual scope s.heap.objs.size f cd).kindOf (ps.zip us) fun _=>none) (cellsFrom (s.heap.objs.size+1) scope.names []) (bindC (envOfC qual scope s.heap.objs.size f cd).kindOf (ps.zip us) fun _=>none) s1) :
  Inv (wk CX P w K mg base N qual scope f cd A outer s H E) [] (yba N vs) H s1:=by
 have hpl:ps.length <= N.length:=by have:=congrArg List.length S.pre; rw [List.length_take] at this; omega
 obtain ⟨h1,tk,rfl,hk⟩:=x.done
 have noA:∀ b:Addr,b∉(wk CX P w K mg base N qual scope f cd A outer s H E).ex:=fun b z=>absurd (show b∈([]:List Addr) from z) (by simp)
 refine ⟨⟨e0.mod,S.kind,rfl,rfl,Nat.le_refl _,fun y z c h1 h2=>?_,fun y hy=>?_,fun y c _ h=>?_,fun _=>hd,Around.frames_deeper e0.frames,.inr ⟨rfl,rfl⟩,fun b z=>absurd z (noA b),e0.bs,e0.bsz,fun b _ _=>noA b,fun b z=>absurd z (noA b),e0.funs,e0.frf⟩,
  rfl,e0.bare,Un.kept hk,⟨_,x.toInCall.ns,fun i y v h1 h2 h3=>?_⟩,fun y c h=>⟨_,x.cell y c h⟩,e0.hok.fresh (Nat.le_refl _),fun y c h=>?_,fun p hp=>absurd (show p∈([]:List (Addr × Obj)) from hp) (by simp),e0.hok.kept hk,?_⟩
 ·exact name_of_addr x.apart (PySem.mem_of_lookup h1) (PySem.mem_of_lookup h2)
 ·have hy:scope.names.lookup y=some .cell\/scope.names.lookup y=some .free:=hy
  rcases hy with hy | hy
  ·exact yh6 hy
  ·exact absurd rfl (S.nofree _ (PySem.mem_of_lookup hy))
 ·exact Nat.le_of_lt (x.above y c (PySem.mem_of_lookup h))
 ·have hi:i < vs.length:=by
   unfold yba at h2
   by_cases hi:i < vs.length
   ·exact hi
   ·rw [List.getElem?_append_right (by simpa using hi)] at h2
    rw [List.getElem?_replicate] at h2
    split at h2 <;> cases h2
  have ha:vs[i]?=some v:=by
   unfold yba at h2
   rw [List.getElem?_append_left (by simpa using hi),List.getElem?_map] at h2
   cases e:vs[i]? with
   | none=>rw [e] at h2; cases h2
   | some a=>rw [e] at h2; cases h2; rfl
  obtain ⟨u,hu,rv⟩:=r.get ha
  have hp:ps[i]?=some y:=by
   rw [<- S.pre,List.getElem?_take_of_lt (by omega)]; exact h1
  have ndP:ps.Nodup:=by rw [<- S.pre]; exact S.nd.sublist (List.take_sublist _ _)
  refine ⟨u,rv,?_⟩
  rcases S.par y (List.mem_of_getElem? hp) with k | k
  ·exact .inl ⟨k,yey ndP hp hu k⟩
  ·obtain ⟨c,e⟩:=yh6 (n:=s.heap.objs.size+1) k
   refine .inr ⟨.inl k,c,e,?_⟩
   have q:=x.cell y c e
   rw [yfc ndP hp hu (by show scope.names.lookup y≠_; rw [k]; decide)] at q
   exact q
 ·exact e0.hok.fresh (Nat.le_of_lt (x.above y c (PySem.mem_of_lookup h)))
 ·unfold yba
  show _=N.length
  rw [List.length_append,List.length_map,List.length_replicate]
  omega
theorem yty {CX:CXT} {P:Program} {w:World} {K:W.Frag} {mg:Str->Option Value} {base:Heap} {k:Nat} {f:Addr} {name qual:Str} {params:Arguments} {body:List Stmt} {scope:Scope} {dV kV doc pm cdv ct oc:Value} {an od:Option Addr}
  {osl:Array (Option Value)} {N ps:List Str} {sp:Sp} (lk:K.lookup f=some ⟨oc,od,.func (W.fnOf name qual params body scope dV kV doc pm an cdv ct),osl⟩) (hcd:W.codeIn K cdv qual=true) (S:ym N ps scope)
  (len:∀ vs H Q E,sp vs H Q E->vs.length=ps.length)
  (hbody:∀ (A:Around) (outer:List Env) (s:Shared) (H:Hp) (vs:List V) (Q:VK) (E:XK),jv k (A.deeper (envOfC qual scope s.heap.objs.size f cdv))->sp vs H Q E ->
   ∃ t,PSs (wk CX P w K mg base N qual scope f cdv A outer s H E) body t/\t { nx:=fun _ H'=>Q .non H',rt:=Q } (yba N vs) H) :
  wv P w K mg base CX (k+1) f (W.fnOf name qual params body scope dV kV doc pm an cdv ct) ps sp:=by
 refine ⟨len,fun A outer s H args us vs Q E hr e0 hb r hsp=>?_⟩
 have hl:=len _ _ _ _ hsp
 have KX:K.In s.heap:=e0.mod.kin.keeps fun b o e=>(e0.bs b o e).1
 have lim:s.heap.NoLimit:=e0.mod.nolimit.keeps fun b o e=>(e0.bs b o e).1
 have hkind:∀ y∈ps.zip us,scope.names.lookup y.1=some .local\/(scope.names.lookup y.1=some .cell/\((cellsFrom (s.heap.objs.size+1) scope.names []).lookup y.1).isSome=true):=fun ⟨n,v⟩ hy=>by
  rcases S.par n (List.of_mem_zip hy).1 with q | q
  ·exact .inl q
  ·exact .inr ⟨q,W.cellsFrom_some _ _ _ (.inl q)⟩
 refine codeAny_call_function hr.depth (KX _ _ lk) rfl S.co S.gen rfl (W.codeRec_of KX hcd) (hb _ _ _ _ ?_)
 refine wpAny_newFunctionEnv_cells S.kind hkind fun env he s1 x=>?_
 subst he
 refine ⟨lim.keeps x.toInCall.keep,codeAny_func ?_⟩
 obtain ⟨t,ht,hq⟩:=hbody A outer s H vs Q E (hr.deeper _) hsp
 have I:Inv (wk CX P w K mg base N qual scope f cdv A outer s H E) [] (yba N vs) H s1:=yk0 S hr.hd e0 hl r x
 refine wpAny_mono (ht [] s1 (yba N vs) H _ I hq) (fun fl s' hs=>?_) fun e s' hs=>hs
 have fin:∀ {σ':St} {H':Hp} {v:V} {u:Value},Inv (wk CX P w K mg base N qual scope f cdv A outer s H E) [] σ' H' s'->xl v u->Q v H'->CE outer P w H s Q u s' :=
  fun {σ' H' v u} J rv q=>⟨v,H',J.os,J.bare,J.base,J.hok,rv,q⟩
 cases fl with
 | ret u =>
  obtain ⟨v,σ',H',J,rv,q⟩:=hs
  exact fin J rv q
 | next =>
  obtain ⟨σ',H',J,q⟩:=hs
  exact fin (v:=V.non) (u:=Value.none) J rfl q
 | brk =>
  obtain ⟨_,_,_,q⟩:=hs
  exact False.elim q
 | cont =>
  obtain ⟨_,_,_,q⟩:=hs
  exact False.elim q
end L2
namespace L2
open PySem PySem.Spec PyProof.Rows
section
variable {X:Cx} {x:Str} {p pos:Pos} {e:Expr} {es:List Expr} {t:TA} {id T:String} {r:List V->Hp->VK->Prop}
def tCB (r:List V->Hp->VK->Prop) (t:TA):TE:=fun σ H Q=>t σ H fun vs H1=>r vs H1 Q
theorem yt (hc:ybb X (.builtin id) r) (hg:Gl X x) (hm:X.mg x=none) (hv:bootBuiltins x=some (.builtin id)) (ha:PA X (e :: es) t) (hn:x≠"__name__":=by decide) (hdb:(x == ("__debug__":Str))=false:=by decide)
  (he:starEach (e :: es) X.env=(false,eval e X.env) :: starEach es X.env:=by rfl) (hpl:(backTo pos (starEach es X.env)).any (·.1)=false:=by rfl):PE X (.Call (.Name x p) (e :: es) [] pos) (tCB r t):=by
 intro pins s σ H Q I h
 refine wpAny_Call_Name_kw (yce I hg hm hv ?_ hn hdb)
 exact PyProof.Rows.callWith_builtin1 (thn (ha pos pins s σ H _ I h) fun us s1 ⟨vs,H1,I1,r1,q1⟩=>hc pins s1 σ H1 vs us Q I1 r1 q1) he hpl
theorem zi (hc:ybb X (.type T) r) (hg:Gl X x) (hm:X.mg x=none) (hv:bootBuiltins x=some (.type T)) (ha:PA X (e :: es) t) (hn:x≠"__name__":=by decide) (hdb:(x == ("__debug__":Str))=false:=by decide)
  (he:starEach (e :: es) X.env=(false,eval e X.env) :: starEach es X.env:=by rfl) (hpl:(backTo pos (starEach es X.env)).any (·.1)=false:=by rfl):PE X (.Call (.Name x p) (e :: es) [] pos) (tCB r t):=by
 intro pins s σ H Q I h
 refine wpAny_Call_Name_kw (yce I hg hm hv ?_ hn hdb)
 exact PyProof.Rows.callWith_type1 (thn (ha pos pins s σ H _ I h) fun us s1 ⟨vs,H1,I1,r1,q1⟩=>hc pins s1 σ H1 vs us Q I1 r1 q1) he hpl
end
end L2
namespace HT
open PySem PyProof.Rows
section
open PySem.SeqAt
open PySem.AutoSeq1 (wpAny_loadPart')
open PySem.MeetsSeq PySem.MeetsSeq2 PySem.MeetsSeq3
end
section
variable {prog:Program} {w:World} {A:Around} {E:Value->Shared->Prop} {s:Shared}
def sIx (n d:Nat):Option Int->Nat
 | none=>d
 | some v=>if v < 0 then (v+(n:Int)).toNat else min v.toNat n
theorem sIx_none (n d:Nat):sIx n d none=d:=rfl
theorem sIx_nat (n d k:Nat):sIx n d (some (k:Int))=min k n:=by
 show (if (k:Int) < 0 then ((k:Int)+(n:Int)).toNat else min (k:Int).toNat n)=min k n
 rw [if_neg (by omega),Int.toNat_natCast]
theorem yym (n d:Nat) (hd:d <= n) (o:Option Int):sIx n d o <= n:=by
 cases o with
 | none=>exact hd
 | some v =>
  show (if v < 0 then (v+(n:Int)).toNat else min v.toNat n) <= n
  by_cases hv:v < 0
  ·rw [if_pos hv]; omega
  ·rw [if_neg hv]; exact Nat.min_le_right _ _
theorem ylx (v:Int) (n d:Nat):(if v < 0 then max (v+(n:Int)) 0 else min v (n:Int))=((sIx n d (some v):Nat):Int):=by
 show (if v < 0 then max (v+(n:Int)) 0 else min v (n:Int))=(((if v < 0 then (v+(n:Int)).toNat else min v.toNat n):Nat):Int)
 by_cases hv:v < 0
 ·simp only [if_pos hv]; omega
 ·simp only [if_neg hv]; omega
theorem yjg (lo hi:Option Int) (n:Nat):Builtin.Slice.sliceAdjust lo hi 1 (n:Int)=(((sIx n 0 lo:Nat):Int),((sIx n n hi:Nat):Int)):=by
 have h1:¬ ((1:Int) < 0):=by omega
 unfold Builtin.Slice.sliceAdjust
 simp only [h1,if_false]
 refine Prod.ext ?_ ?_
 ·cases lo with
  | none=>rfl
  | some v=>exact ylx v n 0
 ·cases hi with
  | none=>rfl
  | some v=>exact ylx v n n
theorem yjr (i j:Nat):Builtin.Slice.slicePlaces (i:Int) (j:Int) 1=j - i:=by
 unfold Builtin.Slice.slicePlaces
 have h1:(1:Int) > 0:=by omega
 simp only [h1,if_true,Int.ediv_one]
 split <;> omega
theorem ycp {v:Value} {o:Option Int} {Q:Option Int->Shared->Prop} (p:IsPart v o) (h:Q o s):wpAny (model prog w) A (Builtin.Slice.slicePartIndex v) Q E s:=by
 cases p with
 | none=>exact slicePart_none h
 | int i t=>exact slicePart_int h
theorem zw {sl:Addr} {vl vu:Value} {lo hi:Option Int} {n:Nat} {Q:Int × Int × Nat->Shared->Prop} (hs:s.heap.IsSliceOf sl vl vu .none) (pl:IsPart vl lo) (pu:IsPart vu hi)
  (h:Q (((sIx n 0 lo:Nat):Int),1,sIx n n hi - sIx n 0 lo) s):wpAny (model prog w) A (Builtin.Slice.sliceApplied (.ref sl) (pure (n:Int))) Q E s:=by
 obtain ⟨os,hos,hcs,hds⟩:=id hs
 unfold Builtin.Slice.sliceApplied Builtin.Slice.sliceFields
 refine wpAny_bind (wpAny_bind (wpAny_field hos hds (x:=vl) rfl (wpAny_bind (wpAny_field hos hds (x:=vu) rfl (wpAny_bind (wpAny_field hos hds (x:=.none) rfl (wpAny_pure ?_)))))))
 refine wpAny_bind (slicePart_none ?_)
 show wpAny _ _ (if ((1:Int) == 0)=true then _ else _) _ _ s
 rw [if_neg (by decide)]
 refine wpAny_bind (ycp pl (wpAny_bind (ycp pu (wpAny_bind (wpAny_pure ?_)))))
 show wpAny _ _ (match Builtin.Slice.sliceAdjust lo hi 1 (n:Int) with | (lo,hi)=>pure (lo,(1:Int),Builtin.Slice.slicePlaces lo hi 1)) _ _ s
 rw [yjg lo hi n]
 show wpAny _ _ (pure (((sIx n 0 lo:Nat):Int),(1:Int),Builtin.Slice.slicePlaces ((sIx n 0 lo:Nat):Int) ((sIx n n hi:Nat):Int) 1)) _ _ s
 rw [yjr]
 exact wpAny_pure h
theorem yoo (xs:Array Value) (i k:Nat):((List.range k).filterMap fun (m:Nat)=>xs[((i:Int)+(m:Int) * 1).toNat]?).toArray=((xs.toList.drop i).take k).toArray:=by
 have e:(fun (m:Nat)=>xs[((i:Int)+(m:Int) * 1).toNat]?)=fun m=>xs[i+m]?:=by
  funext m
  have:((i:Int)+(m:Int) * 1).toNat=i+m:=by omega
  rw [this]
 rw [e]
 have:=pick_run xs i k
 rw [List.filterMap_map] at this
 have e2:((fun x=>xs[x]?) ∘ fun x=>i+x)=fun m=>xs[i+m]?:=rfl
 rw [e2] at this
 rw [this]
theorem getItem_tuple_cut {t sl:Addr} {items:Array Value} {vl vu:Value} {lo hi:Option Int} {Q:Value->Shared->Prop} (ht:IsTup s.heap t items) (hs:s.heap.IsSliceOf sl vl vu .none) (pl:IsPart vl lo) (pu:IsPart vu hi)
  (hw:¬ (sIx items.size 0 lo=0/\sIx items.size items.size hi=items.size))
  (h:Q (.ref s.heap.objs.size) { s with heap:=s.heap.push { cls:=.type "tuple",data:=.seq ((items.toList.drop (sIx items.size 0 lo)).take (sIx items.size items.size hi - sIx items.size 0 lo)).toArray } })
  (hsz:items.size <= sizeLine):wpAny (model prog w) A (getItem (.ref t) (.ref sl)) Q E s:=by
 have htake:sizeOk (.seq ((items.toList.drop (sIx items.size 0 lo)).take (sIx items.size items.size hi - sIx items.size 0 lo)).toArray):=by
  show ((items.toList.drop (sIx items.size 0 lo)).take (sIx items.size items.size hi - sIx items.size 0 lo)).toArray.size <= sizeLine
  rw [List.size_toArray,List.length_take,List.length_drop,Array.length_toList]
  omega
 have hj:sIx items.size items.size hi <= items.size:=yym _ _ (Nat.le_refl _) hi
 obtain ⟨os,hos,hcs,hds⟩:=id hs
 have hTs:s.TypeIs (.ref sl) "slice":=⟨os,hos,hcs⟩
 unfold getItem
 try with_reducible refine wpAny_holding ?_
 first | refine wpAny_bind (wpAny_pure ?_) | skip
 refine wpAny_bind (wpAny_sequenceKey ht.typeIs (by decide) ?_)
 refine wpAny_bind (wpAny_callSpecial?_slot (name:=Str.ofString "__getitem__") ht.typeIs PyProof.Rows.slot_tuple_getitem
  (wpAny_call_entry PyProof.Rows.slot_tuple_getitem ht.typeIs entry_tuple_getitem ?_ (args_tuple_getitem _ _)))
 show wpAny _ _ (Builtin.Tuple.tupleItemsOf (.ref t) >>= _) _ _ s
 refine wpAny_bind (tupleItemsOf_ ht ?_)
 refine wpAny_bind (wpAny_typeOf hTs ?_)
 rw [if_pos (by decide)]
 refine wpAny_bind (zw hs pl pu ?_)
 have hno:¬ ((((sIx items.size 0 lo:Nat):Int) == 0 && (1:Int) == 1 && (sIx items.size items.size hi - sIx items.size 0 lo) == items.size)=true):=by
  intro q
  rw [Bool.and_eq_true,Bool.and_eq_true] at q
  have q1:((sIx items.size 0 lo:Nat):Int)=0:=eq_of_beq q.1.1
  have q2:sIx items.size items.size hi - sIx items.size 0 lo=items.size:=eq_of_beq q.2
  exact hw ⟨by omega,by omega⟩
 show wpAny _ _ (if (((sIx items.size 0 lo:Nat):Int) == 0 && (1:Int) == 1 && (sIx items.size items.size hi - sIx items.size 0 lo) == items.size)=true then _ else _) _ _ s
 rw [if_neg hno,yoo]
 first
  | exact wpAny_bind (m:=Builtin.Tuple.tupleExact _) (wpAny_newObj_type (wpAny_pure ⟨_,rfl,wpAny_pure h⟩) htake)
  | exact wpAny_bind (m:=Builtin.Tuple.tupleExact _) (wpAny_newObj_type (wpAny_bind (wpAny_pure (wpAny_pure ⟨_,rfl,wpAny_pure h⟩))) htake)
  | exact wpAny_bind (wpAny_bind (m:=Builtin.Tuple.tupleExact _) (wpAny_newObj_type (wpAny_pure (wpAny_pure ⟨_,rfl,wpAny_pure h⟩)) htake))
  | exact wpAny_bind (wpAny_bind (m:=Builtin.Tuple.tupleExact _) (wpAny_newObj_type (wpAny_pure ⟨_,rfl,wpAny_pure h⟩) htake))
end
end HT
namespace L2
open PySem PySem.Spec PyProof.Rows
abbrev TO:=St->Hp->(Option Int->Hp->Prop)->Prop
def PO (X:Cx) (e:Option Expr) (t:TO):Prop :=
 ∀ (pins:List (Addr × Obj)) (s:Shared) (σ:St) (H:Hp) (Q:Option Int->Hp->Prop),Inv X pins σ H s->t σ H Q ->
  wpAny (model X.prog X.w) X.A (evalPart e X.env) (fun u s'=>∃ o H',Inv X pins σ H' s'/\IsPart u o/\Q o H') X.xe s
def yme:TO:=fun _ H Q=>Q none H
def vae (t:TE):TO:=fun σ H Q=>t σ H fun x H1=>∃ i,x=.int i/\Q (some i) H1
section
variable {X:Cx} {e:Expr} {te:TE} {lo hi:Option Expr} {tl th:TO} {pos p2:Pos}
theorem yd1:PO X none yme:=by
 intro pins s σ H Q I h
 rw [evalPart_none]
 exact wpAny_pure ⟨none,H,I,.none,h⟩
theorem yd0 (h:PE X e te):PO X (some e) (vae te):=by
 intro pins s σ H Q I hw
 rw [evalPart_some]
 refine thn (h pins s σ H _ I hw) fun u s1 ⟨x,H1,I1,r1,q1⟩=>?_
 obtain ⟨i,rfl,q⟩:=q1
 obtain ⟨t,rfl⟩:=r1
 exact ⟨some i,H1,I1,.int i t,q⟩
def SlR (X:Cx) (r:V->Option Int->Option Int->Hp->VK->Prop):Prop :=
 ∀ (pins:List (Addr × Obj)) (s:Shared) (σ:St) (H:Hp) (x:V) (v vl vu:Value) (lo hi:Option Int) (sl:Addr) (Q:VK),Inv X pins σ H s->xl x v->s.heap.IsSliceOf sl vl vu .none->IsPart vl lo->IsPart vu hi->r x lo hi H Q ->
  ∃ T id,typeLookup (.type T) "__getitem__"=pure (some (.builtin id))/\s.TypeIs v T/\wpAny (model X.prog X.w) X.A (getItem v (.ref sl)) (EP X pins σ Q) X.xe s
theorem SlR.or {r r':V->Option Int->Option Int->Hp->VK->Prop} (h:SlR X r) (h':SlR X r'):SlR X (fun x lo hi H Q=>r x lo hi H Q\/r' x lo hi H Q):=by
 intro pins s σ H x v vl vu lo hi sl Q I rx hs pl pu q
 rcases q with q | q
 ·exact h pins s σ H x v vl vu lo hi sl Q I rx hs pl pu q
 ·exact h' pins s σ H x v vl vu lo hi sl Q I rx hs pl pu q
def tSl (r:V->Option Int->Option Int->Hp->VK->Prop) (te:TE) (tl th:TO):TE:=fun σ H Q=>te σ H fun x H1=>tl σ H1 fun l H2=>th σ H2 fun u H3=>r x l u H3 Q
theorem ybm {r:V->Option Int->Option Int->Hp->VK->Prop} (hr:SlR X r) (he:PE X e te) (hl:PO X lo tl) (hu:PO X hi th):PE X (.Subscript e (.Slice lo hi none p2) pos) (tSl r te tl th):=by
 intro pins s σ H Q I h
 refine Subscript_ (thn (he pins s σ H _ I h) fun v s1 ⟨x,H1,I1,r1,q1⟩=>?_)
 refine wpAny_Slice (thn (hl pins s1 σ H1 _ I1 q1) fun vl s2 ⟨l,H2,I2,pl,q2⟩=>thn (hu pins s2 σ H2 _ I2 q2) fun vu s3 ⟨u,H3,I3,pu,q3⟩=>?_)
 rw [evalPart_none]
 refine wpAny_pure ?_
 have I4:Inv X pins σ H3 { s3 with heap:=s3.heap.push { cls:=.type "slice",data:=.fields #[vl,vu,.none] } }:=I3.kept (t':=s3.toks) fun b ob q=>Heap.get?_push_of_some _ q
 obtain ⟨T,id,hT,ht,hg⟩:=hr pins { s3 with heap:=s3.heap.push { cls:=.type "slice",data:=.fields #[vl,vu,.none] } } σ H3 x v vl vu l u s3.heap.objs.size Q I4 r1 (Heap.IsSliceOf.new ..) pl pu q3
 show wpAny (model X.prog X.w) X.A (subscriptTail e (.Slice lo hi none p2) v (.ref s3.heap.objs.size)) (EP X pins σ Q) X.xe { s3 with heap:=s3.heap.push { cls:=.type "slice",data:=.fields #[vl,vu,.none] } }
 exact tail_any (ops:=[.ref s3.heap.objs.size,v]) ht hT hg (by with_unfolding_all rfl)
def yhg (xs:List V) (lo hi:Option Int):List V:=(xs.drop (HT.sIx xs.length 0 lo)).take (HT.sIx xs.length xs.length hi - HT.sIx xs.length 0 lo)
theorem ybw (xs:List V) (lo hi:Option Int):(yhg xs lo hi).length <= xs.length:=by
 unfold yhg
 rw [List.length_take,List.length_drop]
 omega
def vd8 (K:W.Frag):V->Option Int->Option Int->Hp->VK->Prop:=fun x lo hi H Q=>∃ a xs,x=.ref a/\SqT K H a xs /\
 ¬ (HT.sIx xs.length 0 lo=0/\HT.sIx xs.length xs.length hi=xs.length)/\∀ p,H p=none->Q (.ref p) (upd H p (.tup (yhg xs lo hi)))
theorem ywa:SlR X (vd8 X.K):=by
 intro pins s σ H x v vl vu lo hi sl Q I rx hs pl pu h
 obtain ⟨a,xs,rfl,hx,hw,q⟩:=h
 cases rx
 obtain ⟨its,r,ht,hz⟩:=I.tuple hx
 have hlen:its.toArray.size=xs.length:=by rw [List.size_toArray]; exact r.length.symm
 refine ⟨"tuple",_,PyProof.Rows.slot_tuple_getitem.lookup,ht.typeIs,?_⟩
 refine HT.getItem_tuple_cut ht hs pl pu (by rw [hlen]; exact hw) ?_ (by rw [hlen]; exact hz)
 rw [hlen]
 refine ⟨.ref s.heap.objs.size,_,I.laid (t':=s.toks) (o:=.tup (yhg xs lo hi)) (fun b ob q=>Heap.get?_push_of_some _ q) (Nat.le_refl _) ?_,rfl,q _ (I.hok.fresh (Nat.le_refl _))⟩
 exact ⟨Nat.le_trans (ybw xs lo hi) hz,_,(r.drop (HT.sIx xs.length 0 lo)).take (HT.sIx xs.length xs.length hi - HT.sIx xs.length 0 lo),IsTup.new _ _⟩
end
end L2
namespace L2
open PySem PySem.Spec PyProof.Rows
def ixN (n:Nat) (i:Int):Option Nat:=if 0 <= i then (if i < n then some i.toNat else none) else if -(n:Int) <= i then some (i+n).toNat else none
def atI {α:Type} (xs:List α) (i:Int):Option α:=(ixN xs.length i).bind fun j=>xs[j]?
theorem ymg {n:Nat} {i:Int} {j:Nat} (h:ixN n i=some j):seqIndex? i n=some j/\j < n/\-(n:Int) <= i/\i < n:=by
 unfold ixN at h
 by_cases h0:0 <= i
 ·rw [if_pos h0] at h
  by_cases h1:i < n
  ·rw [if_pos h1] at h
   have e:i.toNat=j:=Option.some.inj h
   exact ⟨by rw [seqIndex_of h0 h1,e],by omega,by omega,h1⟩
  ·rw [if_neg h1] at h; cases h
 ·rw [if_neg h0] at h
  by_cases h1:-(n:Int) <= i
  ·rw [if_pos h1] at h
   have e:(i+n).toNat=j:=Option.some.inj h
   exact ⟨by rw [seqIndex_neg (by omega) h1,e],by omega,h1,by omega⟩
  ·rw [if_neg h1] at h; cases h
theorem ymc {α:Type} {xs:List α} {i:Int} {v:α} (h:atI xs i=some v):∃ j,seqIndex? i xs.length=some j/\xs[j]?=some v/\j < xs.length/\-(xs.length:Int) <= i/\i < xs.length:=by
 unfold atI at h
 cases e:ixN xs.length i with
 | none=>rw [e] at h; cases h
 | some j =>
  rw [e] at h
  obtain ⟨h1,h2,h3,h4⟩:=ymg e
  exact ⟨j,h1,h,h2,h3,h4⟩
theorem uf {α:Type} {xs:List α} {j:Nat} {v:α} (h:xs[j]?=some v):atI xs (j:Int)=some v:=by
 have hj:j < xs.length:=(List.getElem?_eq_some_iff.mp h).1
 have e:ixN xs.length (j:Int)=some j:=by
  unfold ixN
  rw [if_pos (by omega),if_pos (by omega)]; simp
 unfold atI; rw [e]; exact h
def yrr (b:Expr):Prop:=∀ o i,subscripted b false o i=operate [o,i] (getItem o i)
def IxR (X:Cx) (r:R2):Prop :=
 ∀ (value slice:Expr) (pins:List (Addr × Obj)) (s:Shared) (σ:St) (H:Hp) (x y:V) (v u:Value) (Q:VK),Inv X pins σ H s->xl x v->xl y u->r x y H Q ->
  subscripted slice false v u=operate [v,u] (getItem v u)->wpAny (model X.prog X.w) X.A (subscriptTail value slice v u) (EP X pins σ Q) X.xe s
def MtR (X:Cx) (id:String) (r:V->List V->Hp->VK->Prop):Prop :=
 ∀ (pins:List (Addr × Obj)) (s:Shared) (σ:St) (H:Hp) (x:V) (xs:List V) (v:Value) (us:List Value) (Q:VK),Inv X pins σ H s->xl x v->wz xs us->r x xs H Q ->
  wpAny (model X.prog X.w) X.A (call (.builtin id) (v :: us)) (EP X pins σ Q) X.xe s
section
variable {X:Cx} {a b:Expr} {ta tb:TE} {pos:Pos}
theorem zd {r:R2} (hr:IxR X r) (ha:PE X a ta) (hb:PE X b tb) (hs:yrr b):PE X (.Subscript a b pos) (tOp r ta tb):=by
 intro pins s σ H Q I h
 exact Subscript_ (vcw ha hb I h fun v u s2 x y H2 I2 rx ry q=>hr a b pins s2 σ H2 x y v u Q I2 rx ry q (hs _ _))
def va4 (K:W.Frag):R2:=fun x y H Q=>∃ p xs i v,x=.ref p/\y=.int i/\SqL K H p xs/\atI xs i=some v/\Q v H
def vdm (K:W.Frag):R2:=fun x y H Q=>∃ p xs i v,x=.ref p/\y=.int i/\SqT K H p xs/\atI xs i=some v/\Q v H
theorem xq:IxR X (va4 X.K):=by
 intro value slice pins s σ H x y v u Q I rx ry h hs
 obtain ⟨p,xs,i,z,rfl,rfl,hq,he,q⟩:=h
 cases rx
 obtain ⟨t,rfl⟩:=ry
 obtain ⟨its,r,pl,hz⟩:=I.list hq
 obtain ⟨j,h1,h2,h3,h4,h5⟩:=ymc he
 obtain ⟨w,ew,rw'⟩:=r.get h2
 have hl:=r.length
 have hn:=yib
 have fin:EP X pins σ Q w s:=⟨z,H,I,rw',q⟩
 by_cases h0:0 <= i
 ·have hj:i.toNat=j:=by
   rw [seqIndex_of h0 h5] at h1
   exact Option.some.inj h1
  exact item_listR pl.isList h0 (by omega) (by rw [hj]; simpa using ew) fin hs
 ·have hj:(i+(its.toArray.size:Int)).toNat=j:=by
   rw [seqIndex_neg (by omega) h4] at h1
   rw [List.size_toArray,<- hl]
   exact Option.some.inj h1
  exact subscriptTail_builtinR (x:=w) pl.isList.typeIs slot_list_getitem.lookup
   (wpAny_getItem_list_neg (Q:=fun r s'=>r=w/\EP X pins σ Q r s') pl.isList (by omega) (by rw [List.size_toArray] <;> omega) (by omega) (by rw [hj]; simpa using ew) ⟨rfl,fin⟩) hs
theorem ycw:IxR X (vdm X.K):=by
 intro value slice pins s σ H x y v u Q I rx ry h hs
 obtain ⟨p,xs,i,z,rfl,rfl,hq,he,q⟩:=h
 cases rx
 obtain ⟨t,rfl⟩:=ry
 obtain ⟨its,r,pl,hz⟩:=I.tuple hq
 obtain ⟨j,h1,h2,h3,h4,h5⟩:=ymc he
 obtain ⟨w,ew,rw'⟩:=r.get h2
 have hl:=r.length
 have hn:=yib
 have fin:EP X pins σ Q w s:=⟨z,H,I,rw',q⟩
 exact subscriptTail_builtinR (x:=w) pl.typeIs slot_tuple_getitem.lookup
  (getItem_tuple (j:=j) (Q:=fun r s'=>r=w/\EP X pins σ Q r s') pl (by omega) (by omega) (by rw [List.size_toArray,<- hl]; exact h1) (by simpa using ew) ⟨rfl,fin⟩) hs
theorem yjo (its:List Value) (n j:Nat) (u:Value):Obj.mapSeq (·.setIfInBounds j u) { cls:=.type "list",data:=.seq its.toArray n }={ cls:=.type "list",data:=.seq (its.set j u).toArray n }:=by
 simp [Obj.mapSeq]
theorem Inv.lst {pins:List (Addr × Obj)} {σ:St} {H:Hp} {s:Shared} {p:Addr} {xs:List V} (I:Inv X pins σ H s) (h:H p=some (.lst xs)) :
  ∃ (its:List Value) (n:Nat),wz xs its/\s.heap.get? p=some { cls:=.type "list",data:=.seq its.toArray n }/\xs.length <= sizeLine:=by
 obtain ⟨z,its,n,r,e⟩:=I.hok p _ h
 exact ⟨its,n,r,e,z⟩
theorem Inv.lstUpd {pins:List (Addr × Obj)} {σ:St} {H:Hp} {s:Shared} {p:Addr} {xs ys:List V} {its its':List Value} {n n':Nat} {f:Obj->Obj} (I:Inv X pins σ H s) (h:H p=some (.lst xs))
  (ho:s.heap.get? p=some { cls:=.type "list",data:=.seq its.toArray n }) (hf:f { cls:=.type "list",data:=.seq its.toArray n }={ cls:=.type "list",data:=.seq its'.toArray n' }) (r:wz ys its') (hz:ys.length <= sizeLine) (t:Nat) :
  Inv X pins σ (upd H p (.lst ys)) { s with heap:=s.heap.update p f,toks:=t }:=by
 have e:(s.heap.update p f).get? p=some { cls:=.type "list",data:=.seq its'.toArray n' }:=by
  rw [Heap.get?_update_self f ho (by rw [hf] <;> rfl),hf]
 refine I.write (x:=p) (e:=p) (by rw [h]; trivial) (.inl rfl) (fun b u hb q=>(Heap.get?_update_other _ _ (Ne.symm hb)).trans q) ⟨_,e⟩ ?_
 exact ⟨hz,its',n',r,e⟩
def vbk:V->V->V->Hp->(Hp->Prop)->Prop:=fun o i v H Q=>∃ p xs k j,o=.ref p/\i=.int k/\H p=some (.lst xs)/\ixN xs.length k=some j/\Q (upd H p (.lst (xs.set j v)))
theorem ynw:vdk X vbk:=by
 intro pins s σ H o i v ov iv u Q I ro ri rv h
 obtain ⟨p,xs,k,j,rfl,rfl,hp,hj,q⟩:=h
 cases ro
 obtain ⟨t,rfl⟩:=ri
 obtain ⟨its,n,r,ho,hz⟩:=I.lst hp
 obtain ⟨h1,h2,h3,h4⟩:=ymg hj
 have hl:=r.length
 have hn:=yib
 have I':Inv X pins σ (upd H p (.lst (xs.set j v))) { s with heap:=s.heap.update p (Obj.mapSeq (·.setIfInBounds j u)) } :=
  I.lstUpd hp ho (yjo its n j u) (r.set rv j) (by rw [List.length_set]; exact hz) s.toks
 by_cases h0:0 <= k
 ·have hk:k.toNat=j:=by
   rw [seqIndex_of h0 h4] at h1
   exact Option.some.inj h1
  exact W.ki_setAt ho h0 (by omega) (by rw [List.size_toArray,<- hl]; exact h4) (by rw [hk]; exact ⟨_,I',q⟩)
 ·have hk:(k+(its.toArray.size:Int)).toNat=j:=by
   rw [seqIndex_neg (by omega) h3] at h1
   rw [List.size_toArray,<- hl]
   exact Option.some.inj h1
  exact W.ki_setBack ho (by omega) (by rw [List.size_toArray,<- hl]; exact h3) (by omega) (by rw [hk]; exact ⟨_,I',q⟩)
theorem yec (lo hi:Option Int) (n:Nat):(sliceBounds lo hi none n).1=((HT.sIx n 0 lo:Nat):Int)/\(sliceBounds lo hi none n).2.1=((HT.sIx n n hi:Nat):Int)/\(sliceBounds lo hi none n).2.2=1:=by
 refine ⟨?_,?_,rfl⟩
 ·cases lo with
  | none=>simp [sliceBounds,HT.sIx]
  | some i =>
   simp only [sliceBounds,HT.sIx,Option.getD_none,show (1:Int) > 0 by decide,if_true]
   by_cases h:i < 0
   ·simp only [h,if_true] <;> omega
   ·simp only [h,if_false] <;> omega
 ·cases hi with
  | none=>simp [sliceBounds,HT.sIx]
  | some i =>
   simp only [sliceBounds,HT.sIx,Option.getD_none,show (1:Int) > 0 by decide,if_true]
   by_cases h:i < 0
   ·simp only [h,if_true] <;> omega
   ·simp only [h,if_false] <;> omega
theorem yc3 (its:List Value) (lo hi:Option Int):slicePick its.toArray lo hi none=((its.drop (HT.sIx its.length 0 lo)).take (HT.sIx its.length its.length hi - HT.sIx its.length 0 lo)).toArray:=by
 obtain ⟨h1,h2,h3⟩:=yec lo hi its.toArray.size
 unfold slicePick
 rw [h1,h2,h3]
 simp only [sliceRange_one,pick_run,List.size_toArray] <;> rfl
def vdp (K:W.Frag):V->Option Int->Option Int->Hp->VK->Prop:=fun x lo hi H Q=>∃ a xs,x=.ref a/\SqL K H a xs/\∀ p,H p=none->Q (.ref p) (upd H p (.lst (yhg xs lo hi)))
theorem yha:SlR X (vdp X.K):=by
 intro pins s σ H x v vl vu lo hi sl Q I rx hs pl pu h
 obtain ⟨a,xs,rfl,hx,q⟩:=h
 cases rx
 obtain ⟨its,r,ht,hz⟩:=I.list hx
 have hlen:=r.length
 refine ⟨"list",_,slot_list_getitem.lookup,ht.isList.typeIs,?_⟩
 refine wpAny_getItem_list_slice ht.isList hs pl pu .none (by simp) ?_ (by rw [List.size_toArray] <;> omega)
 rw [yc3,<- hlen]
 refine ⟨.ref s.heap.objs.size,_,I.laid (t':=s.toks) (o:=.lst (yhg xs lo hi)) (fun b ob q=>Heap.get?_push_of_some _ q) (Nat.le_refl _) ?_,rfl,q _ (I.hok.fresh (Nat.le_refl _))⟩
 exact ⟨Nat.le_trans (ybw xs lo hi) hz,_,0,(r.drop (HT.sIx xs.length 0 lo)).take (HT.sIx xs.length xs.length hi - HT.sIx xs.length 0 lo),Heap.get?_push_size _ rfl⟩
def yfq:V->Bool
 | .non=>true
 | .bl _=>true
 | .int _=>true
 | .str _=>true
 | _=>false
def eqV:V->V->Bool
 | .non,.non=>true
 | .bl a,.bl b=>a == b
 | .bl a,.int b=>(if a then 1 else 0) == b
 | .int a,.bl b=>a == (if b then 1 else 0)
 | .int a,.int b=>a == b
 | .str a,.str b=>a == b
 | _,_=>false
theorem yz2 {A:Around} {s:Shared} {y x:V} {u v:Value} (ry:xl y u) (rx:xl x v) (fy:yfq y=true) (fx:yfq x=true):SeqAt.EqAt A s u v (eqV y x):=by
 cases y with
 | non =>
  cases ry
  cases x with
  | non=>cases rx; exact SeqAt.EqAt.same _
  | bl b=>cases rx; exact SeqAt.EqAt.none_bool b
  | int b=>obtain ⟨t,rfl⟩:=rx; exact SeqAt.EqAt.none_int b t
  | str b=>obtain ⟨t,rfl⟩:=rx; exact SeqAt.EqAt.none_str b t
  | _=>exact absurd (show false=true from fx) Bool.false_ne_true
 | bl a =>
  cases ry
  cases x with
  | non=>cases rx; exact SeqAt.EqAt.bool_none a
  | bl b=>cases rx; exact SeqAt.EqAt.bool_bool a b
  | int b=>obtain ⟨t,rfl⟩:=rx; exact SeqAt.EqAt.bool_int a b t
  | str b=>obtain ⟨t,rfl⟩:=rx; exact SeqAt.EqAt.bool_str a b t
  | _=>exact absurd (show false=true from fx) Bool.false_ne_true
 | int a =>
  obtain ⟨t',rfl⟩:=ry
  cases x with
  | non=>cases rx; exact SeqAt.EqAt.int_none a t'
  | bl b=>cases rx; exact SeqAt.EqAt.int_bool a t' b
  | int b=>obtain ⟨t,rfl⟩:=rx; exact SeqAt.EqAt.int_int a t' b t
  | str b=>obtain ⟨t,rfl⟩:=rx; exact SeqAt.EqAt.int_str a t' b t
  | _=>exact absurd (show false=true from fx) Bool.false_ne_true
 | str a =>
  obtain ⟨t',rfl⟩:=ry
  cases x with
  | non=>cases rx; exact SeqAt.EqAt.str_none a t'
  | bl b=>cases rx; exact SeqAt.EqAt.str_bool a t' b
  | int b=>obtain ⟨t,rfl⟩:=rx; exact SeqAt.EqAt.str_int a t' b t
  | str b=>obtain ⟨t,rfl⟩:=rx; exact SeqAt.EqAt.str_str a t' b t
  | _=>exact absurd (show false=true from fx) Bool.false_ne_true
 | _=>exact absurd (show false=true from fy) Bool.false_ne_true
def eqU (x:V) (u:Value):Bool:=match u with
 | .none=>eqV .non x
 | .bool b=>eqV (.bl b) x
 | .int i _=>eqV (.int i) x
 | .str z _=>eqV (.str z) x
 | _=>false
theorem yqa {x y:V} {u:Value} (r:xl y u) (f:yfq y=true):eqU x u=eqV y x:=by
 cases y with
 | non=>cases r; rfl
 | bl b=>cases r; rfl
 | int i=>obtain ⟨t,rfl⟩:=r; rfl
 | str z=>obtain ⟨t,rfl⟩:=r; rfl
 | _=>exact absurd (show false=true from f) Bool.false_ne_true
theorem ygq {x:V}:∀ {xs:List V} {us:List Value},wz xs us->xs.all yfq=true->us.any (eqU x)=xs.any fun y=>eqV y x
 | _,_,.nil,_=>rfl
 | y :: xs,u :: us,.cons r t,f=>by
  rw [List.all_cons,Bool.and_eq_true] at f
  rw [List.any_cons,List.any_cons,yqa r f.1,ygq t f.2]
theorem ydx {A:Around} {s:Shared} {x:V} {v:Value} (rx:xl x v) (fx:yfq x=true):∀ {xs:List V} {us:List Value},wz xs us->xs.all yfq=true->∀ u∈us,SeqAt.EqAt A s u v (eqU x u)
 | _,_,.nil,_=>fun u hu=>by cases hu
 | y :: xs,u :: us,.cons r t,f=>fun u' hu=>by
  rw [List.all_cons,Bool.and_eq_true] at f
  rcases List.mem_cons.mp hu with rfl | hu
  ·rw [yqa r f.1]; exact yz2 r rx f.1 fx
  ·exact ydx rx fx t f.2 u' hu
def inV (x:V) (xs:List V):Bool:=xs.any fun y=>eqV y x
def rIn (K:W.Frag) (neg:Bool):R2:=fun x y H Q=>∃ p xs,y=.ref p/\(SqL K H p xs\/SqT K H p xs)/\yfq x=true/\xs.all yfq=true/\Q (.bl (if neg then !inV x xs else inV x xs)) H
theorem yku:OpR X (compareOp .In) (rIn X.K false):=by
 intro pins s σ H x y v u Q I rx ry h
 obtain ⟨p,xs,rfl,hq,fx,fs,q⟩:=h
 cases ry
 rcases hq with hq | hq
 ·obtain ⟨its,r,pl,hz⟩:=I.list hq
  refine SeqAt.in_listAt (eqU x) pl.isList (fun w hw=>ydx rx fx r fs w (by simpa using hw)) ⟨.bl _,H,I,rfl,?_⟩
  rw [show its.toArray.any (eqU x)=its.any (eqU x) by simp,ygq r fs]
  exact q
 ·obtain ⟨its,r,pl,hz⟩:=I.tuple hq
  refine SeqAt.in_tupleAt (eqU x) pl (fun w hw=>ydx rx fx r fs w (by simpa using hw)) ⟨.bl _,H,I,rfl,?_⟩
  rw [show its.toArray.any (eqU x)=its.any (eqU x) by simp,ygq r fs]
  exact q
theorem vn:ybb X (.builtin "len") (fun xs H Q=>∃ p ys,xs=[.ref p]/\(SqL X.K H p ys\/SqT X.K H p ys)/\Q (.int ys.length) H):=by
 intro pins s σ H xs us Q I r h
 obtain ⟨p,ys,rfl,hq,q⟩:=h
 obtain ⟨u,rfl,rx⟩:=ynf r
 cases rx
 have hn:=yib
 rcases hq with hq | hq
 ·obtain ⟨its,r',pl,hz⟩:=I.list hq
  have hlen:=r'.length
  exact Calls.call_len_list pl.isList (by simp only [List.size_toArray] <;> omega) ⟨.int ys.length,H,I.tok _,⟨s.toks+1,by rw [List.size_toArray,hlen]⟩,q⟩
 ·obtain ⟨its,r',pl,hz⟩:=I.tuple hq
  have hlen:=r'.length
  exact len_tuple pl (by simp only [List.size_toArray] <;> omega) ⟨.int ys.length,H,I.tok _,⟨s.toks+1,by rw [List.size_toArray,hlen]⟩,q⟩
theorem uv:ybb X (.type "list") (fun xs H Q=>∃ p ys,xs=[.ref p]/\(SqL X.K H p ys\/SqT X.K H p ys)/\∀ l,H l=none->Q (.ref l) (upd H l (.lst ys))):=by
 intro pins s σ H xs us Q I r h
 obtain ⟨p,ys,rfl,hq,q⟩:=h
 obtain ⟨u,rfl,rx⟩:=ynf r
 cases rx
 have fin:∀ (its:List Value),wz ys its->ys.length <= sizeLine->∀ (h':Heap) (c':Nat),(∀ b o',s.heap.get? b=some o'->h'.get? b=some o') ->
   h'.get? s.heap.objs.size=some { cls:=.type "list",dict:=none,data:=.seq its.toArray c',slots:=#[] }->EP X pins σ Q (.ref s.heap.objs.size) { s with heap:=h' }:=fun its r' hz h' c' kp e =>
  ⟨.ref s.heap.objs.size,_,I.laid (t':=s.toks) kp (Nat.le_refl _) (show xp X.prog X.w _ h' _ (.lst ys) from ⟨hz,its,c',r',e⟩),rfl,q _ (I.hok.fresh (Nat.le_refl _))⟩
 rcases hq with hq | hq
 ·obtain ⟨its,r',pl,hz⟩:=I.list hq
  have hlen:=r'.length
  obtain ⟨o,ho,hc,n,hd⟩:=pl.isList
  exact call_list_seq p (.inl rfl) ho hc hd (fun h' c' kp e=>fin its r' hz h' c' kp e) (by simp only [List.size_toArray] <;> omega)
 ·obtain ⟨its,r',pl,hz⟩:=I.tuple hq
  have hlen:=r'.length
  obtain ⟨o,ho,hc,n,hd⟩:=pl
  exact call_list_seq p (.inr rfl) ho hc hd (fun h' c' kp e=>fin its r' hz h' c' kp e) (by simp only [List.size_toArray] <;> omega)
theorem yaa:ybb X (.type "tuple") (fun xs H Q=>∃ p ys,xs=[.ref p]/\((SqL X.K H p ys/\∀ l,H l=none->Q (.ref l) (upd H l (.tup ys)))\/(SqT X.K H p ys/\Q (.ref p) H))):=by
 intro pins s σ H xs us Q I r h
 obtain ⟨p,ys,rfl,h⟩:=h
 obtain ⟨u,rfl,rx⟩:=ynf r
 cases rx
 rcases h with ⟨hq,q⟩ | ⟨hq,q⟩
 ·obtain ⟨its,r',pl,hz⟩:=I.list hq
  have hlen:=r'.length
  refine call_tuple_list pl.isList (fun h' kp=>?_) (by simp only [List.size_toArray] <;> omega)
  have I1:Inv X pins σ H { s with heap:=h' }:=I.kept (t':=s.toks) kp
  have I2:Inv X pins σ (upd H h'.objs.size (.tup ys)) { s with heap:=h'.push { cls:=.type "tuple",data:=.seq its.toArray } } :=
   I1.laid (t':=s.toks) (fun b o e=>Heap.get?_push_of_some _ e) (Nat.le_refl _) (show xp X.prog X.w _ _ _ (.tup ys) from ⟨hz,its,r',IsTup.new _ _⟩)
  exact ⟨.ref h'.objs.size,_,I2,rfl,q _ (I1.hok.fresh (Nat.le_refl _))⟩
 ·obtain ⟨its,r',pl,hz⟩:=I.tuple hq
  exact call_tuple_same pl ⟨.ref p,H,I,rfl,q⟩
def tyV (K:W.Frag) (T:String) (x:V) (H:Hp):Prop:=match x with
 | .str _=>T="str"
 | .int _=>T="int"
 | .ref p=>(T="list"/\∃ xs,SqL K H p xs)\/(T="tuple"/\∃ o,K.lookup p=some o/\o.cls=.type "tuple"/\o.dict=none) \/
   (T="dict"/\((∃ kvs,H p=some (.dK kvs))\/∃ kvs,H p=some (.dT kvs)))\/(T="set"/\∃ S n,H p=some (.set S n))
 | _=>False
theorem yqt {pins:List (Addr × Obj)} {σ:St} {H:Hp} {s:Shared} {T:String} {x:V} {v:Value} (I:Inv X pins σ H s) (r:xl x v) (ty:tyV X.K T x H) :
  s.TypeIs v T/\∀ a,v=.ref a->∃ ob,s.heap.get? a=some ob/\ob.dict=none:=by
 cases x with
 | str z =>
  obtain ⟨t,rfl⟩:=r
  cases (show T="str" from ty)
  exact ⟨typeIs_str s z t,fun _ e=>nomatch e⟩
 | int i =>
  obtain ⟨t,rfl⟩:=r
  cases (show T="int" from ty)
  exact ⟨typeIs_int s i t,fun _ e=>nomatch e⟩
 | ref p =>
  cases r
  rcases ty with ⟨rfl,xs,hq⟩ | ⟨rfl,o,hk,hc,hd⟩ | ⟨rfl,hk⟩ | ⟨rfl,S,n,hk⟩
  ·obtain ⟨its,_,pl,_⟩:=I.list hq
   refine ⟨pl.isList.typeIs,fun a e=>?_⟩
   cases e
   obtain ⟨o,n,e,c,hd,_⟩:=pl
   exact ⟨o,e,hd⟩
  ·refine ⟨⟨o,I.kIn p o hk,hc⟩,fun a e=>?_⟩
   cases e
   exact ⟨o,I.kIn _ o hk,hd⟩
  ·have z:∃ o,s.heap.get? p=some o/\o.ExactDict:=by
    rcases hk with ⟨kvs,hk⟩ | ⟨kvs,hk⟩
    ·obtain ⟨_,_,_,_,o,_,_,e,ex,_⟩:=I.hok p _ hk
     exact ⟨o,e,ex⟩
    ·obtain ⟨_,_,_,_,o,_,_,e,ex,_⟩:=I.hok p _ hk
     exact ⟨o,e,ex⟩
   obtain ⟨o,e,ex⟩:=z
   refine ⟨⟨o,e,ex.1⟩,fun a e2=>?_⟩
   cases e2
   exact ⟨o,e,ex.2.1⟩
  ·obtain ⟨o,_,_,_,e,ex,_⟩:=I.hok p _ hk
   refine ⟨⟨o,e,ex.1⟩,fun a e2=>?_⟩
   cases e2
   exact ⟨o,e,ex.2.1⟩
 | _=>exact False.elim ty
def vdi (K:W.Frag) (T:String) (r:V->List V->Hp->VK->Prop) (to:TE):TE:=fun σ H Q=>to σ H fun x H1=>tyV K T x H1/\r x [] H1 Q
def tBM (K:W.Frag) (T:String) (r:V->List V->Hp->VK->Prop) (to:TE) (t:TA):TE:=fun σ H Q=>to σ H fun x H1=>tyV K T x H1/\t σ H1 fun xs H2=>r x xs H2 Q
variable {o e:Expr} {es:List Expr} {to:TE} {t:TA} {name:Str} {apos cpos:Pos} {T id:String} {r:V->List V->Hp->VK->Prop}
theorem yq6 (pa:PlainAttrs T) (slot:Slot T name id) (hty:typeOf (.builtin id)=pure (.type "method_descriptor")) (hm:MtR X id r) (ho:PE X o to)
  (hbase:attributeBase o name X.env (eval o X.env)=eval o X.env:=by rfl) (hline:(apos.endLine == cpos.line)=true:=by rfl):PE X (.Call (.Attribute o name apos) [] [] cpos) (vdi X.K T r to):=by
 intro pins s σ H Q I h
 refine wpAny_Call_method0_late hbase hline (thn (ho pins s σ H _ I h) fun v s1 ⟨x,H1,I1,r1,ty,q1⟩=>?_)
 obtain ⟨h1,h2⟩:=yqt I1 r1 ty
 exact ⟨T,id,pa,slot,hty,h1,h2,Calls.callWith_builtin rfl (PySem.evalArgs_none (hm pins s1 σ H1 x [] v [] Q I1 r1 .nil q1))⟩
theorem yhc (pa:PlainAttrs T) (slot:Slot T name id) (hty:typeOf (.builtin id)=pure (.type "method_descriptor")) (hm:MtR X id r) (ho:PE X o to) (ha:PA X (e :: es) t)
  (hbase:attributeBase o name X.env (eval o X.env)=eval o X.env:=by rfl)
  (hfew:((backTo cpos (starEach (e :: es) X.env)).all (fun x=>!x.1) && (backToKw cpos (keywordEach [] X.env)).all (fun x=>x.1.isSome)
   && decide ((e :: es).length+([]:List Keyword).length+(if ([]:List Keyword).isEmpty then 0 else 1) < 30))=true:=by rfl)
  (hline:(apos.endLine == cpos.line)=true:=by rfl) (hs:starEach (e :: es) X.env=(false,eval e X.env) :: starEach es X.env:=by rfl) (hplain:(backTo cpos (starEach es X.env)).any (·.1)=false:=by rfl) :
  PE X (.Call (.Attribute o name apos) (e :: es) [] cpos) (tBM X.K T r to t):=by
 intro pins s σ H Q I h
 refine wpAny_Call_method_late hbase hfew hline rfl (thn (ho pins s σ H _ I h) fun v s1 ⟨x,H1,I1,r1,ty,q1⟩=>?_)
 obtain ⟨h1,h2⟩:=yqt I1 r1 ty
 refine ⟨T,id,pa,slot,hty,h1,h2,?_⟩
 have hA:=ha cpos pins s1 σ H1 _ I1 q1
 rw [hs] at hA ⊢
 refine Calls.callWith_builtin (by show (false || (backTo cpos (starEach es X.env)).any (·.1))=false; rw [hplain] <;> rfl) (Calls.evalArgs_plain ?_)
 exact thn hA fun us s2 ⟨vs,H2,I2,r2,q2⟩=>hm pins s2 σ H2 x vs v us Q I2 r1 r2 q2
end
end L2
namespace L2
open PySem PySem.Spec PyProof.Rows
def MtM (X:Cx) (id:String) (r:V->List V->Hp->VK->Prop):Prop :=
 ∀ (pins:List (Addr × Obj)) (s:Shared) (σ:St) (H:Hp) (x:V) (xs:List V) (v:Value) (us:List Value) (Q:VK),Inv X pins σ H s->xl x v->wz xs us->r x xs H Q ->
  wpAny (model X.prog X.w) X.A (call (.builtin id) (v :: us)) (EP X pins σ Q) X.xe s
theorem wz.one:∀ {x:V} {us:List Value},wz [x] us->∃ u,us=[u]/\xl x u
 | _,_,.cons r .nil=>⟨_,rfl,r⟩
theorem wz.zero:∀ {us:List Value},wz [] us->us=[]
 | _,.nil=>rfl
theorem wz.reverse {xs:List V} {us:List Value} (h:wz xs us):wz xs.reverse us.reverse:=by
 induction h with
 | nil=>exact .nil
 | cons r t ih=>rw [List.reverse_cons,List.reverse_cons]; exact wz.append ih (.cons r .nil)
theorem wz.rep {xs:List V} {us:List Value} (h:wz xs us):∀ k:Nat,wz (List.replicate k xs).flatten (List.replicate k us).flatten
 | 0=>.nil
 | k+1=>by
  rw [List.replicate_succ,List.replicate_succ,List.flatten_cons,List.flatten_cons]
  exact wz.append h (wz.rep h k)
theorem yer (its:List Value):∀ (k:Nat) (acc:List Value),
  List.foldl (fun x1 x2=>x1++x2) acc.toArray (List.replicate k its.toArray)=(acc++(List.replicate k its).flatten).toArray
 | 0,acc=>by simp
 | k+1,acc=>by
  have e:acc.toArray++its.toArray=(acc++its).toArray:=by simp
  have e2:(acc++its)++(List.replicate k its).flatten=acc++(List.replicate (k+1) its).flatten:=by
   rw [List.replicate_succ,List.flatten_cons,List.append_assoc]
  rw [<- e2,<- yer its k (acc++its),<- e,List.replicate_succ,List.foldl_cons]
section
variable {X:Cx} {pins:List (Addr × Obj)} {σ:St} {H:Hp} {s:Shared} {l b:Addr} {xs ys zs:List V}
theorem Inv.lset {its its':List Value} {n:Nat} {f:Array Value->Array Value} {t':Nat} (I:Inv X pins σ H s) (hH:H l=some (.lst xs))
  (e:s.heap.get? l=some { cls:=.type "list",data:=.seq its.toArray n }) (hf:f its.toArray=its'.toArray) (hv:wz ys its') (hz:ys.length <= sizeLine) :
  Inv X pins σ (upd H l (.lst ys)) { s with heap:=s.heap.update l (Obj.mapSeq f),toks:=t' }:=by
 have q:=PySem.IsL.update e f
 rw [hf] at q
 refine I.write (x:=l) (e:=l) (by rw [hH]; exact trivial) (.inl rfl) (fun b' u hb hu=>(Heap.get?_update_other s.heap (Obj.mapSeq f) (Ne.symm hb)).trans hu) ⟨_,q⟩ ?_
 exact ⟨hz,its',_,hv,q⟩
theorem Inv.lnew {its:List Value} {t':Nat} (I:Inv X pins σ H s) (hv:wz ys its) (hz:ys.length <= sizeLine) :
  Inv X pins σ (upd H s.heap.objs.size (.lst ys)) { s with heap:=s.heap.push { cls:=.type "list",data:=.seq its.toArray },toks:=t' } :=
 I.laid (fun _ _ q=>Heap.get?_push_of_some _ q) (Nat.le_refl _) ⟨hz,its,0,hv,Heap.get?_push_size _ rfl⟩
theorem Inv.fresh (I:Inv X pins σ H s):H s.heap.objs.size=none:=I.hok.fresh (Nat.le_refl _)
theorem Inv.lstM (I:Inv X pins σ H s) (hH:H l=some (.lst xs)):xs.length <= sizeLine/\∃ (its:List Value) (n:Nat),wz xs its/\xs.length=its.length/\s.heap.get? l=some { cls:=.type "list",data:=.seq its.toArray n }:=by
 obtain ⟨z,its,n,r,e⟩:=I.hok l _ hH
 exact ⟨z,its,n,r,r.length,e⟩
theorem yhj {n:Nat} (h:n <= sizeLine):Builtin.List.listTooLong n=false:=by
 unfold Builtin.List.listTooLong
 exact decide_eq_false (by omega)
end
section
variable {X:Cx}
def ylw:V->List V->Hp->VK->Prop:=fun x vs H Q=>∃ l xs y,x=.ref l/\vs=[y]/\H l=some (.lst xs)/\xs.length < sizeLine/\Q .non (upd H l (.lst (xs++[y])))
theorem xh:MtM X "list.append" ylw:=by
 intro pins s σ H x vs v us Q I rx rv h
 obtain ⟨l,xs,y,rfl,rfl,hH,hz,q⟩:=h
 cases rx
 obtain ⟨u,rfl,ru⟩:=rv.one
 obtain ⟨z,its,n,r,hl,e⟩:=I.lstM hH
 refine call_meets F.slot_list_append ⟨_,e,rfl⟩ F.entry_list_append (F.args_list_append_2 _ _) (PySem.list_append l its.toArray n u (by rw [List.size_toArray]; omega)) ⟨e,?_⟩
 refine ⟨.non,_,I.lset (its':=its++[u]) hH e (by simp) (r.append (.cons ru .nil)) ?_,rfl,q⟩
 rw [List.length_append,List.length_singleton]
 omega
def ysw:V->List V->Hp->VK->Prop:=fun x vs H Q=>∃ l b xs zs,x=.ref l/\vs=[.ref b]/\H l=some (.lst xs)/\H b=some (.lst zs)/\xs.length+zs.length <= sizeLine/\Q .non (upd H l (.lst (xs++zs)))
theorem yk1:MtM X "list.extend" ysw:=by
 intro pins s σ H x vs v us Q I rx rv h
 obtain ⟨l,b,xs,zs,rfl,rfl,hH,hB,hz,q⟩:=h
 cases rx
 obtain ⟨u,rfl,ru⟩:=rv.one
 cases ru
 obtain ⟨z,its,n,r,hl,e⟩:=I.lstM hH
 obtain ⟨z2,its2,n2,r2,hl2,e2⟩:=I.lstM hB
 have hsz:its.toArray.size+its2.toArray.size <= sizeLine:=by rw [List.size_toArray,List.size_toArray]; omega
 have hlong:¬ (!its.toArray.isEmpty && Builtin.List.listTooLong (its.toArray.size+its2.toArray.size))=true:=by
  rw [yhj hsz,Bool.and_false]
  exact Bool.false_ne_true
 refine call_meets F.slot_list_extend ⟨_,e,rfl⟩ F.entry_list_extend (F.args_list_extend_2 _ _)
  (AutoSeq1.list_extend_list_list_0 l its.toArray n b its2.toArray n2 hlong (by rw [List.size_toArray]; omega) (by omega)) ⟨e,e2,?_⟩
 refine ⟨.non,_,I.lset (its':=its++its2) hH e (by simp) (r.append r2) ?_,rfl,q⟩
 rw [List.length_append]
 omega
def yhx:V->List V->Hp->VK->Prop:=fun x vs H Q=>∃ l xs,x=.ref l/\vs=[]/\H l=some (.lst xs)/\Q .non (upd H l (.lst xs.reverse))
theorem yi8:MtM X "list.reverse" yhx:=by
 intro pins s σ H x vs v us Q I rx rv h
 obtain ⟨l,xs,rfl,rfl,hH,q⟩:=h
 cases rx
 have hus:=rv.zero
 subst hus
 obtain ⟨z,its,n,r,hl,e⟩:=I.lstM hH
 refine call_meets F.slot_list_reverse ⟨_,e,rfl⟩ F.entry_list_reverse (F.args_list_reverse_1 _) (AutoSeq1.list_reverse_list_0 l its.toArray n (by rw [List.size_toArray]; omega)) ⟨e,?_⟩
 refine ⟨.non,_,I.lset (its':=its.reverse) hH e (by simp) r.reverse ?_,rfl,q⟩
 rw [List.length_reverse]
 omega
def ved:R2:=fun x y H Q=>∃ l b xs zs,x=.ref l/\y=.ref b/\H l=some (.lst xs)/\H b=some (.lst zs)/\xs.length+zs.length <= sizeLine/\∀ p,H p=none->Q (.ref p) (upd H p (.lst (xs++zs)))
theorem ycv:OpR X (binaryOp .Add) ved:=by
 intro pins s σ H x y v u Q I rx ry h
 obtain ⟨l,b,xs,zs,rfl,rfl,hH,hB,hz,q⟩:=h
 cases rx
 cases ry
 obtain ⟨z,its,n,r,hl,e⟩:=I.lstM hH
 obtain ⟨z2,its2,n2,r2,hl2,e2⟩:=I.lstM hB
 refine PySem.P.add_list e e2 ?_ (by rw [List.size_toArray,List.size_toArray]; omega)
 have ea:its.toArray++its2.toArray=(its++its2).toArray:=by simp
 rw [ea]
 exact ⟨.ref _,_,I.lnew (t':=s.toks) (r.append r2) (by rw [List.length_append]; omega),rfl,q _ I.fresh⟩
def vef:R2:=fun x y H Q=>∃ l k xs,x=.ref l/\y=.int k/\H l=some (.lst xs)/\-(2 ^ 63) <= k/\k < 2 ^ 63/\xs.length * k.toNat <= sizeLine /\
 ∀ p,H p=none->Q (.ref p) (upd H p (.lst (List.replicate k.toNat xs).flatten))
theorem ys8 {α:Type} (xs:List α) (k:Nat):(List.replicate k xs).flatten.length=k * xs.length:=by
 induction k with
 | zero=>simp
 | succ k ih=>rw [List.replicate_succ,List.flatten_cons,List.length_append,ih,Nat.succ_mul,Nat.add_comm]
theorem yip:OpR X (binaryOp .Mult) vef:=by
 intro pins s σ H x y v u Q I rx ry h
 obtain ⟨l,k,xs,rfl,rfl,hH,h1,h2,hz,q⟩:=h
 cases rx
 obtain ⟨t,rfl⟩:=ry
 obtain ⟨z,its,n,r,hl,e⟩:=I.lstM hH
 have hlen:its.toArray.size * k.toNat <= sizeLine:=by rw [List.size_toArray,<- hl]; exact hz
 have hcap:¬ its.toArray.size * k.toNat > (2 ^ 63 - 1) / 8:=by
  have:(sizeLine:Nat) <= (2 ^ 63 - 1) / 8:=by decide
  omega
 have hfit:¬ (!Builtin.List.listFitsIndex k)=true:=by
  rw [fitsIndex_both h1 h2]
  exact Bool.false_ne_true
 have hlong:¬ Builtin.List.listTooLong (its.toArray.size * k.toNat)=true:=by
  rw [yhj hlen]
  exact Bool.false_ne_true
 have hnew:List.foldl (fun x1 x2=>x1++x2) #[] (List.replicate (if its.toArray.isEmpty=true then 0 else k.toNat) its.toArray)=(List.replicate k.toNat its).flatten.toArray:=by
  have f0:∀ m:Nat,List.foldl (fun x1 x2=>x1++x2) #[] (List.replicate m its.toArray)=(List.replicate m its).flatten.toArray:=fun m=>by
   have:=yer its m []
   rw [List.nil_append] at this
   exact this
  rw [f0]
  cases its with
  | nil=>simp
  | cons a r'=>rw [if_neg (by simp)]
 refine wpAny_binaryOp_repeat_ref (T:="list") (U:="int") (by decide) ⟨_,e,rfl⟩ (fun s'=>typeIs_int s' k t) noFill_list_mul F.fills_int_mul F.slot_int_rmul repeat_list F.slot_int_index.lookup
  (call_meets F.slot_int_rmul (typeIs_int s k t) F.entry_int_rmul (F.args_int_rmul_2 _ _) (int___rmul___int_list k t l its.toArray n)
   ⟨e,rfl,⟨_,e,rfl⟩,call_meets F.slot_list_mul ⟨_,e,rfl⟩ F.entry_list_mul (F.args_list_mul_2 _ _) (AutoListH.list___mul___list_int_3 l its.toArray n k t hfit hcap hlong) ⟨e,?_⟩⟩)
 rw [hnew]
 exact ⟨.ref _,_,I.lnew (t':=s.toks) (r.rep k.toNat) (by rw [ys8,Nat.mul_comm]; exact hz),rfl,q _ I.fresh⟩
end
section
variable {prog:Program} {w:World} {A:Around} {E:Value->Shared->Prop} {s:Shared}
end
section
variable {X:Cx}
end
end L2
namespace Att
open PySem PySem.W PySem.Calls PyProof.Rows
theorem ybo {P:Params} {h:Heap}:∀ (ns:List Int) (vs:List Value),WellAll P h vs (ns.map WData.int)->IntsAre vs ns:=by
 intro ns
 induction ns with
 | nil =>
  intro vs w
  rw [List.map_nil] at w
  cases w
  exact .nil
 | cons n ns ih =>
  intro vs w
  rw [List.map_cons] at w
  cases w with
  | cons a b =>
   cases a
   exact .cons _ _ (ih _ b)
theorem ykm {l:OpenLaw} {n:Nat} (hn:l.most=some n) {P:Params} {h:Heap} {args:List WData} {vals:List Value}
  (hpre:l.row.toRowW.claim.pre args=true) (hwl:WellAll P h vals args) :
  ∃ a vs ns,vals=[Value.ref a]/\args=[WData.list (ns.map WData.int)]/\h.get? a=some { cls:=.type "list",data:=.seq vs.toArray }/\IntsAre vs ns/\ns.length <= n:=by
 have hsh:WShape.hasAll [] args [.list .int]=true:=(pre_splitW hpre).1
 have hc:l.pre.holds [] { args:=args }=true:=(pre_splitW hpre).2
 obtain ⟨d,r,rfl,h1,h2⟩:=hasAllW_cons hsh
 obtain rfl:=hasAllW_nil h2
 obtain ⟨xs,rfl,h3⟩:=hasW_list h1
 obtain ⟨ns,rfl⟩:=items_int h3
 have hlen:ns.length <= n:=by
  unfold OpenLaw.pre at hc
  have h4:(WTm.not (.lt (.lit (.int (n:Int))) (.len (.arg 0)))).holds [] { args:=[.list (ns.map .int)] }=true:=by
   have h4:=(holds_andW hc).1
   rw [hn] at h4
   exact h4
  have h5:=condW_of h4 (w_not (w_lt w_lit (w_len_list (w_arg rfl))))
  rw [List.length_map] at h5
  refine Nat.le_of_not_lt fun q=>?_
  have q':(n:Int) < ((ns.length:Nat):Int):=by omega
  first
   | (rw [decide_eq_true q'] at h5; exact absurd h5 (by decide))
   | (simp at h5; omega)
 cases hwl with
 | cons w1 w2 =>
  cases w2
  cases w1 with
  | list ho hall=>exact ⟨_,_,ns,rfl,rfl,ho,ybo ns _ hall,hlen⟩
theorem yk5 (l:OpenLaw) (args:List WData):l.row.toRowW.claim.post args (.bool true) args=true :=
 postW_of (r:=l.row.toRowW) (X:=(true == true))
  (show WShape.has [] (.bool true) .bool=true by first | rfl | decide | simp [WShape.has,WShape.arms,WShape.armsAll])
  (show (WTm.eq .res (.lit (.bool true))).value [] { args:=args,res:=some (.bool true),after:=args }=some (.bool (true == true)) from w_eq_bool (w_res rfl) w_lit) rfl
theorem attach_call {l:OpenLaw} {n:Nat} {q:Program} {loose:List Str} {XP:(Str->Option Value)->Heap->Prop} {YP:World->Heap->Prop} {d:DefRec}
  (hn:l.most=some n) (hdf:d.params.defaults=[])
  (call:∀ (w:World) (s₀ s₁:Shared) (mg mb:Str->Option Value) (fa:Addr) (o:Obj) (pm cd doc:Value) (a:Addr) (vs:List Value) (ns:List Int),
   Ground q loose [] XP w s₀ mg mb s₁.heap->YP w s₁.heap ->
   s₁.heap.get? fa=some o->o.data=.func (docDef d.name d.params d.body d.scope pm cd doc)->s₁.heap.CodeRec cd d.name->mg d.name=some (.ref fa) ->
   s₁.heap.get? a=some { cls:=.type "list",data:=.seq vs.toArray }->IntsAre vs ns->ns.length <= n->s₁.gens=#[] ->
   codeAny (model l.prog w) callerA (.call (.ref fa) ⟨[.ref a],[]⟩) (fun r s'=>r=.ok (.ret (.bool true))/\OldK s₁.heap s'.heap/\s'.os=s₁.os/\AllBare s'.gens) s₁) :
  WalkO q loose XP YP l.row.toRowW d [] (fun f vs=>PySem.call f vs):=by
 intro w s₀ s₁ mg mb G Y fa o pm cd doc dV kV ho hd hcd hD hmg hg args vals as hpre hlay hrd hwl hlo
 obtain rfl:dV=.none:=Dflts.none hD hdf
 obtain rfl:kV=.none:=Dflts.noKw hD
 obtain ⟨a,vs,ns,rfl,rfl,hobj,hints,hlen⟩:=ykm hn hpre hwl
 refine enter_call (codeAny_mono (call w s₀ s₁ mg mb fa o pm cd doc a vs ns G Y ho (fd_plain hd) hcd hmg hobj hints hlen hg) fun r s' hq=>?_)
 obtain ⟨rfl,h2,h3,h4⟩:=hq
 exact ⟨.inl ⟨.bool true,.bool true,[],rfl,fun _=>rfl,.bool true,yk5 l _,fun _=>⟨List.Pairwise.nil,fun _ hm=>(nomatch hm)⟩⟩,h2,h3,h4⟩
section
variable {prog:Program} {w:World} {A:Around} {E:Value->Shared->Prop} {s:Shared} {K:Frag}
def vda (h:Heap) (L d:Addr):List (Addr × Obj):=(List.range h.objs.size).filterMap fun a=>if a=L\/a=d then none else (h.get? a).map fun o=>(a,o)
end
end Att
namespace L2
open PySem PySem.Spec PyProof.Rows
theorem yez:∀ {vs:List Value} {ns:List Int},IntsAre vs ns->wz (ns.map V.int) vs
 | _,_,.nil=>.nil
 | _,_,.cons n t h=>.cons ⟨t,rfl⟩ (yez h)
def vc3 (H:Hp):Prop:=∀ b,H b=none\/∃ o xs,H b=some (.frz o (.lst xs))
theorem yn3 {P:Program} {w:World} {K:W.Frag} {mg mb:Str->Option Value} {CX:CXT} {k:Nat} {fa a:Addr} {fd:FuncData} {x:Str} {sp:Sp} {s₁:Shared} {vs:List Value} {ns:List Int}
  (KX:K.In s₁.heap) (hns:s₁.heap.Ns mainGlobals mg) (hb:s₁.heap.Ns builtinsNs mb) (hbb:∀ x:Str,x≠"__name__"->mb x=bootBuiltins x) (hlim:s₁.heap.NoLimit) (hg:s₁.gens=#[])
  (ha:s₁.heap.get? a=some { cls:=.type "list",data:=.seq vs.toArray }) (hi:IntsAre vs ns) (hl:ns.length <= sizeLine) (hr:jv k callerA)
  (F:∀ base:Heap,K.In base->base.Ns mainGlobals mg->wv P w K mg base CX k fa fd [x] sp) (hbind:∀ (s:Shared) (u:Value),BindsTo s fd ⟨[u],[]⟩ [(x,u)])
  (hsp:∀ H:Hp,vc3 H->SqL K H a (ns.map V.int)->sp [.ref a] H (fun v _=>v=.bl true) fun _ _ _=>False)
  (hCX:∀ H e s',CX [] H s₁ (fun _ _ _=>False) e s'->False) :
  codeAny (model P w) callerA (.call (.ref fa) ⟨[.ref a],[]⟩) (fun r s'=>r=.ok (.ret (.bool true))/\OldK s₁.heap s'.heap/\s'.os=s₁.os/\AllBare s'.gens) s₁:=by
 have rv:=yez hi
 have lenV:=hi.length
 have core:∀ H:Hp,vc3 H->SqL K H a (ns.map V.int)->HOk P w H s₁.heap->(∀ b,H b≠none->b=a)->(H a≠none->K.lookup a=none) ->
   codeAny (model P w) callerA (.call (.ref fa) ⟨[.ref a],[]⟩) (fun r s'=>r=.ok (.ret (.bool true))/\OldK s₁.heap s'.heap/\s'.os=s₁.os/\AllBare s'.gens) s₁:=by
  intro H hO hS hok hA hK
  have base_of:∀ {b:Addr} {o:Obj},s₁.heap.get? b=some o->H b=none->(ypb s₁.heap H).get? b=some o:=fun e n=>ynz e n
  have noA:∀ {b:Addr} {o:Obj} {es:Array DictEntry} {ep:Nat},s₁.heap.get? b=some o->o.data=.dict es ep->H b=none:=fun {b o es ep} e d=>by
   cases q:H b with
   | none=>rfl
   | some u =>
    have e':b=a:=hA b (by rw [q]; simp)
    subst e'
    rw [ha] at e; cases e
    have d':Data.seq vs.toArray _=Data.dict es ep:=d
    cases d'
  have nsK:∀ {b:Addr} {m:Str->Option Value},s₁.heap.Ns b m->(ypb s₁.heap H).Ns b m:=fun {b m} ⟨o,es,ep,e,d,r⟩=>⟨o,es,ep,base_of e (noA e d),d,r⟩
  have hKb:K.In (ypb s₁.heap H):=fun b o e=>base_of (KX b o e) (by
   cases q:H b with
   | none=>rfl
   | some u =>
    have e':b=a:=hA b (by rw [q]; simp)
    subst e'
    rw [hK (by rw [q]; simp)] at e; cases e)
  have hM:Mod K mg (ypb s₁.heap H):=⟨hKb,nsK hns,⟨mb,nsK hb,hbb⟩,let ⟨mc,h1,h2⟩:=hlim; ⟨mc,nsK h1,h2⟩⟩
  have e0:yv3 P w K mg (ypb s₁.heap H) callerA [] s₁ H:=⟨rfl,hM,fun b o e=>ysl e,Nat.le_of_eq (ylj _ _),trivial,fun b hb=>absurd (show b∈([]:List Addr) from hb) (by simp),hok,.of_eq hg⟩
  refine codeAny_mono ((F _ hKb (nsK hns)).run callerA [] s₁ H ⟨[.ref a],[]⟩ [.ref a] [.ref a] _ _ hr e0 (hbind s₁ (.ref a)) (.cons rfl .nil) (hsp H hO hS)) fun r s' h=>?_
  cases r with
  | error e=>exact (hCX H e s' h).elim
  | ok fl =>
   cases fl with
   | next=>exact False.elim h
   | brk=>exact False.elim h
   | cont=>exact False.elim h
   | ret u =>
    obtain ⟨v,H',os,bare,un,hok',r',q⟩:=h
    have q':v=.bl true:=q
    subst q'
    obtain rfl:u=Value.bool true:=r'
    refine ⟨rfl,OldK.of_keep fun b o e=>?_,os,bare⟩
    cases q:H b with
    | none=>exact un.keep b o e q (by intro z; exact absurd (show b∈([]:List Addr) from z) (by simp)) (by simp)
    | some u =>
     rcases hO b with z | ⟨ob,xs,z⟩
     ·rw [q] at z; cases z
     ·have z2:=un.frzs b ob _ z
      obtain ⟨e1,_⟩:=hok b _ z
      obtain ⟨e2,_⟩:=hok' b _ z2
      rw [e] at e1; cases e1
      exact e2
 cases hk:K.lookup a with
 | some o =>
  have e:=KX a o hk
  rw [ha] at e
  cases e
  refine core (fun _=>none) (fun _=>.inl rfl) (.inr ⟨_,vs.toArray,_,hk,rfl,rfl,rfl,by rw [List.size_toArray,lenV]; exact hl,by simpa using rv⟩) (fun b u z=>by have z':(none:Option HO)=some u:=z; cases z') (fun b z=>absurd rfl z) fun z=>absurd rfl z
 | none =>
  refine core (fun b=>if b=a then some (.frz { cls:=.type "list",data:=.seq vs.toArray } (.lst (ns.map V.int))) else none) (fun b=>?_) (.inl (.inr ⟨{ cls:=.type "list",data:=.seq vs.toArray },if_pos rfl⟩)) (fun b u z=>?_) (fun b z=>?_) fun _=>hk
  ·by_cases hb:b=a
   ·exact .inr ⟨_,_,if_pos hb⟩
   ·exact .inl (if_neg hb)
  ·by_cases hb:b=a
   ·have z':=(if_pos hb).symm.trans z
    cases z'
    subst hb
    exact ⟨ha,by rw [List.length_map]; exact hl,vs,_,rv,ha⟩
   ·have z':=(if_neg hb).symm.trans z
    cases z'
  ·by_cases hb:b=a
   ·exact hb
   ·exact absurd (if_neg hb) z
end L2
namespace L2
open PySem PySem.Spec PyProof.Rows
theorem walk_of {l:W.OpenLaw} {n k:Nat} {q:Program} {loose:List Str} {XP:(Str->Option Value)->Heap->Prop} {YP:World->Heap->Prop} {d:DefRec} {K:Params->W.Frag} {CX:World->CXT} {sp:World->Sp} {x:Str}
  (hn:l.most=some n) (hn2:n <= sizeLine) (hdf:d.params.defaults=[]) (hr:jv k callerA)
  (hY:∀ (w:World) (h:Heap),YP w h->(K w.params).In h)
  (F:∀ (w:World) (mg:Str->Option Value) (fa:Addr) (h:Heap),(K w.params).In h->h.Ns mainGlobals mg->mg d.name=some (.ref fa) ->
   ∃ fd:FuncData,(∀ (s:Shared) (u:Value),BindsTo s fd ⟨[u],[]⟩ [(x,u)]) /\
    ∀ base:Heap,(K w.params).In base->base.Ns mainGlobals mg->wv l.prog w (K w.params) mg base (CX w) k fa fd [x] (sp w))
  (hsp:∀ (w:World) (H:Hp) (a:Addr) (ns:List Int),ns.length <= n->vc3 H->SqL (K w.params) H a (ns.map V.int)->sp w [.ref a] H (fun v _=>v=.bl true) fun _ _ _=>False)
  (hCX:∀ (w:World) (H:Hp) (s:Shared) (e:Value) (s':Shared),CX w [] H s (fun _ _ _=>False) e s'->False) :
  W.WalkO q loose XP YP l.row.toRowW d [] (fun f vs=>PySem.call f vs):=by
 refine Att.attach_call hn hdf fun w s₀ s₁ mg mb fa o pm cd doc a vs ns G Y ho hd hcd hmg hobj hints hlen hg=>?_
 have KX:=hY w _ Y
 obtain ⟨fd,hb,hF⟩:=F w mg fa _ KX G.T.g hmg
 exact yn3 KX G.T.g G.T.b G.T.builtins G.T.nolimit hg hobj hints (Nat.le_trans hlen hn2) hr hF hb (fun H hO hS=>hsp w H a ns hlen hO hS) fun H e s'=>hCX w H s₁ e s'
end L2
namespace L2
open PySem PySem.Spec PyProof.Rows
def v8 (s:Stmt) (j:Nat):Stmt:=match s with
 | .ClassDef _ _ _ body _ _ _ _ _ _ _=>body.getD j (.Pass ⟨0,0,0,0⟩)
 | _=>.Pass ⟨0,0,0,0⟩
def xb (s:Stmt):Arguments:=match s with
 | .FunctionDef _ a _ _ _ _ _ _ _ _=>a
 | _=>{ posonlyargs:=[],args:=[],vararg:=none,kwonlyargs:=[],kw_defaults:=[],kwarg:=none,defaults:=[] }
def wx (s:Stmt):List Stmt:=match s with
 | .FunctionDef _ _ b _ _ _ _ _ _ _=>b
 | _=>[]
def yj (s:Stmt):Scope:=match s with
 | .FunctionDef _ _ _ _ _ _ sc _ _ _=>sc
 | _=>{ kind:=.function,names:=[],isGenerator:=false,isCoroutine:=false }
abbrev CX0:CXT:=fun _ _ _ _ _ _=>False
abbrev E0:XK:=fun _ _ _=>False
theorem vv {X:Cx}:ya8 CX0 X E0:=fun _ _ _ _ _ _ _ h=>h.elim
structure Fun (K:W.Frag) (x qual:Str) (st:Stmt) (f:Addr) (fd:FuncData):Prop where
 ex:∃ (oc:Value) (od:Option Addr) (kV doc pm:Value) (an:Option Addr) (cdv ct:Value) (osl:Array (Option Value)),
  fd=W.fnOf x qual (xb st) (wx st) (yj st) .none kV doc pm an cdv ct/\K.lookup f=some ⟨oc,od,.func fd,osl⟩/\W.codeIn K cdv qual=true
 kp:W.keepIn K (.ref f)=true
section
variable {P:Program} {w:World} {K:W.Frag} {mg:Str->Option Value} {base:Heap}
theorem Fun.ok {x qual:Str} {st:Stmt} {f:Addr} {fd:FuncData} {N ps:List Str} {k:Nat} {sp:Sp} (F:Fun K x qual st f fd) (S:ym N ps (yj st)) (len:∀ vs H Q E,sp vs H Q E->vs.length=ps.length)
  (hbody:∀ (cdv:Value) (A:Around) (outer:List Env) (s:Shared) (H:Hp) (vs:List V) (Q:VK) (E:XK),jv k (A.deeper (envOfC qual (yj st) s.heap.objs.size f cdv))->sp vs H Q E ->
   ∃ t,PSs (wk CX0 P w K mg base N qual (yj st) f cdv A outer s H E).nox (wx st) t/\t { nx:=fun _ H'=>Q .non H',rt:=Q } (yba N vs) H):wv P w K mg base CX0 (k+1) f fd ps sp:=by
 obtain ⟨oc,od,kV,doc,pm,an,cdv,ct,osl,rfl,lk,hcd⟩:=F.ex
 refine yty lk hcd S len fun A outer s H vs Q E hr hsp=>?_
 obtain ⟨t,h,q⟩:=hbody cdv A outer s H vs Q E hr hsp
 exact ⟨t,h.nox,q⟩
theorem Fun.binds {x qual:Str} {st:Stmt} {f:Addr} {fd:FuncData} {ps:List Str} (F:Fun K x qual st f fd)
  (h:∀ (kV doc pm:Value) (an:Option Addr) (cdv ct:Value) (us:List Value),us.length=ps.length->bindArgs (W.fnOf x qual (xb st) (wx st) (yj st) .none kV doc pm an cdv ct) ⟨us,[]⟩=pure (ps.zip us)):uk K fd ps []:=by
 obtain ⟨oc,od,kV,doc,pm,an,cdv,ct,osl,rfl,lk,hcd⟩:=F.ex
 exact .all (h kV doc pm an cdv ct)
theorem yrg {x qual:Str} {st:Stmt} {f:Addr} {oc:Value} {od an:Option Addr} {osl:Array (Option Value)} {kV doc pm cdv ct:Value} (l:K.lookup f=some ⟨oc,od,.func (W.fnOf x qual (xb st) (wx st) (yj st) .none kV doc pm an cdv ct),osl⟩)
  (c:W.codeIn K cdv qual=true) (k:W.keepIn K (.ref f)=true):Fun K x qual st f (W.fnOf x qual (xb st) (wx st) (yj st) .none kV doc pm an cdv ct):=⟨⟨oc,od,kV,doc,pm,an,cdv,ct,osl,rfl,l,c⟩,k⟩
end
theorem yvh {A:Around} {k:Nat} (hr:jv k A):A.units+1 < cLine:=Nat.lt_of_le_of_lt (Nat.add_le_add_left (by decide:1 <= 64) _) hr.units
section
variable {X:Cx}
theorem pv (i:Nat) {x:Str} {pos:Pos} (hN:X.N[i]?=some x:=by rfl) (hv:Vis X.env.scope x:=by first | exact Or.inl rfl | exact Or.inr (Or.inl rfl) | exact Or.inr (Or.inr rfl)) (hd:(x == ("__debug__":Str))=false:=by decide)
  (hcd:(x == ("__classdict__":Str))=false:=by decide):PE X (.Name x pos) (vc6 i):=yzm hN hv hd hcd
end
theorem ynl {A B:Prop} (h:B):if false=true then A else B:=by
 rw [if_neg Bool.false_ne_true]
 exact h
theorem ypd {A B:Prop} (h:A):if true=true then A else B:=by
 rw [if_pos rfl]
 exact h
def vi (H H':Hp):Prop:=∀ b o,H b=some o->H' b=some o
theorem vi.refl (H:Hp):vi H H:=fun _ _ h=>h
theorem vi.trans {H H1 H2:Hp} (a:vi H H1) (b:vi H1 H2):vi H H2:=fun c o h=>b c o (a c o h)
theorem vi.free {H H':Hp} (e:vi H H') {l:Addr} (h:H' l=Option.none):H l=Option.none:=by
 cases q:H l with
 | none=>rfl
 | some o =>
  rw [e l o q] at h
  cases h
theorem vi.seq {K:W.Frag} {H H':Hp} {a:Addr} {xs:List V} (e:vi H H') (h:SqL K H a xs):SqL K H' a xs:=by
 rcases h with (h | ⟨o,h⟩) | h
 ·exact .inl (.inl (e _ _ h))
 ·exact .inl (.inr ⟨o,e _ _ h⟩)
 ·exact .inr h
end L2
namespace L2
open PySem PySem.Spec PyProof.Rows
section
variable {X:Cx}
theorem wg:ybb X (.builtin "isinstance") (fun xs H Q=>∃ x cv t c k,xs=[x,cv]/\xl cv c/\(∀ u,xl cv u->u=c)/\xw X.K H x t/\W.kitOne X.K t c=some k/\Q (.bl k) H):=by
 intro pins s σ H xs us Q I r h
 obtain ⟨x,cv,t,c,k,rfl,_,hc,ty,e,q⟩:=h
 obtain ⟨u,u',rfl,rx,rc⟩:=ynb r
 obtain rfl:=hc u' rc
 exact ylc I rx ty e fun tk=>⟨.bl k,H,I.tok tk,rfl,q⟩
theorem zj {x:Str} {T:String} {pos:Pos} (hg:Gl X x) (hm:X.mg x=none) (hv:bootBuiltins x=some (.type T)) (hn:x≠"__name__":=by decide) (hd:(x == ("__debug__":Str))=false:=by decide):PE X (.Name x pos) (tC (.ty T)):=ys0 hg hm hv rfl hn hd
theorem v9 {x:Str} {i:Int} {t:Tok} {pos:Pos} (hg:Gl X x) (hm:X.mg x=some (.int i t)) (hd:(x == ("__debug__":Str))=false:=by decide):PE X (.Name x pos) (tC (.int i)):=ymb hg hm ⟨t,rfl⟩ hd
theorem w5 {x:Str} {C:Addr} {pos:Pos} (hg:Gl X x) (hm:X.mg x=some (.ref C)) (hd:(x == ("__debug__":Str))=false:=by decide):PE X (.Name x pos) (tC (.ref C)):=ymb hg hm rfl hd
mutual
inductive RdV (K:W.Frag) (H:Hp):V->PyData->Prop
 | non:RdV K H .non .none
 | bl (b):RdV K H (.bl b) (.bool b)
 | int (i):RdV K H (.int i) (.int i)
 | str (x):RdV K H (.str x) (.str x)
 | lst {a xs ds}:SqL K H a xs->yj7 K H xs ds->RdV K H (.ref a) (.list ds)
 | tup {a xs ds}:SqT K H a xs->yj7 K H xs ds->RdV K H (.ref a) (.tuple ds)
inductive yj7 (K:W.Frag) (H:Hp):List V->List PyData->Prop
 | nil:yj7 K H [] []
 | cons {x xs d ds}:RdV K H x d->yj7 K H xs ds->yj7 K H (x :: xs) (d :: ds)
end
mutual
theorem RdV.reads {pins:List (Addr × Obj)} {σ:St} {H:Hp} {s:Shared} (I:Inv X pins σ H s):∀ {x:V} {d:PyData} {u:Value},RdV X.K H x d->xl x u->∃ as,Reads s.heap u d as
 | _,_,_,.non,r=>by cases r; exact ⟨_,.none⟩
 | _,_,_,.bl _,r=>by cases r; exact ⟨_,.bool _⟩
 | _,_,_,.int _,r=>by obtain ⟨t,rfl⟩:=r; exact ⟨_,.int _ _⟩
 | _,_,_,.str _,r=>by obtain ⟨t,rfl⟩:=r; exact ⟨_,.str _ _⟩
 | _,_,_,.lst hq hs,r=>by
  cases r
  obtain ⟨its,rv,⟨o,n,h1,h2,h3,h4⟩,hz⟩:=I.list hq
  obtain ⟨as,ra⟩:=yj7.reads I hs rv
  exact ⟨_,.list h1 h2 h4 (by simpa using ra)⟩
 | _,_,_,.tup hq hs,r=>by
  cases r
  obtain ⟨its,rv,⟨o,h1,h2,n,h4⟩,hz⟩:=I.tuple hq
  obtain ⟨as,ra⟩:=yj7.reads I hs rv
  exact ⟨_,.tuple h1 h2 h4 (by simpa using ra)⟩
theorem yj7.reads {pins:List (Addr × Obj)} {σ:St} {H:Hp} {s:Shared} (I:Inv X pins σ H s):∀ {xs:List V} {ds:List PyData} {us:List Value},yj7 X.K H xs ds->wz xs us->∃ as,ReadsAll s.heap us ds as
 | _,_,_,.nil,.nil=>⟨_,.nil⟩
 | _,_,_,.cons h hs,.cons r rs=>by
  obtain ⟨as,ra⟩:=RdV.reads I h r
  obtain ⟨bs,rb⟩:=yj7.reads I hs rs
  exact ⟨_,.cons ra rb⟩
end
def va9 (K:W.Frag) (g:Bool->Bool):R2:=fun x y H Q=>∃ d e,RdV K H x d/\RdV K H y e/\SeqAt.shaped d=true/\SeqAt.shaped e=true/\Q (.bl (g (PyData.eqv d e))) H
theorem yy2 (hu:X.A.units+64 < cLine):OpR X (compareOp .Eq) (va9 X.K fun b=>b):=by
 intro pins s σ H x y v u Q I rx ry h
 obtain ⟨d,e,h1,h2,s1,s2,q⟩:=h
 obtain ⟨as,ra⟩:=h1.reads I rx
 obtain ⟨bs,rb⟩:=h2.reads I ry
 exact eq_dataH ra rb s1 s2 hu ⟨.bl _,H,I,rfl,q⟩
theorem ym3 (hu:X.A.units+64 < cLine):OpR X (compareOp .NotEq) (va9 X.K fun b=>!b):=by
 intro pins s σ H x y v u Q I rx ry h
 obtain ⟨d,e,h1,h2,s1,s2,q⟩:=h
 obtain ⟨as,ra⟩:=h1.reads I rx
 obtain ⟨bs,rb⟩:=h2.reads I ry
 exact ne_dataH ra rb s1 s2 hu ⟨.bl _,H,I,rfl,q⟩
theorem yad {K:W.Frag} {H:Hp}:∀ ns:List Int,yj7 K H (ns.map V.int) (ns.map PyData.int)
 | []=>.nil
 | n :: r=>.cons (.int n) (yad r)
theorem jz:∀ ns:List Int,PyData.canLayAll0 (ns.map PyData.int)=true
 | []=>rfl
 | _ :: r=>by simp [PyData.canLayAll0,PyData.canLay0,jz r]
theorem yar:∀ ns:List Int,PyData.depthAll (ns.map PyData.int)=0
 | []=>rfl
 | _ :: r=>by simp [PyData.depthAll,PyData.depth,yar r]
theorem ycl (ns:List Int):SeqAt.shaped (.list (ns.map PyData.int))=true:=by
 simp [SeqAt.shaped,PyData.canLay0,PyData.depth,jz,yar]
theorem j3:∀ ns ms:List Int,PyData.eqvAll (ns.map PyData.int) (ms.map PyData.int)=decide (ns=ms)
 | [],[]=>by simp [PyData.eqvAll]
 | [],_ :: _=>by simp [PyData.eqvAll]
 | _ :: _,[]=>by simp [PyData.eqvAll]
 | a :: r,b :: t=>by
  simp only [List.map_cons,PyData.eqvAll,PyData.eqv,j3 r t]
  by_cases h:a=b <;> by_cases h':r=t <;> simp [h,h']
theorem vbr {K:W.Frag} {g:Bool->Bool} {H:Hp} {Q:VK} {a b:Addr} (ns ms:List Int) (ha:SqL K H a (ns.map V.int)) (hb:SqL K H b (ms.map V.int)) (h:Q (.bl (g (decide (ns=ms)))) H):va9 K g (.ref a) (.ref b) H Q :=
 ⟨_,_,.lst ha (yad ns),.lst hb (yad ms),ycl ns,ycl ms,by rw [PyData.eqv,j3]; exact h⟩
def vbn (_ j:Int):Prop:=0 < j/\j < 2 ^ 200
theorem wa:OpR X (binaryOp .FloorDiv) (rI vbn fun i j=>.int (i / j)):=opI fun i j _ _ _ _ _ hc q=>by
 obtain ⟨h1,h2⟩:=hc
 refine floordiv_int (by omega) ?_ (.inl (PyProof.noPylong_of_log2 ?_))
 ·rw [Int.fdiv_eq_ediv_of_nonneg _ (by omega)]; exact q
 ·have e:j.natAbs < 2 ^ 200:=by omega
  have e':j.natAbs≠0:=by omega
  have:=(Nat.log2_lt e').mpr e
  omega
def vah (k:Int):R2:=fun x y H Q=>∃ i j,x=.int i/\y=.int j/\vc5 i j/\i ^ j.toNat=k/\Q (.int k) H
theorem yth (k:Int):OpR X (binaryOp .Pow) (vah k):=by
 intro pins s σ H x y v u Q I rx ry h
 obtain ⟨i,j,rfl,rfl,hc,e,q⟩:=h
 exact yys pins s σ H (.int i) (.int j) v u Q I rx ry ⟨i,j,rfl,rfl,hc,by show Q (.int (i ^ j.toNat)) H; rw [e]; exact q⟩
def vdv (t:TS):TS:=fun D σ H=>∃ M:St->Hp->Prop,t { D with nx:=M } σ H/\∀ σ' H',M σ' H'->D.nx σ' H'
theorem jx {st:Stmt} {t:TS} (h:PS X st t):PS X st (vdv t):=by
 intro pins s σ H D I ⟨M,h1,h2⟩
 refine thn (h pins s σ H { D with nx:=M } I h1) fun f s1 q=>?_
 cases f with
 | next =>
  obtain ⟨σ',H',I',q⟩:=q
  exact ⟨σ',H',I',h2 σ' H' q⟩
 | ret v=>exact q
 | brk=>exact q
 | cont=>exact q
end
def vw (nx:St->Hp->Prop) (σ:St) (H:Hp):Prop:=nx σ H
section
variable {K:W.Frag} {σ:St} {H:Hp} {Q:VK} {QB:Bool->Hp->Prop} {QL:List V->Hp->Prop} {v x y:V} {i j:Int} {b:Bool} {ta tb tc te:TE} {t u:TS} {tA tB':TT} {tr:TA} {D:yc1}
 {nx bk ct:St->Hp->Prop} {rt:VK} {A B:Prop}
theorem yn {N:List Str} {vs:List V} {σ':St} (e:yba N vs=σ') (h:t D σ' H):t D (yba N vs) H:=by rw [e]; exact h
theorem va0 {k:Nat} (e:σ[k]?=some (some v)) (h:Q v H):vc6 k σ H Q:=⟨v,e,h⟩
theorem i_c (h:Q v H):tC v σ H Q:=h
theorem vec {r:R2} (h:ta σ H fun x H1=>tb σ H1 fun y H2=>r x y H2 Q):tOp r ta tb σ H Q:=h
theorem vdz {r:V->Hp->VK->Prop} (h:ta σ H fun x H1=>r x H1 Q):tUn r ta σ H Q:=h
theorem veg {g:Int->Int->V} (h:Q (g i j) H):rI0 g (.int i) (.int j) H Q:=⟨i,j,rfl,rfl,h⟩
theorem i_I {C:Int->Int->Prop} {g:Int->Int->V} (hc:C i j) (h:Q (g i j) H):rI C g (.int i) (.int j) H Q:=⟨i,j,rfl,rfl,hc,h⟩
theorem i_U {g:Int->V} (h:Q (g i) H):rU g (.int i) H Q:=⟨i,rfl,h⟩
theorem vbx (h:Q (.bl (decide (i=j))) H):rEq (.int i) (.int j) H Q:=⟨rfl,by
 have e:decide (V.int i=V.int j)=decide (i=j):=by simp
 rw [e]; exact h⟩
theorem ywb (h:ta σ H fun x H'=>∃ k,x=.bl k/\QB k H'):yun ta σ H QB:=h
theorem vee (h:ta σ H fun x H'=>∃ k,x=.bl k/\QB k H'):tB ta σ H QB:=h
theorem vd9 {P:Bool->Prop} (h:P b):∃ k,V.bl b=V.bl k/\P k:=⟨b,rfl,h⟩
theorem ys1 {r r':R2} (h:ta σ H fun x H1=>tb σ H1 fun y H2=>r x y H2 fun z H3=>∃ k,z=.bl k/\(if k=true then tc σ H3 fun w' H4=>r' y w' H4 Q else Q (.bl false) H3)):ymk r r' ta tb tc σ H Q:=h
theorem yyx (h:ta σ H fun x H1=>∃ c,x=.bl c/\if c=true then tb σ H1 Q else Q (.bl false) H1):vag ta tb σ H Q:=h
theorem yzl (h:ta σ H fun x H1=>∃ c,x=.bl c/\Q (.bl (!c)) H1):vat ta σ H Q:=h
theorem vbm {t1 t2:TT} (h:t1 σ H fun c H1=>if c=true then t2 σ H1 QB else QB false H1):vds t1 t2 σ H QB:=h
theorem vd5 {t1 t2:TT} (h:t1 σ H fun c H1=>if c=true then QB true H1 else t2 σ H1 QB):tOr t1 t2 σ H QB:=h
theorem vbh {t1:TT} (h:t1 σ H fun c H1=>QB (!c) H1):vdb t1 σ H QB:=h
theorem vca (h:tA σ H fun c H1=>if c=true then ta σ H1 Q else tb σ H1 Q):tIf tA ta tb σ H Q:=h
theorem vcd (h:t ⟨u D,D.rt,D.bk,D.ct⟩ σ H):va6 t u D σ H:=h
theorem yxs (h:nx σ H):vaf ⟨nx,rt,bk,ct⟩ σ H:=h
theorem vb8 (h:te σ H rt):vdl te ⟨nx,rt,bk,ct⟩ σ H:=h
theorem yxy (h:te σ H fun _ H1=>nx σ H1):vaj te ⟨nx,rt,bk,ct⟩ σ H:=h
theorem vdw (h:tA σ H fun c H1=>if c=true then t D σ H1 else u D σ H1):vdd tA t u D σ H:=h
theorem ycj {t:TS} (M:St->Hp->Prop) (h1:t ⟨M,rt,bk,ct⟩ σ H) (h2:∀ σ' H',M σ' H'->nx σ' H'):vdv t ⟨nx,rt,bk,ct⟩ σ H:=⟨M,h1,h2⟩
theorem vcc {g:TG} (h:te σ H fun x H1=>g x σ H1 nx):yvz te g ⟨nx,rt,bk,ct⟩ σ H:=h
theorem yxf {sp:Sp} {dvs:List V} {E:XK} (h:tr σ H fun vs H1=>sp (vs++dvs) H1 Q E):vak sp dvs E tr σ H Q:=h
theorem yw5 (h:ta σ H fun x H1=>tr σ H1 fun xs H2=>QL (x :: xs) H2):yug ta tr σ H QL:=h
theorem vch (h:QL [] H):yrj σ H QL:=h
theorem veb {r:List V->Hp->VK->Prop} (h:tr σ H fun vs H1=>r vs H1 Q):tCB r tr σ H Q:=h
theorem vb4 (h:tr σ H fun xs H1=>xs.length <= sizeLine/\∀ p,H1 p=none->Q (.ref p) (upd H1 p (.tup xs))):vdt tr σ H Q:=h
theorem vbi (h:tr σ H fun xs H1=>xs.length <= sizeLine/\∀ p,H1 p=none->Q (.ref p) (upd H1 p (.lst xs))):vc4 tr σ H Q:=h
theorem yil {C:Addr} {m:Str} {sp:Sp} {dvs:List V} {E:XK} (h:ta σ H fun x H1=>∃ a dx fs,x=.ref a/\H1 a=some (.ins C dx fs)/\fs.lookup m=none/\tr σ H1 fun vs H2=>sp (x :: (vs++dvs)) H2 Q E):yhb C m sp dvs E ta tr σ H Q:=h
theorem vcn {f:Str} (h:ta σ H fun x H1=>∃ a C dx fs v,x=.ref a/\H1 a=some (.ins C dx fs)/\Cls K C/\yr K C f/\fs.lookup f=some v/\Q v H1):vcx K ta f σ H Q:=h
theorem yxc {f:Str} (h:tb σ H fun y H1=>ta σ H1 fun x H2=>∃ a C dx fs,x=.ref a/\H2 a=some (.ins C dx fs)/\Cls K C/\yr K C f/\fs.length < 1000/\vw nx σ (upd H2 a (.ins C dx (wo f y fs)))):vdn K ta tb f ⟨nx,rt,bk,ct⟩ σ H:=h
theorem vea {r:V->Option Int->Option Int->Hp->VK->Prop} {tl th:TO} (h:te σ H fun x H1=>tl σ H1 fun l H2=>th σ H2 fun u H3=>r x l u H3 Q):tSl r te tl th σ H Q:=h
theorem yow {QO:Option Int->Hp->Prop} (h:QO none H):yme σ H QO:=h
theorem yzk {QO:Option Int->Hp->Prop} (h:ta σ H fun x H1=>∃ i,x=.int i/\QO (some i) H1):vae ta σ H QO:=h
theorem vbq {P:Int->Prop} (h:P i):∃ k,V.int i=V.int k/\P k:=⟨i,rfl,h⟩
theorem ywg (h:A):V.non=V.non/\A:=⟨rfl,h⟩
theorem g0 {a0:Option V} {r:St} {N:St->Hp->Prop} (h:N (some v :: r) H):xk 0 v (a0 :: r) H N:=h
theorem g1 {a0 a1:Option V} {r:St} {N:St->Hp->Prop} (h:N (a0 :: some v :: r) H):xk 1 v (a0 :: a1 :: r) H N:=h
theorem g2 {a0 a1 a2:Option V} {r:St} {N:St->Hp->Prop} (h:N (a0 :: a1 :: some v :: r) H):xk 2 v (a0 :: a1 :: a2 :: r) H N:=h
theorem g3 {a0 a1 a2 a3:Option V} {r:St} {N:St->Hp->Prop} (h:N (a0 :: a1 :: a2 :: some v :: r) H):xk 3 v (a0 :: a1 :: a2 :: a3 :: r) H N:=h
theorem g4 {a0 a1 a2 a3 a4:Option V} {r:St} {N:St->Hp->Prop} (h:N (a0 :: a1 :: a2 :: a3 :: some v :: r) H):xk 4 v (a0 :: a1 :: a2 :: a3 :: a4 :: r) H N:=h
theorem g5 {a0 a1 a2 a3 a4 a5:Option V} {r:St} {N:St->Hp->Prop} (h:N (a0 :: a1 :: a2 :: a3 :: a4 :: some v :: r) H):xk 5 v (a0 :: a1 :: a2 :: a3 :: a4 :: a5 :: r) H N:=h
theorem g6 {a0 a1 a2 a3 a4 a5 a6:Option V} {r:St} {N:St->Hp->Prop} (h:N (a0 :: a1 :: a2 :: a3 :: a4 :: a5 :: some v :: r) H):xk 6 v (a0 :: a1 :: a2 :: a3 :: a4 :: a5 :: a6 :: r) H N:=h
theorem g7 {a0 a1 a2 a3 a4 a5 a6 a7:Option V} {r:St} {N:St->Hp->Prop} (h:N (a0 :: a1 :: a2 :: a3 :: a4 :: a5 :: a6 :: some v :: r) H):xk 7 v (a0 :: a1 :: a2 :: a3 :: a4 :: a5 :: a6 :: a7 :: r) H N:=h
theorem g8 {a0 a1 a2 a3 a4 a5 a6 a7 a8:Option V} {r:St} {N:St->Hp->Prop} (h:N (a0 :: a1 :: a2 :: a3 :: a4 :: a5 :: a6 :: a7 :: some v :: r) H):xk 8 v (a0 :: a1 :: a2 :: a3 :: a4 :: a5 :: a6 :: a7 :: a8 :: r) H N:=h
theorem g9 {a0 a1 a2 a3 a4 a5 a6 a7 a8 a9:Option V} {r:St} {N:St->Hp->Prop} (h:N (a0 :: a1 :: a2 :: a3 :: a4 :: a5 :: a6 :: a7 :: a8 :: some v :: r) H):xk 9 v (a0 :: a1 :: a2 :: a3 :: a4 :: a5 :: a6 :: a7 :: a8 :: a9 :: r) H N:=h
theorem g10 {a0 a1 a2 a3 a4 a5 a6 a7 a8 a9 a10:Option V} {r:St} {N:St->Hp->Prop} (h:N (a0 :: a1 :: a2 :: a3 :: a4 :: a5 :: a6 :: a7 :: a8 :: a9 :: some v :: r) H):xk 10 v (a0 :: a1 :: a2 :: a3 :: a4 :: a5 :: a6 :: a7 :: a8 :: a9 :: a10 :: r) H N:=h
theorem g11 {a0 a1 a2 a3 a4 a5 a6 a7 a8 a9 a10 a11:Option V} {r:St} {N:St->Hp->Prop} (h:N (a0 :: a1 :: a2 :: a3 :: a4 :: a5 :: a6 :: a7 :: a8 :: a9 :: a10 :: some v :: r) H):xk 11 v (a0 :: a1 :: a2 :: a3 :: a4 :: a5 :: a6 :: a7 :: a8 :: a9 :: a10 :: a11 :: r) H N:=h
theorem ymy {n:Nat} {tg:TGs} {a:Addr} {xs:List V} {N:St->Hp->Prop} (hq:SqT K H a xs) (hl:xs.length=n) (h:tg xs σ H N):yv5 K n tg (.ref a) σ H N:=⟨a,xs,rfl,hq,hl,h⟩
theorem ysq {tg:TG} {us:TGs} {r:List V} {N:St->Hp->Prop} (h:tg v σ H fun σ' H'=>us r σ' H' N):ju tg us (v :: r) σ H N:=⟨v,r,rfl,h⟩
theorem yw4 {N:St->Hp->Prop} (h:N σ H):ypc [] σ H N:=⟨rfl,h⟩
theorem zn {p:Prop} [Decidable p] (h1:p->A) (h2:¬ p->B):if decide p=true then A else B:=by
 by_cases h:p
 ·rw [if_pos (decide_eq_true h)]; exact h1 h
 ·rw [if_neg (by simp [h])]; exact h2 h
theorem yd7 {p:Prop} [Decidable p] (hp:p) (h:A):if decide p=true then A else B:=by rw [if_pos (decide_eq_true hp)]; exact h
theorem yck {p:Prop} [Decidable p] (hp:¬ p) (h:B):if decide p=true then A else B:=by rw [if_neg (by simp [hp])]; exact h
theorem yt2 {p:Prop} [Decidable p] (hp:p) (h:B):if (!decide p)=true then A else B:=by rw [if_neg (by simp [hp])]; exact h
theorem yu9 {p:Prop} [Decidable p] (hp:¬ p) (h:A):if (!decide p)=true then A else B:=by rw [if_pos (by simp [hp])]; exact h
theorem vdu {p:Prop} [Decidable p] (h1:p->B) (h2:¬ p->A):if (!decide p)=true then A else B:=by
 by_cases h:p
 ·exact yt2 h (h1 h)
 ·exact yu9 h (h2 h)
theorem vb6 (h:B):if (!true)=true then A else B:=ynl h
theorem vbv (h:A):if (!false)=true then A else B:=ypd h
theorem vb9 {α:Type} {z:α} [Decidable (z=z)] (h:A):if decide (z=z)=true then A else B:=yd7 rfl h
theorem zk {f:Str} {r:List (Str × V)}:List.lookup f ((f,v) :: r)=some v:=by simp [List.lookup]
theorem yx {f g:Str} {r:List (Str × V)} {o:Option V} (h:¬ f=g) (e:List.lookup f r=o):List.lookup f ((g,v) :: r)=o:=by
 have h':(f == g)=false:=by simp [h]
 simp [List.lookup,h',e]
theorem xu {f:Str}:List.lookup f ([]:List (Str × V))=none:=rfl
theorem ja {f:Str} {r:List (Str × V)}:wo f v ((f,x) :: r)=(f,v) :: r:=by simp [wo]
theorem we {f g:Str} {r r':List (Str × V)} (h:¬ g=f) (e:wo f v r=r'):wo f v ((g,x) :: r)=(g,x) :: r':=by simp [wo,h,e]
theorem xo {f:Str}:wo f v []=[(f,v)]:=rfl
theorem uq {a c:Addr} {o o':HO} (hn:H a=none) (h:H c=some o):upd H a o' c=some o:=by rw [yp (ye h hn)]; exact h
theorem yq {a c:Addr} {o o':HO} (hn:c≠a) (h:H c=some o):upd H a o' c=some o:=by rw [yp hn]; exact h
theorem vh {a:Addr} {o:HO} (hn:H a=none):vi H (upd H a o):=fun _ _ h=>uq hn h
theorem vi.tup {H H':Hp} {a:Addr} {xs:List V} (e:vi H H') (h:SqT K H a xs):SqT K H' a xs:=by
 rcases h with (h | ⟨o,h⟩) | h
 ·exact .inl (.inl (e _ _ h))
 ·exact .inl (.inr ⟨o,e _ _ h⟩)
 ·exact .inr h
theorem yfl {tb:TS} {W:Nat->St->Hp->Prop} {m:Nat} (h:tb ⟨fun σ' H'=>∃ m',m' < m/\W m' σ' H',rt,nx,fun σ' H'=>∃ m',m' < m/\W m' σ' H'⟩ σ H) :
  ∃ N:St->Hp->Prop,(∀ σ' H',N σ' H'->∃ m',m' < m/\W m' σ' H')/\tb ⟨N,rt,nx,N⟩ σ H:=⟨_,fun _ _ q=>q,h⟩
theorem yxg {C:Addr} {sp:Sp} {dvs:List V} {E:XK} (h:tr σ H fun vs H1=>∀ x dx,H1 x=none->H1 dx=none->dx≠x->sp (.ref x :: (vs++dvs)) (upd (upd H1 dx (.own x)) x (.ins C dx [])) (fun v H2=>v=.non/\Q (.ref x) H2) E):yt1 C sp dvs E tr σ H Q:=h
theorem vd2 {T:String} {r:V->List V->Hp->VK->Prop} (h:ta σ H fun x H1=>tyV K T x H1/\tr σ H1 fun xs H2=>r x xs H2 Q):tBM K T r ta tr σ H Q:=h
theorem vbl {T:String} {r:V->List V->Hp->VK->Prop} (h:ta σ H fun x H1=>tyV K T x H1/\r x [] H1 Q):vdi K T r ta σ H Q:=h
theorem yfo {p:Addr} {xs:List V} (h:H p=some (.lst xs)) (k:A):tyV K "list" (.ref p) H/\A:=⟨.inl ⟨rfl,_,SqL.of h⟩,k⟩
theorem jo {l:Addr} {xs:List V} (h:H l=some (.lst xs)) (hz:xs.length < sizeLine) (k:Q .non (upd H l (.lst (xs++[y])))):ylw (.ref l) [y] H Q:=⟨l,xs,y,rfl,rfl,h,hz,k⟩
theorem yln {l:Addr} {xs:List V} (h:H l=some (.lst xs)) (k:Q .non (upd H l (.lst xs.reverse))):yhx (.ref l) [] H Q:=⟨l,xs,rfl,rfl,h,k⟩
theorem yap {p:Addr} {ys:List V} {P:List V->Prop} (h:SqL K H p ys) (k:P ys):∃ p' ys',[V.ref p]=[V.ref p']/\(SqL K H p' ys'\/SqT K H p' ys')/\P ys':=⟨p,ys,rfl,.inl h,k⟩
theorem yqe {p:Addr} {ys:List V} {P:List V->Prop} (h:SqT K H p ys) (k:P ys):∃ p' ys',[V.ref p]=[V.ref p']/\(SqL K H p' ys'\/SqT K H p' ys')/\P ys':=⟨p,ys,rfl,.inr h,k⟩
theorem ynq {p:Addr} {ys:List V} {P:List V->Prop} (h:SqL K H p ys) (k:P ys):∃ p' ys',[V.ref p]=[V.ref p']/\(SqL K H p' ys'\/SqT K H p' ys')/\P ys':=⟨p,ys,rfl,.inl h,k⟩
theorem j6 {p:Addr} {xs:List V} (h:SqL K H p xs) (e:atI xs i=some v) (k:Q v H):va4 K (.ref p) (.int i) H Q:=⟨p,xs,i,v,rfl,rfl,h,e,k⟩
theorem yj1 {p:Addr} {xs:List V} (h:SqT K H p xs) (e:atI xs i=some v) (k:Q v H):vdm K (.ref p) (.int i) H Q:=⟨p,xs,i,v,rfl,rfl,h,e,k⟩
theorem yua {p:Addr} {xs:List V} {lo hi:Option Int} (h:SqL K H p xs) (k:∀ q,H q=none->Q (.ref q) (upd H q (.lst (yhg xs lo hi)))):vdp K (.ref p) lo hi H Q:=⟨p,xs,rfl,h,k⟩
theorem yh1 {xs:List V} (n:Nat):yhg xs none (some (n:Int))=xs.take n:=by
 unfold yhg
 rw [HT.sIx_none,HT.sIx_nat,List.drop_zero,Nat.sub_zero]
 rcases Nat.le_total n xs.length with h | h
 ·rw [Nat.min_eq_left h]
 ·rw [Nat.min_eq_right h,List.take_of_length_le (Nat.le_refl _),List.take_of_length_le h]
theorem vcl {wi:TI} {g:TG} {tb:TS} (h:wi σ H fun J H1=>∃ W:Nat->Nat->St->Hp->Prop,(∃ m,W 0 m σ H1)/\∀ i m σ H,W i m σ H ->
  (J.stop i H/\D.nx σ H)\/(J.go i H/\∃ N:St->Hp->Prop,(∀ σ' H',N σ' H'->∃ m',m' < m/\W (i+1) m' σ' H')/\∀ x H',J.yld i H x H'->g x σ H' fun σ2 H2=>tb { D with nx:=N,ct:=N,bk:=D.nx } σ2 H2)):vde wi g tb D σ H:=h
theorem yr0 {R:It->Hp->Prop} (h:ta σ H fun x H1=>∃ a,x=.ref a/\(∃ xs,SqL K H1 a xs)/\R (Itl K a) H1):va2 K ta σ H R:=h
theorem ywv {R:It->Hp->Prop} (h:ta σ H fun x H1=>∃ a,x=.ref a/\(∃ xs,SqT K H1 a xs)/\R (Itt K a) H1):vdf K ta σ H R:=h
theorem yr7 {R:It->Hp->Prop} (h:tr σ H fun vs H1=>∃ j:Int,vs=[.int j]/\-(2 ^ 62) <= j/\j < 2 ^ 62/\R (Itr 0 j.toNat) H1):vac tr σ H R:=h
theorem ya0 {n m:String} {k:Bool} {P:Bool->Prop} (ty:xw K H x (.type n)) (e:W.kitOne K (.type n) (.type m)=some k) (h:P k) :
  ∃ x' cv t c k',[x,V.ty m]=[x',cv]/\xl cv c/\(∀ u,xl cv u->u=c)/\xw K H x' t/\W.kitOne K t c=some k'/\P k':=⟨x,.ty m,.type n,.type m,k,rfl,rfl,fun _ r=>r,ty,e,h⟩
theorem yx1 {k:Int} (hc:vc5 i j) (e:i ^ j.toNat=k) (h:Q (.int k) H):vah k (.int i) (.int j) H Q:=⟨i,j,rfl,rfl,hc,e,h⟩
theorem ysf (h:nx σ H):vw nx σ H:=h
end
def yp0:V->Bool
 | .int _=>true
 | .bl _=>true
 | _=>false
def yl5:V->Bool
 | .bl _=>true
 | _=>false
def yao:V->Bool
 | .int _=>true
 | _=>false
theorem yhr (K:W.Frag) (n:String):W.kitOne K (.type n) (.type n)=some true:=by
 unfold W.kitOne
 rw [if_pos (by simp)]
theorem ysn {K:W.Frag} {H:Hp} {x:V} {n:String} (ty:xw K H x (.type n)):W.kitOne K (.type n) (.type "int")=some (yp0 x):=by
 cases ty <;> rfl
theorem ynp {K:W.Frag} {H:Hp} {x:V} {n:String} (ty:xw K H x (.type n)):W.kitOne K (.type n) (.type "bool")=some (yl5 x):=by
 cases ty <;> rfl
end L2
namespace SpanMath
def Ch (c:Int):Prop:=32768 <= c/\c <= 16744448
def ren (l w s:Int):Int × Int × Int :=
 if w < 4294967296 then (if w * 256 < 4294967296 then (l * 65536,w * 65536,s+2) else (l * 256,w * 256,s+1)) else (l,w,s)
def cut (w c:Int):Int:=w * c / 16777216
def nar (x:Int × Int × Int) (c b:Int):Int × Int × Int :=
 if b=1 then ren x.1 (cut x.2.1 c) x.2.2 else ren (x.1+cut x.2.1 c) (x.2.1 - cut x.2.1 c) x.2.2
def s0:Int × Int × Int:=(0,1099511627776,5)
theorem yn6 {l w s:Int} (h:w < 4294967296) (h2:8388608 <= w):ren (l * 256) (w * 256) (s+1)=ren l w s:=by
 unfold ren
 rw [if_pos h]
 by_cases h3:w * 256 < 4294967296
 ·rw [if_pos h3,if_pos h3,if_neg (by omega)]
  refine Prod.ext ?_ (Prod.ext ?_ ?_)
  ·show l * 256 * 256=l * 65536; omega
  ·show w * 256 * 256=w * 65536; omega
  ·show s+1+1=s+2; omega
 ·rw [if_neg h3,if_neg h3]
theorem ytn {l w s:Int} (h:¬ w < 4294967296):ren l w s=(l,w,s):=by
 unfold ren; rw [if_neg h]
theorem yig {w c:Int} (hw:4294967296 <= w) (hw2:w <= 1099511627776) (hc:Ch c):8388608 <= cut w c/\8388608 <= w - cut w c/\cut w c < 1099511627776:=by
 obtain ⟨h1,h2⟩:=hc
 have a1:w * 32768 <= w * c:=Int.mul_le_mul_of_nonneg_left h1 (by omega)
 have a2:w * c <= w * 16744448:=Int.mul_le_mul_of_nonneg_left h2 (by omega)
 unfold cut
 generalize w * c=p at a1 a2 ⊢
 omega
structure Ok (x:Int × Int × Int):Prop where
 l0:0 <= x.1
 w0:4294967296 <= x.2.1
 w1:x.2.1 <= 1099511627776
 z:5 <= x.2.2
theorem ok0:Ok s0:=⟨by decide,by decide,by decide,by decide⟩
theorem yp9 {l w s:Int} (h0:0 <= l) (h1:8388608 <= w) (h2:w <= 1099511627776) (h3:5 <= s):Ok (ren l w s):=by
 unfold ren
 split
 ·split
  ·exact ⟨by show 0 <= l * 65536; omega,by show _ <= w * 65536; omega,by show w * 65536 <= _; omega,by show 5 <= s+2; omega⟩
  ·exact ⟨by show 0 <= l * 256; omega,by show _ <= w * 256; omega,by show w * 256 <= _; omega,by show 5 <= s+1; omega⟩
 ·exact ⟨h0,by show _ <= w; omega,h2,h3⟩
theorem yyk {x:Int × Int × Int} {c b:Int} (h:Ok x) (hc:Ch c):Ok (nar x c b):=by
 obtain ⟨a1,a2,a3⟩:=yig h.w0 h.w1 hc
 have:=h.l0; have:=h.w0; have:=h.w1; have:=h.z
 unfold nar
 split
 ·exact yp9 (by omega) (by omega) (by omega) (by omega)
 ·exact yp9 (by omega) (by omega) (by omega) (by omega)
end SpanMath
namespace SpanMath
def pw:Nat->Int
 | 0=>1
 | k+1=>pw k * 256
theorem uy:∀ k,0 < pw k
 | 0=>by decide
 | k+1=>by have:=uy k; show 0 < pw k * 256; omega
theorem yir (a:Nat):∀ b,pw (a+b)=pw a * pw b
 | 0=>by simp [pw]
 | b+1=>by
  show pw (a+b) * 256=pw a * (pw b * 256)
  rw [yir a b,Int.mul_assoc]
theorem yl3 {a b:Nat} (h:a <= b):pw a <= pw b:=by
 obtain ⟨c,rfl⟩:=Nat.exists_eq_add_of_le h
 rw [yir]
 have h1:=uy a
 have h2:=uy c
 calc pw a=pw a * 1:=by omega
  _ <= pw a * pw c:=Int.mul_le_mul_of_nonneg_left (by omega) (by omega)
theorem vbp {a b:Nat} (h:pw a < pw b):a < b:=by
 apply Nat.lt_of_not_le
 intro q
 have:=yl3 q
 omega
def lo:Nat->Int->List Int
 | 0,_=>[]
 | k+1,n=>n % 256 :: lo k (n / 256)
def wr (k:Nat) (n:Int):List Int:=(lo k n).reverse
theorem yqu:∀ k n,(lo k n).length=k
 | 0,_=>rfl
 | k+1,n=>by simp [lo,yqu k]
theorem yy3 (k:Nat) (n:Int):(wr k n).length=k:=by simp [wr,yqu]
theorem yl2:∀ k n,∀ x∈lo k n,0 <= x/\x <= 255
 | 0,_,x,h=>by simp [lo] at h
 | k+1,n,x,h=>by
  simp only [lo,List.mem_cons] at h
  rcases h with rfl | h
  ·omega
  ·exact yl2 k _ x h
theorem ytc (k:Nat) (n:Int):∀ x∈wr k n,0 <= x/\x <= 255:=fun x h=>yl2 k n x (by simpa [wr] using h)
theorem yti (k:Nat) (n:Int):wr (k+1) n=wr k (n / 256)++[n % 256]:=by simp [wr,lo]
def val (xs:List Int):Int:=xs.foldl (fun a b=>a * 256+b) 0
theorem yhp (xs:List Int) (b:Int):val (xs++[b])=val xs * 256+b:=by simp [val,List.foldl_append]
theorem yqn:∀ (k:Nat) (n:Int),0 <= n->n < pw k->val (wr k n)=n
 | 0,n,h0,h1=>by
  have:n < 1:=h1
  have:n=0:=by omega
  subst this; rfl
 | k+1,n,h0,h1=>by
  have h2:n < pw k * 256:=h1
  rw [yti,yhp,yqn k (n / 256) (by omega) (by omega)]
  omega
def vd0:Nat->Int->Int->Nat
 | 0,_,_=>0
 | n+1,a,b=>if a=b then 0 else vd0 n (a / 256) (b / 256)+1
end SpanMath
namespace SpanMath
abbrev Sn:=Int × Int × Int
def sz (x:Sn):Nat:=x.2.2.toNat
structure OkS (x:Sn):Prop where
 ok:Ok x
 top:x.1+x.2.1 <= pw (sz x)
theorem OkS.sz {x:Sn} (h:OkS x):((sz x:Nat):Int)=x.2.2:=by
 have:=h.ok.z
 unfold SpanMath.sz
 omega
theorem OkS.sz5 {x:Sn} (h:OkS x):5 <= SpanMath.sz x:=by
 have:=h.ok.z
 unfold SpanMath.sz
 omega
theorem vct:OkS s0:=⟨ok0,by decide⟩
structure Sub (x y:Sn) (r:Nat):Prop where
 z:sz y=sz x+r
 l:x.1 * pw r <= y.1
 h:y.1+y.2.1 <= (x.1+x.2.1) * pw r
theorem yl7 {l w s:Int} (hs:0 <= s):∃ r,Sub (l,w,s) (ren l w s) r/\(ren l w s).2.1=w * pw r/\(ren l w s).1=l * pw r:=by
 unfold ren
 split
 ·split
  ·refine ⟨2,⟨?_,?_,?_⟩,?_,?_⟩
   ·show (s+2).toNat=s.toNat+2; omega
   ·show l * (1 * 256 * 256) <= l * 65536; omega
   ·show l * 65536+w * 65536 <= (l+w) * (1 * 256 * 256); omega
   ·show w * 65536=w * (1 * 256 * 256); omega
   ·show l * 65536=l * (1 * 256 * 256); omega
  ·refine ⟨1,⟨?_,?_,?_⟩,?_,?_⟩
   ·show (s+1).toNat=s.toNat+1; omega
   ·show l * (1 * 256) <= l * 256; omega
   ·show l * 256+w * 256 <= (l+w) * (1 * 256); omega
   ·show w * 256=w * (1 * 256); omega
   ·show l * 256=l * (1 * 256); omega
 ·refine ⟨0,⟨?_,?_,?_⟩,?_,?_⟩
  ·rfl
  ·show l * 1 <= l; omega
  ·show l+w <= (l+w) * 1; omega
  ·show w=w * 1; omega
  ·show l=l * 1; omega
theorem yrs {x:Sn} {c b:Int} (h:Ok x) (hc:Ch c):∃ r,Sub x (nar x c b) r:=by
 obtain ⟨a1,a2,a3⟩:=yig h.w0 h.w1 hc
 have h0:=h.l0; have hz:=h.z
 unfold nar
 split
 ·obtain ⟨r,⟨q1,q2,q3⟩,_⟩:=yl7 (l:=x.1) (w:=cut x.2.1 c) (s:=x.2.2) (by omega)
  refine ⟨r,q1,q2,Int.le_trans q3 (Int.mul_le_mul_of_nonneg_right ?_ (Int.le_of_lt (uy r)))⟩
  show x.1+cut x.2.1 c <= x.1+x.2.1
  omega
 ·obtain ⟨r,⟨q1,q2,q3⟩,_⟩:=yl7 (l:=x.1+cut x.2.1 c) (w:=x.2.1 - cut x.2.1 c) (s:=x.2.2) (by omega)
  refine ⟨r,q1,Int.le_trans (Int.mul_le_mul_of_nonneg_right ?_ (Int.le_of_lt (uy r))) q2,Int.le_trans q3 (Int.mul_le_mul_of_nonneg_right ?_ (Int.le_of_lt (uy r)))⟩
  ·show x.1 <= x.1+cut x.2.1 c; omega
  ·show x.1+cut x.2.1 c+(x.2.1 - cut x.2.1 c) <= x.1+x.2.1; omega
theorem ygx {x:Sn} {c b:Int} (h:OkS x) (hc:Ch c):OkS (nar x c b):=by
 refine ⟨yyk h.ok hc,?_⟩
 obtain ⟨r,q⟩:=yrs (b:=b) h.ok hc
 rw [q.z,yir]
 exact Int.le_trans q.h (Int.mul_le_mul_of_nonneg_right h.top (Int.le_of_lt (uy r)))
def blk (l e:Int):Int:=(l+e - 1) / e
def yj4 (l w:Int) (k:Nat):Prop:=(blk l (pw k)+1) * pw k <= l+w
instance (l w:Int) (k:Nat):Decidable (yj4 l w k):=inferInstanceAs (Decidable ((blk l (pw k)+1) * pw k <= l+w))
theorem yp4 (l:Int) {e:Int} (h:0 < e):l <= blk l e * e/\blk l e * e < l+e:=by
 unfold blk
 have h1:=Int.emod_add_mul_ediv (l+e - 1) e
 have h2:=Int.emod_nonneg (l+e - 1) (show e≠0 by omega)
 have h3:=Int.emod_lt_of_pos (l+e - 1) h
 rw [Int.mul_comm] at h1
 generalize (l+e - 1) / e * e=q at h1 ⊢
 omega
theorem yrn {l w:Int} {k:Nat} (h:yj4 l w k):pw k <= w:=by
 have h1:=yp4 l (uy k)
 unfold yj4 at h
 rw [Int.add_mul] at h
 omega
def tel (l w:Int):Nat->Nat->Nat
 | 0,k=>k
 | f+1,k=>if yj4 l w (k+1) then tel l w f (k+1) else k
theorem yoe {l w:Int} {f k:Nat} (h:yj4 l w (k+1)):tel l w f (k+1)=tel l w (f+1) k:=by
 rw [tel,if_pos h]
theorem ysv {l w:Int} {f k:Nat} (h:¬ yj4 l w (k+1)):tel l w f k=k:=by
 cases f with
 | zero=>rfl
 | succ f=>rw [tel,if_neg h]
theorem yh8 {l w:Int}:∀ {f k:Nat},yj4 l w k->yj4 l w (tel l w f k)
 | 0,_,h=>h
 | f+1,k,h=>by
  unfold tel
  split
  ·rename_i q; exact yh8 q
  ·exact h
theorem pw5:pw 5=1099511627776:=by decide
theorem yqs {l w:Int} {k:Nat} (hw:w <= 1099511627776) (h:yj4 l w k):k <= 5:=by
 have h1:=yrn h
 rw [<- pw5] at hw
 have h2:pw k < pw 6:=Int.lt_of_le_of_lt (Int.le_trans h1 hw) (by decide)
 have:=vbp h2
 omega
def tK (x:Sn):Nat:=tel x.1 x.2.1 5 0
def tCn (x:Sn):Int:=blk x.1 (pw (tK x))
def tL (x:Sn):List Int:=wr (sz x - tK x) (tCn x)
theorem vby {x:Sn} (h:Ok x):yj4 x.1 x.2.1 0:=by
 have:=h.w0
 show ((x.1+1 - 1) / 1+1) * 1 <= x.1+x.2.1
 omega
theorem ygw {x:Sn} (h:Ok x):yj4 x.1 x.2.1 (tK x):=yh8 (vby h)
theorem yvn {x:Sn} (h:OkS x):tK x <= 5/\tK x <= sz x:=by
 have h1:=yqs h.ok.w1 (ygw h.ok)
 have h2:=h.sz5
 omega
theorem yrh (x:Sn):(tL x).length=sz x - tK x:=yy3 _ _
theorem yw7 {x:Sn} (h:Ok x):0 <= tCn x:=by
 have:=h.l0
 have:=uy (tK x)
 exact Int.ediv_nonneg (by omega) (by omega)
theorem yyj {x:Sn} (h:OkS x):tCn x < pw (sz x - tK x):=by
 have h1:(tCn x+1) * pw (tK x) <= x.1+x.2.1:=ygw h.ok
 have h2:=h.top
 have e:sz x - tK x+tK x=sz x:=Nat.sub_add_cancel (yvn h).2
 rw [<- e,yir] at h2
 have h3:=Int.le_of_mul_le_mul_right (Int.le_trans h1 h2) (uy (tK x))
 omega
theorem ywn {x:Sn} (h:OkS x):val (tL x)=tCn x:=yqn _ _ (yw7 h.ok) (yyj h)
end SpanMath
namespace L2
open PySem PySem.Spec PyProof.Rows
abbrev Cx.comp (X:Cx) (scope:Scope) (C:Addr) (x:Str) (s2:Shared) (H2:Hp) (fp:List Addr):Cx :=
 { X with N:=[x],s₀:=s2,H₀:=H2,env:=compEnv scope C X.env,outer:=X.stack,ex:=fp,fn:=fun _=>true,pn:=[],xe:=fun _ _=>False }
def yan (J:It) (te:TE) (D:Addr) (R:Hp->Prop) (H1:Hp):Prop:=∃ W:Nat->Nat->Hp->Prop,(∃ m,W 0 m (upd H1 D (.lst []))) /\
 ∀ i m H2,W i m H2->(J.stop i H2/\R H2)\/(J.go i H2/\∀ x H3,J.yld i H2 x H3->te [some x] H3 fun y H4=>∃ ys,H4 D=some (.lst ys)/\ys.length < sizeLine/\∃ m',m' < m/\W (i+1) m' (upd H4 D (.lst (ys++[y]))))
def vam (wi:TI) (te:TE):TE:=fun σ H Q=>wi σ H fun J H1=>∀ D,H1 D=none->yan J te D (fun H2=>Q (.ref D) H2) H1
section
variable {X:Cx} {iter elt:Expr} {x:Str} {px pos:Pos} {scope:Scope} {te:TE} {wi:TI} {pins:List (Addr × Obj)} {σ:St}
theorem ynj {α:Type} {t:Sem α} {Q Q':α->Shared->Prop} {M:Model} {A:Around} {E:Value->Shared->Prop} {s:Shared} (h:wpAny M A t Q (fun _ _=>False) s) (hQ:∀ a s,Q a s->Q' a s):wpAny M A t Q' E s:=wpAny_mono h hQ fun _ _ z=>z.elim
theorem yk4 {s2:Shared} {H2:Hp} {it:Addr} {fp:List Addr} {tn:Nat->Heap->Prop} {J:It} (hc:X.calm=true)
  (he:∀ (C:Addr) (s2:Shared) (H2:Hp) (fp:List Addr),PE (X.comp scope C x s2 H2 fp) elt te)
  (hfree:∀ y∈scope.names,y.2≠.free) (hcell:∀ y∈scope.names,y.2≠.cell) (hkind:scope.kind=.function) (hx:scope.names.lookup x=some .local)
  (I2:Inv X pins σ H2 s2) (T:ynh X.prog X.w X.K (.Name x px) J fp it tn) (st2:tn 0 s2.heap) (f2:∀ b∈fp,ycg X pins H2 b)
  {R:Addr->Hp->Prop} (h:∀ D,H2 D=none->yan J te D (R D) H2) {RR:Value->Env->Result->Shared->Prop} {E:Value->Shared->Prop}
  (hR:∀ (D C:Addr) (H':Hp) (s':Shared) (m:Str->Option Value),ycg X pins H' C->s'.heap.Ns C m->Inv X pins σ H' s'->R D H'->RR (.ref D) (compEnv scope C X.env) (.ok .next) s') :
  wpAny (model X.prog X.w) X.A (newList []) (fun acc s₃=>wpAny (model X.prog X.w) X.A (newFunctionEnv scope X.env.globals [] [] X.env.qual none .none (some X.env)) (fun cenv s₄ =>
   codeAny (model X.prog X.w) X.A (.compStart (.ListComp elt [⟨.Name x px,iter,[],0⟩] scope pos) 0 (.ref it) acc { cenv with scope:=scope }) (RR acc { cenv with scope:=scope }) s₄) E s₃) E s2:=by
 refine wpAny_newObj_type (wpAny_newFunctionEnv hcell (by intro y hy; simp at hy) (fun h₁ hns₁ hsb₁=>?_) hkind)
 dsimp only at hns₁ hsb₁ ⊢
 generalize hH2:s2.heap.push { cls:=.type "list",dict:=none,data:=.seq ([]:List Value).toArray }=G at hns₁ hsb₁ ⊢
 have hC:G.objs.size=s2.heap.objs.size+1:=by rw [<- hH2,Heap.size_push]
 have hDC:s2.heap.objs.size≠G.objs.size:=by rw [hC]; exact Nat.ne_of_lt (Nat.lt_succ_self _)
 have hCle:s2.heap.objs.size <= G.objs.size:=by rw [hC]; exact Nat.le_succ _
 have below:∀ b,b < s2.heap.objs.size->b≠G.objs.size/\b≠s2.heap.objs.size:=fun b hb=>⟨by rw [hC]; exact Nat.ne_of_lt (Nat.lt_succ_of_lt hb),Nat.ne_of_lt hb⟩
 have old:∀ b o,s2.heap.get? b=some o->h₁.get? b=some o:=fun b o e=>hsb₁.extBut b o (below b (Heap.lt_size e)).1 (Heap.get?_push_of_some _ (hH2 ▸ Heap.get?_push_of_some _ e))
 have hacc:h₁.get? s2.heap.objs.size=some { cls:=.type "list",data:=.seq ([]:List Value).toArray }:=hsb₁.extBut _ _ hDC (Heap.get?_push_of_some _ (hH2 ▸ Heap.get?_push_size _ rfl))
 have fpl:∀ b∈fp,b < s2.heap.objs.size:=fun b hb=>let ⟨_,e,_⟩:=T.obj 0 _ st2 b hb; Heap.lt_size e
 have fpS:∀ b∈fp,b∉frs X.stack:=fun b hb z=>(List.mem_cons.mp (I2.stkSub b z)).elim (f2 b hb).2.1 (f2 b hb).2.2.1
 have nC:H2 G.objs.size=none:=I2.hok.fresh hCle
 have nD:H2 s2.heap.objs.size=none:=I2.hok.fresh (Nat.le_refl _)
 have okC:(X.comp scope G.objs.size x s2 H2 fp).Ok:=by
  refine ⟨I2.ok.mod,hkind,I2.ok.glob,I2.ok.blt,hCle,fun y z c e=>(by cases e),fun y e=>?_,fun y c _ e=>(by cases e),I2.ok.hd,I2.ok.frames,.inl rfl,fun b hb=>⟨(below b (fpl b hb)).1,fun y c e=>(by cases e)⟩,I2.bs,?_,fun b o e hb=>?_,fun b hb=>fpS b hb,I2.stack,I2.stkFree⟩
  ·exfalso
   have e':scope.names.lookup y=some .cell\/scope.names.lookup y=some .free:=e
   rcases e' with e' | e'
   ·exact hcell _ (PySem.mem_of_lookup e') rfl
   ·exact hfree _ (PySem.mem_of_lookup e') rfl
  ·exact Nat.le_trans I2.ok.bsz I2.sz
  ·rcases (f2 b hb).2.2.2.1 with z | z
   ·exact I2.ok.noex b o e z
   ·exact absurd (Nat.lt_of_lt_of_le (Heap.lt_size (I2.ok.bs b o e).1) z) (Nat.lt_irrefl _)
 have I3:∀ tk,Inv (X.comp scope G.objs.size x s2 H2 fp) [] [none] (upd H2 s2.heap.objs.size (.lst [])) { s2 with heap:=h₁,toks:=tk }:=fun tk =>
  ⟨okC,rfl,I2.bare,Un.laid old (Nat.le_refl _) nD,⟨_,hns₁,fun i y v _ e _=>by
    cases i with
    | zero=>cases e
    | succ i=>simp at e⟩,fun y c e=>(by cases e),(by show upd H2 s2.heap.objs.size _ G.objs.size=none; rw [yp hDC.symm]; exact nC),fun y c e=>(by cases e),fun p hp=>(by simp at hp),
   I2.hok.laid old (Nat.le_refl _) ⟨Nat.zero_le _,[],_,.nil,hacc⟩,rfl⟩
 have stat:∀ {H':Hp},(∀ b∈fp,H' b=none)->∀ b∈fp,ycg (X.comp scope G.objs.size x s2 H2 fp) [] H' b:=fun hn b hb=>⟨hn b hb,(below b (fpl b hb)).1,fpS b hb,.inl hb,fun y c e=>(by cases e),fun p hp=>(by simp at hp)⟩
 have loop:∀ tk,codeAny (model X.prog X.w) X.A (.compLoop (.ListComp elt [⟨.Name x px,iter,[],0⟩] scope pos) 0 (.ref it) (.ref s2.heap.objs.size) (compEnv scope G.objs.size X.env)) (RR (.ref s2.heap.objs.size) (compEnv scope G.objs.size X.env)) { s2 with heap:=h₁,toks:=tk }:=by
  intro tk
  obtain ⟨W,⟨m0,w0⟩,turn⟩:=h s2.heap.objs.size nD
  refine codeAny_loop rfl (fun n s'=>∃ i v H',Inv (X.comp scope G.objs.size x s2 H2 fp) [] [v] H' s'/\tn i s'.heap/\(∀ b∈fp,H' b=none)/\W i n H') (fun n s' hI=>?_) m0
   ⟨0,none,_,I3 tk,T.keep 0 _ _ st2 (fun b hb o e=>old b o e),fun b hb=>(by rw [yp (below b (fpl b hb)).2]; exact (f2 b hb).1),w0⟩
  obtain ⟨i,v,H',I,st,fr,w⟩:=hI
  show wpAny _ _ ((compTurn (.ListComp elt [⟨.Name x px,iter,[],0⟩] scope pos) 0 (.ref it) (.ref s2.heap.objs.size) (compEnv scope G.objs.size X.env)).onRaise (fun x=>do noteFrame x (compEnv scope G.objs.size X.env); theTreesLotGoes x)) _ _ s'
  refine wpAny_noted ?_
  rw [compTurn_list1]
  refine wpAny_bind (wpAny_standAt (wpAny_bind ?_))
  rcases turn i n H' w with ⟨stop,q⟩ | ⟨go,step⟩
  ·refine thn (T.done (X.comp scope G.objs.size x s2 H2 fp) rfl rfl rfl hc i [] s' [v] H' _ I (stat fr) st stop) fun r s4 ⟨hr,I4⟩=>?_
   subst hr
   refine wpAny_pure ?_
   obtain ⟨m,hn,_⟩:=I4.loc
   exact hR _ _ H' s4 m (I2.fpOk hCle I4.free) hn (I2.call' (ch:=fp) I4.os I4.base I4.hok I4.bare fun b hb=>⟨(f2 b hb).2.2.2.1,(f2 b hb).2.1,(f2 b hb).2.2.2.2.1,(f2 b hb).2.2.2.2.2⟩) q
  ·refine thn (T.item (X.comp scope G.objs.size x s2 H2 fp) rfl rfl rfl hc i [] s' [v] H' _ I (stat fr) st go) fun r s4 ⟨u,hr,h4⟩=>?_
   subst hr
   refine wpAny_bind (thn h4 fun _ s5 ⟨y,H5,I5,r5,y5,st5,fr5⟩=>wpAny_bind ?_)
   have I5':=I5.pinned (stat fr5) (T.obj _ _ st5)
   refine wpAny_assign_Name (uw (i:=0) I5' (by simp) rfl (Or.inl hx) r5 (fun s6 I6=>?_) (Or.inl rfl))
   refine wpAny_bind (wpAny_bind (ynj (he _ _ _ _ _ s6 [some y] H5 _ I6 (step y H5 y5)) fun u2 s7 ⟨y2,H7,I7,r7,ys,hD,hl,m',hm,w'⟩=>wpAny_bind ?_))
   refine ynj (xh _ s7 [some y] H7 (.ref s2.heap.objs.size) [y2] (.ref s2.heap.objs.size) [u2] (fun _ H8=>H8=upd H7 s2.heap.objs.size (.lst (ys++[y2]))) I7 rfl (.cons r7 .nil) ⟨_,ys,y2,rfl,rfl,hD,hl,rfl⟩) fun _ s8 ⟨_,H8,I8,_,e8⟩=>?_
   subst e8
   have pin:∀ b∈fp,∀ o,s5.heap.get? b=some o->s8.heap.get? b=some o/\upd H7 s2.heap.objs.size (HO.lst (ys++[y2])) b=none:=fun b hb o e =>
    ⟨(I8.pin (b,o) (List.mem_append_right _ (List.mem_append_right _ (wf hb e)))).1,(I8.pin (b,o) (List.mem_append_right _ (List.mem_append_right _ (wf hb e)))).2.1⟩
   refine wpAny_pure (wpAny_pure ⟨rfl,m',hm,i+1,some y,_,I8.unpinned,T.keep _ _ _ st5 fun b hb o e=>(pin b hb o e).1,fun b hb=>?_,w'⟩)
   obtain ⟨o,e,d⟩:=T.obj _ _ st5 b hb
   exact (pin b hb o e).2
 exact codeAny_compStart_list (loop _) (T.self X.A 0 _ _ _ (T.keep 0 _ _ st2 (fun b hb o e=>old b o e)) (loop _))
theorem j4 (hc:X.calm=true) (hi:PI X (.Name x px) iter wi) (he:∀ (C:Addr) (s2:Shared) (H2:Hp) (fp:List Addr),PE (X.comp scope C x s2 H2 fp) elt te)
  (hfree:∀ y∈scope.names,y.2≠.free:=by decide +kernel) (hcell:∀ y∈scope.names,y.2≠.cell:=by decide +kernel) (hkind:scope.kind=.function:=by rfl)
  (hnames:∀ y∈scope.names,y.2=.local->scope.names.lookup y.1=some .local:=by decide +kernel) (hx:scope.names.lookup x=some .local:=by rfl) (hs:∀ x,foldedSetIterable iter X.env x=pure x:=by intro _; rfl) :
  PE X (.ListComp elt [⟨.Name x px,iter,[],0⟩] scope pos) (vam wi te):=by
 intro pins s σ H Q I h
 refine wpAny_ListComp hfree hkind hnames (thn (hi pins s σ H _ I h) fun v s1 h1=>thn h1 fun itv s2 h2=>?_) hs
 obtain ⟨it,fp,tn,J,H2,e,I2,T,st2,f2,h⟩:=h2
 subst e
 refine yk4 (R:=fun D H'=>Q (.ref D) H') (RR:=fun acc cenv r s'=>∃ m,s'.heap.Ns cenv.locals m/\∀ h',Heap.SameBut cenv.locals s'.heap h' ->
  match r with | .ok _=>EP X pins σ Q acc { s' with heap:=h' } | .error x=>wpAny (model X.prog X.w) X.A (passOn "comprehension.variables-let-go" x cenv) (EP X pins σ Q) X.xe { s' with heap:=h' }) hc he hfree hcell hkind hx I2 T st2 f2 h ?_
 intro D C H' s' m f hn I' q
 refine ⟨m,hn,fun h' sb=>⟨.ref D,H',?_,rfl,q⟩⟩
 exact I'.turned (t':=s'.toks) (fun b o hb e=>sb.extBut b o hb e) f.1 f.2.1 f.2.2.2.1 f.2.2.2.2.1 f.2.2.2.2.2
theorem yxq {wi:TI} {te:TE} {H:Hp} {Q:VK} (h:wi σ H fun J H1=>∀ D,H1 D=none->yan J te D (fun H2=>Q (.ref D) H2) H1):vam wi te σ H Q:=h
def cW (n:Nat) (Pv:Nat->Hp->Prop) (i m:Nat) (H:Hp):Prop:=m=n - i/\i <= n/\Pv i H
theorem uo {K:W.Frag} {a D:Addr} {xs:List V} {te:TE} {R:Hp->Prop} {H1:Hp} (Pv:Nat->Hp->Prop) (h0:Pv 0 (upd H1 D (.lst []))) (hl:∀ i H,i <= xs.length->Pv i H->SqL K H a xs)
  (hs:∀ i x H,xs[i]?=some x->i < xs.length->Pv i H->te [some x] H fun y H4=>∃ ys,H4 D=some (.lst ys)/\ys.length < sizeLine/\∃ m',m' < xs.length - i/\cW xs.length Pv (i+1) m' (upd H4 D (.lst (ys++[y]))))
  (hd:∀ H,Pv xs.length H->R H):yan (Itl K a) te D R H1:=by
 refine ⟨cW xs.length Pv,⟨xs.length,by simp,Nat.zero_le _,h0⟩,?_⟩
 rintro i m H ⟨rfl,hi,p⟩
 have q:=hl i H hi p
 by_cases hlt:i < xs.length
 ·refine .inr ⟨⟨xs,xs[i],q,by simp [hlt]⟩,fun x H' y=>?_⟩
  obtain ⟨e,y⟩:=y
  subst e
  exact hs i x _ (y xs q) hlt p
 ·have e:i=xs.length:=by omega
  subst e
  exact .inl ⟨⟨xs,q,Nat.le_refl _⟩,hd H p⟩
theorem xz {n i:Nat} {Pv:Nat->Hp->Prop} {D:Addr} {ys:List V} {y:V} {H4:Hp} (hD:H4 D=some (.lst ys)) (hl:ys.length < sizeLine) (hi:i < n) (p:Pv (i+1) (upd H4 D (.lst (ys++[y])))) :
  ∃ ys,H4 D=some (.lst ys)/\ys.length < sizeLine/\∃ m',m' < n - i/\cW n Pv (i+1) m' (upd H4 D (.lst (ys++[y]))):=⟨ys,hD,hl,n - (i+1),by omega,rfl,hi,p⟩
end
end L2
namespace L2
open PySem
def ymd:Expr->Bool
 | .Starred _ _=>false
 | _=>true
theorem ya {e:Expr} {es:List Expr} {env:Env} (h:ymd e=true):starEach (e :: es) env=(false,eval e env) :: starEach es env:=by
 cases e <;> first | rfl | cases h
end L2
namespace L2
open PySem PySem.Spec PyProof.Rows
structure XCls (K:W.Frag) (C:Addr):Prop where
 hd:W.hasDictIn K C=true
 ga:W.findIn K (.ref C) "__getattribute__"=some (some (.builtin "BaseException.__getattribute__"))
 gt:W.findIn K (.ref C) "__getattr__"=some none
 ca:W.findIn K (.ref C) "__class__"=some (some (.builtin "object.__class__"))
 gg:W.specialIn K (.builtin "object.__class__") "__get__"=some (some (.builtin "getset_descriptor.__get__"))
 tk:W.takesIn K (.builtin "object.__class__")=some true
 mo:W.mroIn K C (.type "object")=some true
 mb:W.mroIn K C (.type "BaseException")=some true
theorem XCls.cl {K:W.Frag} {C:Addr} (c:XCls K C):(W.clsIn K C).isSome=true:=by
 obtain ⟨cd,h,_⟩:=W.any_some c.hd
 rw [h]; rfl
theorem ycb {K:W.Frag} {C D:Addr} (h0:W.subIn K (.ref D) (.type "BaseException")=some true) (h1:W.hasDictIn K D=true) (h2:W.typeIn K (.ref D)=some (.type "type"))
  (h3:W.subIn K (.ref C) (.ref D)=some true):W.exmOne K (.ref C) (.ref D)=some true:=by
 obtain ⟨cd,h,_⟩:=W.any_some h1
 unfold W.exmOne W.kitCls
 rw [h0]
 dsimp only
 rw [h,h2,h3]
 rfl
def ybe (x C:Addr) (h:Heap):Prop:=∃ ox,h.get? x=some ox/\ox.cls=.ref C
section
variable {prog:Program} {w:World} {A:Around} {E:Value->Shared->Prop} {s:Shared} {K:W.Frag} {x C:Addr}
theorem ybe.type {M:Model} {h:Heap} (I:ybe x C h):W.Looks M h (typeOf (.ref x)) (.ref C):=by
 obtain ⟨ox,h1,h2⟩:=I
 exact h2 ▸ (W.Looks.ld h1).andThen .now
theorem XCls.finds (c:XCls K C) {M:Model} {h:Heap} (X:K.In h):W.Looks M h (Builtin.ObjectAttr.find (.ref x) (.ref C) "__class__") (.bind (.builtin "getset_descriptor.__get__") (.builtin "object.__class__")):=by
 have L1:=W.looks_findIn (M:=M) X c.ca
 have L2:W.Looks M h (Builtin.ObjectAttr.getOf (some (.builtin "object.__class__"))) (some (.builtin "getset_descriptor.__get__")):=W.looks_specialIn X c.gg
 have L3:W.Looks M h (Builtin.ObjectAttr.dataDescriptor? (some (.builtin "object.__class__")) (some (.builtin "getset_descriptor.__get__"))) (some (.builtin "getset_descriptor.__get__",.builtin "object.__class__")):=(W.looks_takesIn X c.tk).andThen .now
 exact L1.andThen (L2.andThen (L3.andThen (W.Looks.tag .now)))
theorem ysy {R:Result->Shared->Prop} {tp:Value} (c:XCls K C) (X:K.In s.heap) (I:ybe x C s.heap) (h:R (.ok (.ret (.ref C))) s) :
  codeAny (model prog w) A (.call (.builtin "getset_descriptor.__get__") ⟨[.builtin "object.__class__",.ref x,tp],[]⟩) R s:=by
 obtain ⟨hh,g,dr,t,os⟩:=s
 have T0:=I.type (M:=model prog w)
 have T1:=W.looks_mroIn (M:=model prog w) X c.mo
 refine codeAny_call_builtin W.KF.slot_gs.plain W.KF.entry_gs (W.KF.slot_gs.check _ _ _ _ _ _ _ _ W.KF.type_class (W.KF.args_gs _ _ _) ?_)
 unfold Builtin.«getset_descriptor.__get__» Builtin.Getset_descriptor.descrGet
 rw [W.dga_obj]
 refine wpAny_bind (wpAny_pure ?_)
 unfold Builtin.Getset_descriptor.descrGetter Builtin.Getset_descriptor.descrCheckInstance Builtin.Getset_descriptor.descrNameAndClass isInstance
 simp only [W.KF.owner_class]
 repeat lk
 refine ⟨Code.quiet_builtin _ (by decide +kernel),codeAny_builtin W.KF.entry_class ?_⟩
 unfold Builtin.«object.__class__» shownTypeOf
 repeat lk
 exact h
theorem ykv (c:XCls K C) {Q:Option Value->Shared->Prop} (X:K.In s.heap) (I:ybe x C s.heap) (h:Q (some (.ref C)) { s with toks:=s.toks+1 }) :
  wpAny (model prog w) A (getAttr? (.ref x) "__class__") Q E s:=by
 obtain ⟨hh,g,d,t,os⟩:=s
 have L0:=I.type (M:=model prog w)
 have L1:=W.looks_findIn (M:=model prog w) X c.ga
 have L2:=W.looks_findIn (M:=model prog w) X c.gt
 have L3:W.Looks (model prog w) hh (isInstance (.ref x) (.type "BaseException")) true:=L0.andThen (W.looks_mroIn X c.mb)
 have L4:=c.finds (x:=x) (M:=model prog w) X
 unfold getAttr? getAttrBy? getAttrBy
 refine wpAny_bind (wpAny_mkText (wpAny_bind (wpAny_attempt (wpAny_holding (wpAny_bind (L0.at (wpAny_bind (L1.at ?_))))))))
 have e0:(onTheHeap (Value.ref C) && Value.builtin "BaseException.__getattribute__" == Value.builtin "object.__getattribute__")=false:=by
  have z:(Value.builtin "BaseException.__getattribute__" == Value.builtin "object.__getattribute__")=false:=by decide +kernel
  rw [z]; rfl
 dsimp only
 rw [e0]
 unfold getAttrByItsOwn hookBefore
 rw [if_neg Bool.false_ne_true]
 refine wpAny_bind ?_
 rw [if_pos (show onTheHeap (.ref C)=true from rfl)]
 refine L2.at ?_
 refine wpAny_bind (wpAny_attempt (wpAny_holding ?_))
 unfold callGetattribute
 rw [if_neg (by simp)]
 unfold boundAndCalled
 rw [F.attr_ValueError.ga.bind (.ref x)]
 refine wpAny_bind (wpAny_pure ?_)
 refine wpAny_call (codeAny_call_builtin F.attr_ValueError.ga.plain F.entry_bexc_ga ?_)
 have hk:builtinKind "BaseException.__getattribute__"=some .slot:=by decide +kernel
 have hsplit:splitId "BaseException.__getattribute__"=some ("BaseException","__getattribute__"):=by decide +kernel
 have ha:=F.args_bexc_ga (.ref x) (.str "__class__" t)
 simp only [checkBuiltinCall,hk,hsplit,List.cons_append,List.nil_append]
 refine wpAny_bind (L3.at ?_)
 rw [if_neg (by simp)]
 refine wpAny_of_eq ha ?_
 unfold Builtin.«object.__getattribute__»
 have e1:slotArgs "__getattribute__" 1 ⟨[Value.ref x,Value.str "__class__" t],[]⟩=pure (Value.ref x,[Value.str "__class__" t]):=by kernel_rfl
 have e2:Builtin.ObjectAttr.attrName (Value.str "__class__" t)=pure "__class__":=by kernel_rfl
 refine wpAny_bind (wpAny_of_eq e1 ?_)
 dsimp only
 refine wpAny_bind (wpAny_of_eq e2 ?_)
 refine wpAny_bind (L0.at ?_)
 refine wpAny_bind (L4.at ?_)
 dsimp only
 show wpAny _ _ (holding [_] (call _ [_,_,_]) >>= ret) _ _ _
 refine wpAny_bind (wpAny_holding (wpAny_call (ysy (s:=⟨hh,g,d,t+1,os⟩) c X I ?_)))
 refine wpAny_pure ?_
 exact W.handed_on rfl (wpAny_pure h)
theorem ylt (c:XCls K C):W.KitX K (.ref x) (.ref C) (ybe x C) where
 ty:=fun _ _ _ I=>I.type
 it:=fun M h X _=>by
  obtain ⟨cd,hc⟩:=Option.isSome_iff_exists.mp c.cl
  unfold W.clsIn at hc
  split at hc
  ·rename_i there
   intro A' Q' E' s' k q
   unfold isType loadHead
   exact wpAny_bind (wpAny_loadPart (k _ _ (X _ _ there)) (wpAny_pure q))
  ·cases hc
 ne:=fun h tp dd its n sl X htp=>by
  obtain ⟨cd,hc⟩:=Option.isSome_iff_exists.mp c.cl
  refine Bool.eq_false_iff.mpr fun q=>?_
  obtain rfl:C=tp:=Value.ref.inj (beq_iff_eq.mp q)
  unfold W.clsIn at hc
  split at hc
  ·rename_i there
   cases (X _ _ there).symm.trans htp
  ·cases hc
 ca:=fun X I k=>ykv c X I k
end
section
variable {X:Cx}
theorem yl1 {pins:List (Addr × Obj)} {σ:St} {H:Hp} {s:Shared} {x C:Addr} (I:Inv X pins σ H s) (e:H x=some (.ext (ybe x C))):ybe x C s.heap:=(show xp X.prog X.w H s.heap x (.ext (ybe x C)) from I.hok x _ e).1
def vbc (K:W.Frag):List V->Hp->VK->Prop:=fun xs H Q=>∃ x cv C c k,xs=[.ref x,cv]/\xl cv c/\(∀ u,xl cv u->u=c)/\H x=some (.ext (ybe x C))/\XCls K C/\W.kitOne K (.ref C) c=some k/\Q (.bl k) H
theorem ynv:ybb X (.builtin "isinstance") (vbc X.K):=by
 intro pins s σ H xs us Q I r h
 obtain ⟨x,cv,C,c,k,rfl,_,hc,ex,cl,e,q⟩:=h
 obtain ⟨u,u',rfl,rx,rc⟩:=ynb r
 obtain rfl:=hc u' rc
 obtain rfl:u=Value.ref x:=rx
 exact W.kia_one (ylt cl) I.kIn (yl1 I ex) e (fun z=>nomatch z) fun tk=>⟨.bl k,H,I.tok tk,rfl,q⟩
theorem yb6:∀ {Cs:List Addr} {us:List Value},wz (Cs.map V.ref) us->us=Cs.map Value.ref
 | [],_,.nil=>rfl
 | C :: r,_,.cons a t=>by rw [show _=Value.ref C from a,yb6 t]; rfl
def yne (K:W.Frag):List V->Hp->VK->Prop:=fun xs H Q=>∃ x tp C Cs k,xs=[.ref x,.ref tp]/\H tp=some (.tup (List.map V.ref Cs))/\H x=some (.ext (ybe x C))/\XCls K C/\W.kitAny K (.ref C) (Cs.map Value.ref)=some k/\Q (.bl k) H
theorem yb2:ybb X (.builtin "isinstance") (yne X.K):=by
 intro pins s σ H xs us Q I r h
 obtain ⟨x,tp,C,Cs,k,rfl,et,ex,cl,e,q⟩:=h
 obtain ⟨u,u',rfl,rx,rc⟩:=ynb r
 obtain rfl:u=Value.ref x:=rx
 obtain rfl:u'=Value.ref tp:=rc
 obtain ⟨_,its,vs,p⟩:=(show xp X.prog X.w H s.heap tp (.tup (Cs.map V.ref)) from I.hok tp _ et)
 obtain ⟨o,h1,h2,n,h3⟩:=p
 obtain ⟨oc,od,odt,osl⟩:=o
 dsimp only at h2 h3
 subst h2 h3
 rw [yb6 vs] at h1
 exact W.kia_tup (ylt cl) I.kIn (yl1 I ex) h1 e (fun z=>nomatch z) fun tk=>⟨.bl k,H,I.tok tk,rfl,q⟩
end
end L2
namespace L2
open PySem PySem.Spec PyProof.Rows
theorem xp.there {P:Program} {w:World} {H:Hp} {h:Heap} {a:Addr} {o:HO} (x:xp P w H h a o):∃ ob,h.get? a=some ob:=by
 cases o with
 | lst xs=>obtain ⟨_,_,_,_,e⟩:=x; exact ⟨_,e⟩
 | tup xs=>obtain ⟨_,_,_,ob,e,_⟩:=x; exact ⟨_,e⟩
 | dK kvs=>obtain ⟨_,_,_,_,ob,_,_,e,_⟩:=x; exact ⟨_,e⟩
 | dT kvs=>obtain ⟨_,_,_,_,ob,_,_,e,_⟩:=x; exact ⟨_,e⟩
 | set S n=>obtain ⟨ob,_,_,_,e,_⟩:=x; exact ⟨_,e⟩
 | ins C dx fs=>obtain ⟨_,_,_,e,_⟩:=x; exact ⟨_,e⟩
 | own y=>exact x
 | xd fs=>obtain ⟨_,⟨_,_,_,e,_⟩,_⟩:=x; exact ⟨_,e⟩
 | rng lo hi=>obtain ⟨_,_,_,e⟩:=x; exact ⟨_,e⟩
 | frz ob u=>obtain ⟨e,_⟩:=x; exact ⟨_,e⟩
 | tbl ps=>exact ⟨_,(show h.get? a=some _ from x)⟩
 | met f y=>exact ⟨_,(show h.get? a=some _ from x)⟩
 | ext φ=>obtain ⟨_,e,_⟩:=x; exact e
theorem HOk.none_of {P:Program} {w:World} {H:Hp} {h:Heap} {a:Addr} (x:HOk P w H h) (e:h.get? a=none):H a=none:=by
 cases q:H a with
 | none=>rfl
 | some u =>
  obtain ⟨ob,z⟩:=(x a u q).there
  rw [e] at z
  cases z
def Fy (X:Cx) (pins:List (Addr × Obj)) (H:Hp) (b:Addr):Prop :=
 H b=none/\b≠X.env.locals/\b∉X.fs/\(b∈X.ex\/X.s₀.heap.get? b=none)/\(∀ y c,X.env.cells.lookup y=some c->c≠b)/\∀ p∈X.pn++pins,p.1≠b
section
variable {X:Cx} {pins:List (Addr × Obj)} {σ:St} {H H':Hp} {s:Shared} {b x T:Addr} {h':Heap}
theorem yim (I:Inv X pins σ H s) (hb:s.heap.get? b=none) (hn:H' b=none):Fy X pins H' b:=by
 refine ⟨hn,?_,?_,?_,?_,?_⟩
 ·rintro rfl
  obtain ⟨_,⟨_,_,_,e,_⟩,_⟩:=I.loc
  rw [hb] at e; cases e
 ·intro z
  obtain ⟨_,o,e,_⟩:=I.funs.mem z
  rw [hb] at e; cases e
 ·by_cases hx:b∈X.ex
  ·exact .inl hx
  ·refine .inr ?_
   cases q:X.s₀.heap.get? b with
   | none=>rfl
   | some o =>
    obtain ⟨_,e⟩:=I.base.there b o q hx
    rw [hb] at e; cases e
 ·rintro y c e rfl
  obtain ⟨_,_,q,_⟩:=I.cell y c e
  rw [hb] at q; cases q
 ·intro p hp z
  have q:=(I.pin p hp).1
  rw [z,hb] at q; cases q
theorem Inv.fly (I:Inv X pins σ H s) (hx:Fy X pins H x) (hT:Fy X pins H T)
  (keep:∀ b o,b≠x->b≠T->b∉frs X.stack->s.heap.get? b=some o->h'.get? b=some o)
  (slot:∀ b o,b∈frs X.stack->s.heap.get? b=some o->∃ sl,h'.get? b=some { o with slots:=sl }):Inv X pins σ H { s with heap:=h' }:=by
 have ent:∀ {y b o},Fy X pins H y->X.s₀.heap.get? b=some o->b∉X.ex->b≠y:=fun {y b o} hy e he z=>by
  subst z
  rcases hy.2.2.2.1 with q | q
  ·exact he q
  ·rw [e] at q; cases q
 have any:∀ b o,b≠x->b≠T->s.heap.get? b=some o->∃ sl,h'.get? b=some { o with slots:=sl }:=fun b o h1 h2 e=>by
  by_cases z:b∈frs X.stack
  ·exact slot b o z e
  ·exact ⟨o.slots,keep b o h1 h2 z e⟩
 have cellK:∀ y c,X.env.cells.lookup y=some c->∀ v,s.heap.IsCell c v->h'.IsCell c v:=fun y c e v ⟨o,ho,hd⟩=>by
  obtain ⟨sl,q⟩:=any c o (hx.2.2.2.2.1 y c e) (hT.2.2.2.2.1 y c e) ho
  exact ⟨_,q,hd⟩
 refine ⟨I.ok,I.os,I.bare,⟨fun b o e n hb he=>?_,fun b o e n hb he=>?_,I.base.free,fun b o e he=>?_,I.base.tups,I.base.frzs,I.base.tbls⟩,?_,fun y c e=>?_,I.free,I.freeC,fun p hp=>?_,fun b u e=>?_,I.len⟩
 ·refine keep b o (ent hx e he) (ent hT e he) (fun z=>?_) (I.base.keep b o e n hb he)
  rcases List.mem_cons.mp (I.stkSub b z) with q | q
  ·exact absurd q (Nat.ne_of_lt (Nat.lt_of_lt_of_le (Heap.lt_size e) I.ok.above))
  ·exact hb q
 ·obtain ⟨sl,e1⟩:=I.base.slot b o e n hb he
  obtain ⟨sl',e2⟩:=any b _ (ent hx e he) (ent hT e he) e1
  exact ⟨sl',e2⟩
 ·obtain ⟨o',e1⟩:=I.base.there b o e he
  obtain ⟨sl',e2⟩:=any b _ (ent hx e he) (ent hT e he) e1
  exact ⟨_,e2⟩
 ·obtain ⟨m,hn,hl⟩:=I.loc
  refine ⟨m,?_,fun i y v e1 e2 e3=>?_⟩
  ·obtain ⟨o,es,ep,ho,r⟩:=hn
   obtain ⟨sl,q⟩:=any _ o (Ne.symm hx.2.1) (Ne.symm hT.2.1) ho
   exact ⟨_,es,ep,q,r⟩
  ·obtain ⟨u,r,l⟩:=hl i y v e1 e2 e3
   refine ⟨u,r,?_⟩
   rcases l with l | ⟨k,c,e,z⟩
   ·exact .inl l
   ·exact .inr ⟨k,c,e,cellK y c e _ z⟩
 ·obtain ⟨v,z⟩:=I.cell y c e
  exact ⟨v,cellK y c e v z⟩
 ·obtain ⟨e,n,ne,nf,d⟩:=I.pin p hp
  refine ⟨keep p.1 p.2 (hx.2.2.2.2.2 p hp) (hT.2.2.2.2.2 p hp) (fun z=>?_) e,n,ne,nf,d⟩
  rcases List.mem_cons.mp (I.stkSub _ z) with q | q
  ·exact ne q
  ·exact nf q
 ·have tr:∀ c v,H c=some v->c≠x/\c≠T/\c∉frs X.stack:=fun c v q =>
   ⟨fun z=>(by rw [z,hx.1] at q; cases q),fun z=>(by rw [z,hT.1] at q; cases q),fun z=>(by rw [I.stkFree c z] at q; cases q)⟩
  refine (I.hok b u e).stay (fun c v hc q=>?_) (fun _ q=>q) fun _ _ q=>q
  obtain ⟨z1,z2,z3⟩:c≠x/\c≠T/\c∉frs X.stack:=by
   rcases hc with rfl | hc
   ·exact tr _ _ e
   ·exact tr _ _ hc
  exact keep c v z1 z2 z3 q
def Trd (h:Heap) (x T:Addr) (C fl:Value):Prop :=
 ∃ oe vs oT ts a0,h.get? x=some oe/\(oe.cls=C/\vs[0]?=some a0)/\oe.data=.fields vs/\vs[1]?=some (.ref T)/\T≠x/\h.get? T=some oT/\oT.data=.fields ts/\ts[3]?=some fl
def hid (s:Shared) (X:Cx) (x T:Addr):Heap:=W.hideAll s.heap (x :: T :: frs X.stack)
theorem jg:(hid s X x T).StaysIn s.heap:=fun _ _ e=>W.of_hideAll _ e
theorem ynd:(hid s X x T).get? x=none:=W.hideAll_none _ (.head _)
theorem vb2:(hid s X x T).get? T=none:=W.hideAll_none _ (.tail _ (.head _))
theorem jh (I:Inv X pins σ H s):s.heap.FunFrames (hid s X x T) X.stack :=
 W.funFrames_hide I.stack fun env he a ha=>.tail _ (.tail _ (List.mem_filterMap.mpr ⟨env,he,ha⟩))
theorem jw {C fl:Value} (t:Trd s.heap x T C fl):∃ a0,s.heap.TracedAtW (hid s X x T) x C a0 fl:=by
 obtain ⟨oe,vs,oT,ts,a0,h1,h2,h3,h4,h5,h6,h7,h8⟩:=t
 exact ⟨a0,oe,vs,T,oT,ts,h1,h2,h3,h4,vb2,h5,h6,h7,h8⟩
theorem xi {C a0 fl:Value} (I:Inv X pins σ H s) (hx:Fy X pins H x) (hT:Fy X pins H T) (k1:(hid s X x T).StaysIn h') (k2:h'.FunFrames (hid s X x T) X.stack) (k3:h'.TracedAtW (hid s X x T) x C a0 fl)
  (k4:∀ b o,s.heap.get? b=some o->(∀ vs,o.data≠.fields vs)->∃ sl,h'.get? b=some { o with slots:=sl }) :
  Inv X pins σ H { s with heap:=h' }/\∃ T',Fy X pins H T'/\Trd h' x T' C fl:=by
 refine ⟨I.fly hx hT (fun b o n1 n2 n3 e=>k1 b o (W.hideAll_get _ e fun z=>?_)) fun b o hb e=>?_,?_⟩
 ·rcases List.mem_cons.mp z with z | z
  ·exact n1 z
  ·rcases List.mem_cons.mp z with z | z
   ·exact n2 z
   ·exact n3 z
 ·obtain ⟨_,o',e',nf⟩:=I.stack.mem hb
  rw [e] at e'; cases e'
  exact k4 b o e nf
 ·obtain ⟨oe,vs,T',oT,ts,h1,h2,h3,h4,h5,h6,h7,h8,h9⟩:=k3
  refine ⟨T',?_,oe,vs,oT,ts,a0,h1,h2,h3,h4,h6,h7,h8,h9⟩
  by_cases q:T'=T
  ·rw [q]; exact hT
  ·cases e:s.heap.get? T' with
   | none=>exact yim I e (I.hok.none_of e)
   | some o =>
    have z:T'∈frs X.stack:=Classical.byContradiction fun z=>by
     have:=W.hideAll_get (x :: T :: frs X.stack) e (fun m=>by
      rcases List.mem_cons.mp m with m | m
      ·exact h6 m
      ·rcases List.mem_cons.mp m with m | m
       ·exact q m
       ·exact z m)
     rw [show (W.hideAll s.heap (x :: T :: frs X.stack)).get? T'=none from h5] at this
     cases this
    obtain ⟨_,o',e',nf⟩:=k2.mem z
    rw [h7] at e'; cases e'
    exact absurd h8 (nf _)
end
def CXe (P:Program) (w:World):CXT:=fun outer H s E e s'=>∃ x T C H',e=.ref x/\s'.os=s.os/\AllBare s'.gens/\Un (frs outer) [] H H' s.heap s'.heap/\HOk P w H' s'.heap /\
 (H' x=none/\s.heap.get? x=none)/\(H' T=none/\s.heap.get? T=none)/\Trd s'.heap x T C .none/\E C none H'
def yd5 (X:Cx) (Ex:St->XK):Prop:=∀ (pins:List (Addr × Obj)) (σ:St) (H:Hp) (s':Shared) (x T:Addr) (C:Value),Inv X pins σ H s'->Fy X pins H x->Fy X pins H T->Trd s'.heap x T C .none->Ex σ C none H->X.xe (.ref x) s'
theorem v6 {P:Program} {w:World} {K:W.Frag} {mg:Str->Option Value} {base:Heap} {N:List Str} {qual:Str} {scope:Scope} {f:Addr} {cd:Value} {A:Around} {outer:List Env} {s:Shared} {H:Hp} {E:XK} :
  yd5 (wk (CXe P w) P w K mg base N qual scope f cd A outer s H E) (fun _=>E):=by
 intro pins σ H1 s' x T C I hx hT tr q
 show wpAny _ _ (leaving _ _) _ _ _
 obtain ⟨a0,ta⟩:=jw (X:=wk (CXe P w) P w K mg base N qual scope f cd A outer s H E) tr
 refine wpAny_leaving_nextW (base:=hid s' (wk (CXe P w) P w K mg base N qual scope f cd A outer s H E) x T) (L:=s.heap.objs.size) I.ok.frames (jh I) rfl ta jg ynd fun h' ⟨k1,k2,k3,k4⟩=>?_
 obtain ⟨I',T',hT',t'⟩:=xi I hx hT k1 k2 k3 k4
 have new:∀ {b},Fy (wk (CXe P w) P w K mg base N qual scope f cd A outer s H E) pins H1 b->H1 b=none/\s.heap.get? b=none:=fun hb=>⟨hb.1,hb.2.2.2.1.resolve_left (by intro z; cases z)⟩
 exact ⟨x,T',C,H1,rfl,I'.os,I'.bare,I'.base,I'.hok,new hx,new hT',t',q⟩
theorem yob {P:Program} {w:World} {K:W.Frag} {mg:Str->Option Value} {base:Heap} {N:List Str} {qual:Str} {scope:Scope} {f:Addr} {cd:Value} {A:Around} {outer:List Env} {s:Shared} {H:Hp} {E:XK}
  {pins:List (Addr × Obj)} {σ:St} {H1:Hp} {s1:Shared} {h':Heap} {x:Addr} {C:Value} {vs:List Value} (I:Inv (wk (CXe P w) P w K mg base N qual scope f cd A outer s H E) pins σ H1 s1) (m:Heap.MadeExcOf s1.heap h' x C vs) (q:E C none H1) :
  (wk (CXe P w) P w K mg base N qual scope f cd A outer s H E).xe (.ref x) { s1 with heap:=h' }:=by
 obtain ⟨t,he,_,_⟩:=m.there
 have hx:Fy (wk (CXe P w) P w K mg base N qual scope f cd A outer s H E) pins H1 x:=yim I m.new (I.hok.none_of m.new)
 have I1:Inv (wk (CXe P w) P w K mg base N qual scope f cd A outer s H E) pins σ H1 { s1 with heap:=h' }:=I.kept (t':=s1.toks) m.keeps
 show wpAny _ _ (leaving _ _) _ _ _
 refine wpAny_leaving_firstW (base:=hid { s1 with heap:=h' } (wk (CXe P w) P w K mg base N qual scope f cd A outer s H E) x x) (L:=s.heap.objs.size) (a0:=.ref t) I1.ok.frames (jh I1) rfl he jg ynd rfl rfl rfl fun h'' ⟨k1,k2,k3,k4⟩=>?_
 obtain ⟨I',T',hT',t'⟩:=xi I1 hx hx k1 k2 k3 k4
 have new:∀ {b},Fy (wk (CXe P w) P w K mg base N qual scope f cd A outer s H E) pins H1 b->H1 b=none/\s.heap.get? b=none:=fun hb=>⟨hb.1,hb.2.2.2.1.resolve_left (by intro z; cases z)⟩
 exact ⟨x,T',C,H1,rfl,I'.os,I'.bare,I'.base,I'.hok,new hx,new hT',t',q⟩
end L2
namespace L2
open PySem PySem.Spec PyProof.Rows
def ypy (sp:Sp) (dvs:List V) (Ex:St->XK) (t:TA):TE:=fun σ H Q=>t σ H fun vs H1=>sp (vs++dvs) H1 Q (Ex σ)
def yfj (C:Addr) (m:Str) (sp:Sp) (dvs:List V) (Ex:St->XK) (ta:TE) (t:TA):TE:=fun σ H Q=>ta σ H fun x H1=>∃ a dx fs,x=.ref a/\H1 a=some (.ins C dx fs)/\fs.lookup m=none /\
 t σ H1 fun vs H2=>sp (x :: (vs++dvs)) H2 Q (Ex σ)
def yql (C:Addr) (sp:Sp) (dvs:List V) (Ex:St->XK) (t:TA):TE:=fun σ H Q=>t σ H fun vs H1=>∀ x dx,H1 x=none->H1 dx=none->dx≠x ->
 sp (.ref x :: (vs++dvs)) (upd (upd H1 dx (.own x)) x (.ins C dx [])) (fun v H2=>v=.non/\Q (.ref x) H2) (Ex σ)
section
variable {X:Cx} {k:Nat} {f C:Addr} {fd:FuncData} {ps:List Str} {sp:Sp} {dvs:List V} {ds:List Value} {Ex:St->XK} {x m:Str} {p pos apos:Pos} {e o:Expr} {es:List Expr} {ta:TE} {t:TA}
theorem Inv.came {pins:List (Addr × Obj)} {σ:St} {H:Hp} {s s':Shared} {v:Value} (I:Inv X pins σ H s) (hc:yd5 X Ex) (h:CXe X.prog X.w X.stack H s (Ex σ) v s'):X.xe v s':=by
 obtain ⟨y,T,D,H',rfl,os,bare,un,hok,hy,hT,tr,q⟩:=h
 exact hc pins σ H' s' y T D (I.call' os un hok bare fun b z=>absurd z (by simp)) (yim I hy.2 hy.1) (yim I hT.2 hT.1) tr q
theorem ymi {pins:List (Addr × Obj)} {σ:St} {H:Hp} {s:Shared} {Q:VK} {us:List Value} {vs:List V} (F:wv X.prog X.w X.K X.mg X.base (CXe X.prog X.w) k f fd ps sp) (hr:jv k X.A) (hb:uk X.K fd ps ds) (hd:wz dvs ds) (hc:yd5 X Ex)
  (I:Inv X pins σ H s) (r:wz vs us) (h:sp (vs++dvs) H Q (Ex σ)):wpAny (model X.prog X.w) X.A (call (.ref f) us) (EP X pins σ Q) X.xe s:=by
 have r2:wz (vs++dvs) (us++ds):=r.append hd
 have hl:(us++ds).length=ps.length:=by rw [<- r2.length]; exact F.len _ _ _ _ h
 refine wpAny_call (codeAny_mono (F.run X.A X.stack s H ⟨us,[]⟩ (us++ds) (vs++dvs) Q (Ex σ) hr I.env0 (hb s us I.kIn hl) r2 h) fun r s' hq=>?_)
 cases r with
 | error e=>exact I.came hc hq
 | ok fl =>
  cases fl with
  | ret u=>exact I.after hq
  | next=>exact False.elim hq
  | brk=>exact False.elim hq
  | cont=>exact False.elim hq
theorem ve (F:wv X.prog X.w X.K X.mg X.base (CXe X.prog X.w) k f fd ps sp) (hr:jv k X.A) (hg:Gl X x) (hm:X.mg x=some (.ref f)) (hk:W.keepIn X.K (.ref f)=true) (hb:uk X.K fd ps ds) (hd:wz dvs ds) (hc:yd5 X Ex)
  (ha:PA X (e :: es) t) (hdb:(x == ("__debug__":Str))=false:=by decide) (he:starEach (e :: es) X.env=(false,eval e X.env) :: starEach es X.env:=by rfl) (hpl:(backTo pos (starEach es X.env)).any (·.1)=false:=by rfl) :
  PE X (.Call (.Name x p) (e :: es) [] pos) (ypy sp dvs Ex t):=by
 intro pins s σ H Q I h
 refine wpAny_Call_Name_kw (zv I hg hm ?_ hdb)
 refine W.callWith_K (h₀:=X.base) I.ok.mod.kin hk (thn (ha pos pins s σ H _ I h) fun us s1 ⟨vs,H1,I1,r,q⟩=>⟨I1.kIn,?_⟩) he hpl
 exact ymi F hr hb hd hc I1 r q
theorem zt {pl:Sem Bool} (he:PE X o ta) (c:Cls X.K C) (hm:yv4 X.K C m f) (F:wv X.prog X.w X.K X.mg X.base (CXe X.prog X.w) k f fd ps sp) (hr:jv k X.A) (hb:uk X.K fd ps ds) (hd:wz dvs ds) (hc:yd5 X Ex) (ha:PA X (e :: es) t)
  (hst:starEach (e :: es) X.env=(false,eval e X.env) :: starEach es X.env:=by rfl) (hpl:(backTo pos (starEach es X.env)).any (·.1)=false:=by rfl)
  (ht:eval (.Call (.Attribute o m apos) (e :: es) [] pos) X.env=(do
   let ov <- eval o X.env
   standAt apos.atName
   let (f,first) <- holding [ov] (getMethod ov m pl)
   callWith pos f first (backTo pos (starEach (e :: es) X.env)) (backToKw pos (keywordEach [] X.env))):=by rfl) :
  PE X (.Call (.Attribute o m apos) (e :: es) [] pos) (yfj C m sp dvs Ex ta t):=by
 intro pins s σ H Q I h
 refine W.methodCall_KW (pl:=pl) (thn (he pins s σ H _ I h) fun u s1 ⟨x,H1,I1,rx,a,dx,fs,ex,ea,l,q⟩=>?_) ht
 subst ex
 obtain rfl:u=Value.ref a:=rx
 refine yas I1 ea c hm l ?_
 refine W.callWith_K (first:=[.ref a]) (h₀:=X.base) I.ok.mod.kin hm.kp (thn (ha pos pins s1 σ H1 _ I1 q) fun us s2 ⟨vs,H2,I2,r,q2⟩=>⟨I2.kIn,?_⟩) hst hpl
 exact ymi (us:=.ref a :: us) (vs:=.ref a :: vs) F hr hb hd hc I2 (.cons rfl r) q2
theorem ylb {pins:List (Addr × Obj)} {σ:St} {H:Hp} {s:Shared} {Q:VK} {us:List Value} {vs:List V} (M:Mk X.K C f) (F:wv X.prog X.w X.K X.mg X.base (CXe X.prog X.w) k f fd ps sp) (hr:jv (k+1) X.A) (hb:uk X.K fd ps ds) (hd:wz dvs ds)
  (hc:yd5 X Ex) (I:Inv X pins σ H s) (r:wz vs us)
  (h:∀ x dx,H x=none->H dx=none->dx≠x->sp (.ref x :: (vs++dvs)) (upd (upd H dx (.own x)) x (.ins C dx [])) (fun v H2=>v=.non/\Q (.ref x) H2) (Ex σ)) :
  wpAny (model X.prog X.w) X.A (call (.ref C) us) (EP X pins σ Q) X.xe s:=by
 have hq:=h (s.heap.objs.size+1) s.heap.objs.size (I.hok.fresh (Nat.le_succ _)) (I.hok.fresh (Nat.le_refl _)) (Nat.ne_of_lt (Nat.lt_succ_self _))
 have I2:=Inv.made (C:=C) I
 have r2:wz (V.ref (s.heap.objs.size+1) :: (vs++dvs)) (Value.ref (s.heap.objs.size+1) :: (us++ds)):=.cons rfl (r.append hd)
 have hl:(Value.ref (s.heap.objs.size+1) :: us++ds).length=ps.length:=by
  have e:=r2.length
  rw [F.len _ _ _ _ hq] at e
  exact e.symm
 refine wpAny_call (yhn (f:=f) I.kIn M.makes M.init (beq_iff_eq.mp M.fn) (codeAny_mono (F.run _ X.stack _ _ ⟨Value.ref (s.heap.objs.size+1) :: us,[]⟩ (Value.ref (s.heap.objs.size+1) :: (us++ds)) _ _ (Ex σ) (hr.make C us [])
  (I2.env0.make C us []) (hb _ (Value.ref (s.heap.objs.size+1) :: us) I2.kIn hl) r2 hq) fun r s' hq'=>?_))
 cases r with
 | error e=>exact I2.came hc hq'
 | ok fl =>
  cases fl with
  | ret u =>
   obtain ⟨v,H',I3,rv,ev,q3⟩:=I2.after hq'
   subst ev
   exact ⟨rv,⟨V.ref (s.heap.objs.size+1),H',I3,rfl,q3⟩⟩
  | next=>exact False.elim hq'
  | brk=>exact False.elim hq'
  | cont=>exact False.elim hq'
theorem ydr (M:Mk X.K C f) (F:wv X.prog X.w X.K X.mg X.base (CXe X.prog X.w) k f fd ps sp) (hr:jv (k+1) X.A) (hg:Gl X x) (hm:X.mg x=some (.ref C)) (hb:uk X.K fd ps ds) (hd:wz dvs ds) (hc:yd5 X Ex)
  (ha:PA X (e :: es) t) (hdb:(x == ("__debug__":Str))=false:=by decide) (he:starEach (e :: es) X.env=(false,eval e X.env) :: starEach es X.env:=by rfl) (hpl:(backTo pos (starEach es X.env)).any (·.1)=false:=by rfl) :
  PE X (.Call (.Name x p) (e :: es) [] pos) (yql C sp dvs Ex t):=by
 intro pins s σ H Q I h
 refine wpAny_Call_Name_kw (zv I hg hm ?_ hdb)
 refine W.callWith_K (h₀:=X.base) I.ok.mod.kin M.kp (thn (ha pos pins s σ H _ I h) fun us s1 ⟨vs,H1,I1,r,q⟩=>⟨I1.kIn,?_⟩) he hpl
 exact ylb M F hr hb hd hc I1 r q
end
theorem PS.nox {X:Cx} {st:Stmt} {t:TS} (h:PS X.nox st t):PS X st t:=fun pins s σ H D I hw =>
 wpAny_mono (h pins s σ H D (I.wish _) hw) (fun _ _ q=>q.unwish) fun _ _ z=>False.elim z
section
variable {P:Program} {w:World} {K:W.Frag} {mg:Str->Option Value} {base:Heap}
theorem xm {X:Cx}:yd5 X (fun _ _ _ _=>False):=fun _ _ _ _ _ _ _ _ _ _ _ q=>q.elim
theorem Fun.okE {x qual:Str} {st:Stmt} {f:Addr} {fd:FuncData} {N ps:List Str} {k:Nat} {sp:Sp} (F:Fun K x qual st f fd) (S:ym N ps (yj st)) (len:∀ vs H Q E,sp vs H Q E->vs.length=ps.length)
  (hbody:∀ (cdv:Value) (A:Around) (outer:List Env) (s:Shared) (H:Hp) (vs:List V) (Q:VK) (E:XK),jv k (A.deeper (envOfC qual (yj st) s.heap.objs.size f cdv))->sp vs H Q E ->
   ∃ t,PSs (wk (CXe P w) P w K mg base N qual (yj st) f cdv A outer s H E) (wx st) t/\t { nx:=fun _ H'=>Q .non H',rt:=Q } (yba N vs) H):wv P w K mg base (CXe P w) (k+1) f fd ps sp:=by
 obtain ⟨oc,od,kV,doc,pm,an,cdv,ct,osl,rfl,lk,hcd⟩:=F.ex
 exact yty lk hcd S len fun A outer s H vs Q E hr hsp=>hbody cdv A outer s H vs Q E hr hsp
end
abbrev bmV:List Value:=[.type "ValueError",.type "Exception",.type "BaseException",.type "object"]
abbrev XMk (K:W.Frag) (C:Addr):Prop:=W.excIn K C bmV "ValueError.__new__"=true
theorem ys3 {K:W.Frag} {h:Heap} {C:Addr} {bmB:List Value} {newId:String} (X:K.In h) (q:W.excIn K C bmB newId=true) :
  ∃ bm N nm qn bs hdct sn sub ab col dd k0 k1 k2 k3 k5 mN,h.get? C=some (excClassObj nm qn C N bs bm hdct sn sub ab col dd k0 k1 k2 k3 k5 newId)/\h.Ns N mN/\mN "__init__"=none/\OwnTail h bmB bm:=by
 unfold W.excIn at q
 split at q
 ·rename_i dd cd sl ho
  split at q
  ·rename_i C' bm k0 k1 k2 k3 n k5 hm hs
   simp only [Bool.and_eq_true,beq_iff_eq,Bool.not_eq_true'] at q
   obtain ⟨⟨⟨⟨⟨rfl,rfl⟩,hdel⟩,ht⟩,hok⟩,hni⟩:=q
   obtain ⟨nm,bs,mro,ns,qn,hd,sn,sub,ab,col,del⟩:=cd
   dsimp only at hm hdel hok hni
   subst hm hdel
   obtain ⟨l⟩:=sl
   have hs:l=[k0,k1,k2,k3,some (.builtin n),k5]:=hs
   subst hs
   exact ⟨bm,ns,nm,qn,bs,hd,sn,sub,ab,col,dd,k0,k1,k2,k3,k5,_,X _ _ ho,.of_isNs (W.isNs_of_in X hok),W.nsMap_none_of_in X hok hni,W.tail_of_in X ht⟩
  ·cases q
 ·cases q
def yq8 (E:XK) (C:Addr) (t:TA):TS:=fun _ σ H=>t σ H fun vs H1=>vs.length <= sizeLine/\E (.ref C) none H1
theorem xg {P:Program} {w:World} {K:W.Frag} {mg:Str->Option Value} {base:Heap} {N:List Str} {qual:Str} {scope:Scope} {f:Addr} {cd:Value} {A:Around} {outer:List Env} {s:Shared} {H:Hp} {E:XK}
  {C:Addr} {x:Str} {np cpos pos:Pos} {e₀:Expr} {zb:List Expr} {t:TA} (hg:Gl (wk (CXe P w) P w K mg base N qual scope f cd A outer s H E) x) (hm:mg x=some (.ref C)) (hC:XMk K C)
  (ha:PA (wk (CXe P w) P w K mg base N qual scope f cd A outer s H E) (e₀ :: zb) t)
  (he:starEach (e₀ :: zb) (envOfC qual scope s.heap.objs.size f cd)=(false,eval e₀ (envOfC qual scope s.heap.objs.size f cd)) :: starEach zb (envOfC qual scope s.heap.objs.size f cd):=by rfl)
  (hplain:(backTo cpos (starEach zb (envOfC qual scope s.heap.objs.size f cd))).any (·.1)=false:=by rfl) (hdb:(x == ("__debug__":Str))=false:=by decide) :
  PS (wk (CXe P w) P w K mg base N qual scope f cd A outer s H E) (.Raise (some (.Call (.Name x np) (e₀ :: zb) [] cpos)) none pos) (yq8 E C t):=by
 intro pins s1 σ H1 D I h
 obtain ⟨tl,NN,nm,q,bs,hdct,sn,sub,ab,col,dd,k0,k1,k2,k3,k5,mN,hCo,hN,hni,T⟩:=ys3 I.mod.kin hC
 refine wpAny_Raise_call_subT (C:=C) (nm:=nm) (q:=q) (N:=NN) (bs:=bs) (bm:=tl) (hdct:=hdct) (sn:=sn) (sub:=sub) (ab:=ab) (col:=col) (dd:=dd) (k0:=k0) (k1:=k1) (k2:=k2) (k3:=k3) (k5:=k5)
  F.excBase_ValueError (mN:=mN) (T.hasType F.excBase_ValueError.hasBase) (I.ok.hd rfl) (by
   show (backTo cpos (starEach (e₀ :: zb) (envOfC qual scope s.heap.objs.size f cd))).any (·.1)=false
   rw [he]; show (false || (backTo cpos (starEach zb (envOfC qual scope s.heap.objs.size f cd))).any (·.1))=false; rw [hplain]; rfl) hni (zv I hg hm ⟨rfl,?_⟩ hdb)
 have h2:=ha cpos pins s1 σ H1 _ I h
 have he':starEach (e₀ :: zb) (wk (CXe P w) P w K mg base N qual scope f cd A outer s H E).env=(false,eval e₀ (wk (CXe P w) P w K mg base N qual scope f cd A outer s H E).env) :: starEach zb (wk (CXe P w) P w K mg base N qual scope f cd A outer s H E).env:=he
 rw [he'] at h2 ⊢
 refine Calls.evalArgs_plain (wpAny_mono h2 (fun vs s₂ ⟨xs,H2,I2,r,hl,q2⟩=>⟨rfl,by rw [<- r.length]; exact hl,I2.bk _ _ hCo,hN.keeps I2.bk,T.keeps I2.bk,fun h' y m=>yob I2 m q2⟩) fun _ _ y=>y)
end L2
namespace L2
open PySem PySem.Spec PyProof.Rows
section
variable {X:Cx} {pins:List (Addr × Obj)} {σ:St} {H:Hp} {s:Shared} {x T:Addr}
abbrev Cx.pnd (X:Cx) (pn:List (Addr × Obj)):Cx:={ X with pn:=pn }
theorem Cx.Ok.pnd (ok:X.Ok) (pn:List (Addr × Obj)):(X.pnd pn).Ok :=
 ⟨ok.mod,ok.kind,ok.glob,ok.blt,ok.above,ok.inj,ok.has,ok.cab,ok.hd,ok.frames,ok.stk,ok.exf,ok.bs,ok.bsz,ok.noex,ok.exfs,ok.funs,ok.frf⟩
theorem Cx.Ok.unpnd {pn:List (Addr × Obj)} (ok:(X.pnd pn).Ok):X.Ok :=
 ⟨ok.mod,ok.kind,ok.glob,ok.blt,ok.above,ok.inj,ok.has,ok.cab,ok.hd,ok.frames,ok.stk,ok.exf,ok.bs,ok.bsz,ok.noex,ok.exfs,ok.funs,ok.frf⟩
theorem Inv.pnd (I:Inv X pins σ H s):Inv (X.pnd (X.pn++pins)) [] σ H s :=
 ⟨I.ok.pnd _,I.os,I.bare,I.base,I.loc,I.cell,I.free,I.freeC,fun p hp=>I.pin p (by simpa using hp),I.hok,I.len⟩
theorem Inv.unpnd {ps:List (Addr × Obj)} (I:Inv (X.pnd (X.pn++pins)) ps σ H s):Inv X pins σ H s :=
 ⟨I.ok.unpnd,I.os,I.bare,I.base,I.loc,I.cell,I.free,I.freeC,fun p hp=>I.pin p (List.mem_append_left _ hp),I.hok,I.len⟩
def XT (Y:Cx) (Ex:St->XK) (e:Value) (s':Shared):Prop:=∃ pins σ H x T C,e=.ref x/\Inv Y pins σ H s'/\Fy Y pins H x/\Fy Y pins H T/\Trd s'.heap x T C .none/\Ex σ C none H
abbrev Cx.tr (X:Cx) (pn:List (Addr × Obj)) (Ex:St->XK):Cx:=(X.pnd pn).wish (XT (X.pnd pn) Ex)
theorem jp {pn:List (Addr × Obj)} {Ex:St->XK}:yd5 (X.tr pn Ex) Ex:=fun pins σ H _ x T C I hx hT tr q=>⟨pins,σ,H,x,T,C,rfl,I.unwish,hx,hT,tr,q⟩
abbrev Cx.su (X:Cx) (pn:List (Addr × Obj)) (x:Addr):Cx:={ X with A:=X.A.mark (some (.ref x)),calm:=false,pn:=pn,xe:=fun _ _=>False }
theorem Inv.su (I:Inv X pins σ H s) (x:Addr):Inv (X.su (X.pn++pins) x) [] σ H s :=
 ⟨⟨I.ok.mod,I.ok.kind,I.ok.glob,I.ok.blt,I.ok.above,I.ok.inj,I.ok.has,I.ok.cab,fun z=>(by cases z),I.ok.frames,I.ok.stk,I.ok.exf,I.ok.bs,I.ok.bsz,I.ok.noex,I.ok.exfs,I.ok.funs,I.ok.frf⟩,
  I.os,I.bare,I.base,I.loc,I.cell,I.free,I.freeC,fun p hp=>I.pin p (by simpa using hp),I.hok,I.len⟩
theorem Inv.unsu (I:Inv (X.su (X.pn++pins) x) [] σ H s) (ok:X.Ok):Inv X pins σ H s :=
 ⟨ok,I.os,I.bare,I.base,I.loc,I.cell,I.free,I.freeC,fun p hp=>I.pin p (List.mem_append_left _ hp),I.hok,I.len⟩
theorem Inv.track {o:HO} (I:Inv X pins σ H s) (hx:Fy X pins H x) (ob:xp X.prog X.w (upd H x o) s.heap x o):Inv X pins σ (upd H x o) s:=by
 have ne:∀ {b u},H b=some u->b≠x:=fun {b u} e z=>by rw [z,hx.1] at e; cases e
 refine ⟨I.ok,I.os,I.bare,⟨I.base.keep,I.base.slot,fun b ob e n he=>?_,I.base.there,fun b xs e=>?_,fun b ob u e=>?_,fun b ps e=>?_⟩,I.loc,I.cell,?_,fun y c e=>?_,fun p hp=>?_,fun b u e=>?_,I.len⟩
 ·rw [yp ?_]
  ·exact I.base.free b ob e n he
  ·rintro rfl
   rcases hx.2.2.2.1 with z | z
   ·exact he z
   ·rw [e] at z; cases z
 ·have q:=I.base.tups b xs e
  rw [yp (ne q)]; exact q
 ·have q:=I.base.frzs b ob u e
  rw [yp (ne q)]; exact q
 ·obtain ⟨more,q⟩:=I.base.tbls b ps e
  exact ⟨more,by rw [yp (ne q)]; exact q⟩
 ·rw [yp (Ne.symm hx.2.1)]; exact I.free
 ·rw [yp (hx.2.2.2.2.1 y c e)]; exact I.freeC y c e
 ·obtain ⟨e,n,q⟩:=I.pin p hp
  exact ⟨e,by rw [yp (hx.2.2.2.2.2 p hp)]; exact n,q⟩
 ·by_cases hb:b=x
  ·subst hb
   rw [yc] at e
   cases e
   exact ob
  ·rw [yp hb] at e
   exact (I.hok b u e).stay (fun _ _ _ q=>q) (fun c q=>by rw [yp (ne q)]; exact q) fun c xs q=>by rw [yp (ne q)]; exact q
theorem Inv.unbind {M:Model} {A:Around} {E:Value->Shared->Prop} {i:Nat} {n:Str} {pos:Pos} {Q:Unit->Shared->Prop} (I:Inv X pins σ H s) (hN:X.N.Nodup) (hi:X.N[i]?=some n) (hl:X.env.scope.names.lookup n=some .local)
  (h:∀ s',Inv X pins (σ.set i none) H s'->Q () s'):wpAny M A (do bindName X.env n .none; unbindBehindTheSuite X.env n pos) Q E s:=by
 obtain ⟨m,hn,hlk⟩:=id I.loc
 obtain ⟨oL,_,_,hoL,_⟩:=id hn
 have neL:∀ b o,X.s₀.heap.get? b=some o->b≠X.env.locals:=fun b o e=>Nat.ne_of_lt (Nat.lt_of_lt_of_le (Heap.lt_size e) I.ok.above)
 refine wpAny_nameGoes_keeps hl hn (by rw [I.ok.kind]; rfl) fun h' v hn' hs=>h _ ⟨I.ok,I.os,I.bare,⟨fun b o e n hb hx=>?_,fun b o e n hb hx=>?_,I.base.free,fun b o e hx=>?_,I.base.tups,I.base.frzs,I.base.tbls⟩,⟨_,hn',fun j y v' e1 e2 e3=>?_⟩,fun y c e=>?_,I.free,I.freeC,fun p hp=>?_,fun b u e=>?_,by simpa using I.len⟩
 ·exact (hs.2 b (neL b o e)).trans (I.base.keep b o e n hb hx)
 ·obtain ⟨sl,e1⟩:=I.base.slot b o e n hb hx
  exact ⟨sl,(hs.2 b (neL b o e)).trans e1⟩
 ·obtain ⟨o',e1⟩:=I.base.there b o e hx
  exact ⟨o',(hs.2 b (neL b o e)).trans e1⟩
 ·by_cases hj:j=i
  ·subst hj
   have:j < σ.length:=by rw [I.len]; exact (List.getElem?_eq_some_iff.mp hi).1
   rw [List.getElem?_set_self this] at e2
   cases e2
  ·rw [List.getElem?_set_ne (Ne.symm hj)] at e2
   obtain ⟨u',r',q⟩:=hlk j y v' e1 e2 e3
   refine ⟨u',r',?_⟩
   rcases q with ⟨k,e⟩ | ⟨k,c,e,z⟩
   ·have:y≠n:=fun z=>hj (yds hN e1 (z ▸ hi))
    exact .inl ⟨k,by simp [this,e]⟩
   ·exact .inr ⟨k,c,e,z.sameBut hs (I.cne y c e)⟩
 ·obtain ⟨w',z⟩:=I.cell y c e
  exact ⟨w',z.sameBut hs (I.cne y c e)⟩
 ·obtain ⟨e,nn,ne,nf,d⟩:=I.pin p hp
  exact ⟨(hs.2 p.1 ne).trans e,nn,ne,nf,d⟩
 ·refine (I.hok b u e).stay (fun c w' hc q=>(hs.2 c ?_).trans q) (fun _ q=>q) fun _ _ q=>q
  rintro rfl
  rcases hc with rfl | hc
  ·rw [I.free] at e; cases e
  ·rw [I.free] at hc; cases hc
end
def yc1.un (D:yc1) (i:Nat):yc1:=⟨fun σ H=>D.nx (σ.set i none) H,D.rt,fun σ H=>D.bk (σ.set i none) H,fun σ H=>D.ct (σ.set i none) H⟩
def exT (K:W.Frag) (D:Addr) (i:Nat) (ts:TS) (En:yc1):St->XK:=fun σ' C _ H'=>∀ x,H' x=none->∃ Ca,C=.ref Ca/\W.exmOne K (.ref Ca) (.ref D)=some true/\ts (En.un i) (σ'.set i (some (.ref x))) (upd H' x (.ext (ybe x Ca)))
def vdg (K:W.Frag) (D:Addr) (i:Nat) (tb:(St->XK)->TS) (ts:TS):TS:=fun En σ H=>tb (exT K D i ts En) En σ H
section
variable {X:Cx} {body suite:List Stmt} {b₀:Stmt} {tx n:Str} {np hpos pos:Pos} {D:Addr} {i:Nat} {tb:(St->XK)->TS} {ts:TS}
theorem yyi (hb:∀ pn Ex,PSs (X.tr pn Ex) body (tb Ex)) (hst:X.stack=X.env :: X.outer/\X.env.frame=some X.env.locals) (hg:Gl X tx) (hm:X.mg tx=some (.ref D))
  (hs:∀ pn x,PSs (X.su pn x) (b₀ :: suite) ts) (hN:X.N.Nodup) (hi:X.N[i]?=some n) (hl:X.env.scope.names.lookup n=some .local) (hdb:(tx == ("__debug__":Str))=false:=by decide) :
  PS X (.Try body [.ExceptHandler (some (.Name tx np)) (some n) (b₀ :: suite) hpos] [] [] pos) (vdg X.K D i tb ts):=by
 intro pins s σ H En I h
 have toX:∀ {f s'},SP (X.tr (X.pn++pins) (exT X.K D i ts En)) [] En f s'->SP X pins En f s':=fun {f s'} q=>by
  cases f with
  | next=>obtain ⟨σ',H',J,q⟩:=q; exact ⟨σ',H',J.unwish.unpnd,q⟩
  | brk=>obtain ⟨σ',H',J,q⟩:=q; exact ⟨σ',H',J.unwish.unpnd,q⟩
  | cont=>obtain ⟨σ',H',J,q⟩:=q; exact ⟨σ',H',J.unwish.unpnd,q⟩
  | ret u=>obtain ⟨v,σ',H',J,r,q⟩:=q; exact ⟨v,σ',H',J.unwish.unpnd,r,q⟩
 refine wpAny_Try_except (wpAny_mono (hb (X.pn++pins) (exT X.K D i ts En) [] s σ H En (I.pnd.wish _) h) (fun f s1 q=>?_) fun e s1 q=>?_)
 ·have q:=toX q
  cases f with
  | next=>exact wpAny_execs_nil q
  | brk=>exact q
  | cont=>exact q
  | ret u=>exact q
 ·obtain ⟨ps,σ',H',x,T,C,rfl,J,hx,hT,tr,q⟩:=q
  have J:Inv X pins σ' H' s1:=J.unpnd
  have hx:Fy X pins H' x:=⟨hx.1,hx.2.1,hx.2.2.1,hx.2.2.2.1,hx.2.2.2.2.1,fun p hp=>hx.2.2.2.2.2 p (List.mem_append_left _ hp)⟩
  have hT:Fy X pins H' T:=⟨hT.1,hT.2.1,hT.2.2.1,hT.2.2.2.1,hT.2.2.2.2.1,fun p hp=>hT.2.2.2.2.2 p (List.mem_append_left _ hp)⟩
  obtain ⟨Ca,rfl,hex,q⟩:=q x hx.1
  obtain ⟨a0,ta⟩:=jw (X:=X) tr
  have fr:=J.ok.frames
  rw [hst.1] at fr
  have lf:=jh (x:=x) (T:=T) J
  rw [hst.1] at lf
  refine wpAny_noteFrame_onW (base:=hid s1 X x T) fr lf hst.2 ta jg ynd fun h2 ⟨k1,k2,k3,k4⟩=>?_
  rw [<- hst.1] at k2
  obtain ⟨J,T2,hT,tr⟩:=xi J hx hT k1 k2 k3 k4
  obtain ⟨a0,ta⟩:=jw (s:={ s1 with heap:=h2 }) (X:=X) tr
  refine wpAny_setFlight_noneW (base:=hid { s1 with heap:=h2 } X x T2) jg (jh J) ta fun h3 k1 k2 k3 k4=>?_
  obtain ⟨J,T3,hT,tr⟩:=xi J hx hT k1 k2 k3 fun b o e nf=>⟨o.slots,k4 b o e nf⟩
  refine wpAny_handleBy_cons (codeAny_handlers_test (zv (J.su x) hg hm ?_ hdb)) (by intro z; cases z)
  have at3:ybe x Ca h3:=by
   obtain ⟨oe,_,_,_,_,e1,e2,_⟩:=id tr
   exact ⟨oe,e1,e2.1⟩
  refine W.exm_one (M:=model X.prog X.w) (h:=h3) J.kIn at3.type hex _ _ _ _ (fun _ _ z=>z) ?_
  dsimp only [if_true]
  refine codeAny_handlers_suite_as ?_
  obtain ⟨a0,ta⟩:=jw (s:={ s1 with heap:=h3 }) (X:=X) tr
  refine wpAny_setFlight_noneW (base:=hid { s1 with heap:=h3 } X x T3) jg (jh J) ta fun h4 k1 k2 k3 k4=>?_
  obtain ⟨J,T4,hT,tr⟩:=xi J hx hT k1 k2 k3 fun b o e nf=>⟨o.slots,k4 b o e nf⟩
  have at4:ybe x Ca h4:=by
   obtain ⟨oe,_,_,_,_,e1,e2,_⟩:=id tr
   exact ⟨oe,e1,e2.1⟩
  have J:=J.track (o:=.ext (ybe x Ca)) hx ⟨at4,let ⟨ox,z,_⟩:=at4; ⟨ox,z⟩,fun h1 h2 ⟨ox,z1,z2⟩ k=>⟨ox,k _ z1,z2⟩⟩
  refine uw (X:=X.su (X.pn++pins) x) (i:=i) (v:=V.ref x) (J.su x) hN hi (Or.inl hl) rfl (fun s5 J5=>?_) (Or.inr hl)
  refine wpAny_mono (hs (X.pn++pins) x [] s5 _ _ (En.un i) J5 q) (fun f s6 q=>?_) fun _ _ z=>False.elim z
  cases f with
  | next=>obtain ⟨σ6,H6,J6,q⟩:=q; exact (J6.unsu I.ok).unbind hN hi hl fun s7 J7=>⟨_,H6,J7,q⟩
  | brk=>obtain ⟨σ6,H6,J6,q⟩:=q; exact (J6.unsu I.ok).unbind hN hi hl fun s7 J7=>⟨_,H6,J7,q⟩
  | cont=>obtain ⟨σ6,H6,J6,q⟩:=q; exact (J6.unsu I.ok).unbind hN hi hl fun s7 J7=>⟨_,H6,J7,q⟩
  | ret u=>obtain ⟨v,σ6,H6,J6,r,q⟩:=q; exact (J6.unsu I.ok).unbind hN hi hl fun s7 J7=>⟨v,_,H6,J7,r,q⟩
end
section
variable {σ:St} {H:Hp} {Q:VK} {tr:TA} {ta:TE} {nx:St->Hp->Prop} {rt:VK} {bk ct:St->Hp->Prop} {ts:TS}
theorem yro {sp:Sp} {dvs:List V} {Ex:St->XK} (h:tr σ H fun vs H1=>sp (vs++dvs) H1 Q (Ex σ)):ypy sp dvs Ex tr σ H Q:=h
theorem yd4 {C:Addr} {m:Str} {sp:Sp} {dvs:List V} {Ex:St->XK} (h:ta σ H fun x H1=>∃ a dx fs,x=.ref a/\H1 a=some (.ins C dx fs)/\fs.lookup m=none/\tr σ H1 fun vs H2=>sp (x :: (vs++dvs)) H2 Q (Ex σ)):yfj C m sp dvs Ex ta tr σ H Q:=h
theorem ysp {C:Addr} {sp:Sp} {dvs:List V} {Ex:St->XK} (h:tr σ H fun vs H1=>∀ x dx,H1 x=none->H1 dx=none->dx≠x->sp (.ref x :: (vs++dvs)) (upd (upd H1 dx (.own x)) x (.ins C dx [])) (fun v H2=>v=.non/\Q (.ref x) H2) (Ex σ)):yql C sp dvs Ex tr σ H Q:=h
theorem ys7 {E:XK} {C:Addr} {D:yc1} (h:tr σ H fun vs H1=>vs.length <= sizeLine/\E (.ref C) none H1):yq8 E C tr D σ H:=h
theorem vco {K:W.Frag} {D:Addr} {i:Nat} {tb:(St->XK)->TS} (h:tb (exT K D i ts ⟨nx,rt,bk,ct⟩) ⟨nx,rt,bk,ct⟩ σ H):vdg K D i tb ts ⟨nx,rt,bk,ct⟩ σ H:=h
theorem yt5 {K:W.Frag} {D:Addr} {i:Nat} {C:Addr} {d:Option Addr} (he:W.exmOne K (.ref C) (.ref D)=some true) (h:∀ x,H x=none->ts ⟨fun σ H=>nx (σ.set i none) H,rt,fun σ H=>bk (σ.set i none) H,fun σ H=>ct (σ.set i none) H⟩ (σ.set i (some (.ref x))) (upd H x (.ext (ybe x C)))) :
  exT K D i ts ⟨nx,rt,bk,ct⟩ σ (.ref C) d H:=fun x hx=>⟨C,rfl,he,h x hx⟩
theorem vbf {K:W.Frag} {x C:Addr} {cv:V} {c:Value} {k:Bool} (hx:H x=some (.ext (ybe x C))) (cl:XCls K C) (r:xl cv c) (u:∀ u,xl cv u->u=c) (e:W.kitOne K (.ref C) c=some k) (h:Q (.bl k) H):vbc K [.ref x,cv] H Q:=⟨x,cv,C,c,k,rfl,r,u,hx,cl,e,h⟩
theorem ym4 {K:W.Frag} {x C:Addr} {n:String} {k:Bool} (hx:H x=some (.ext (ybe x C))) (cl:XCls K C) (e:W.kitOne K (.ref C) (.type n)=some k) (h:Q (.bl k) H):vbc K [.ref x,.ty n] H Q:=vbf hx cl rfl (fun _ z=>z) e h
theorem ymx {K:W.Frag} {x tp C:Addr} {Cs:List Addr} {k:Bool} (ht:H tp=some (.tup (List.map V.ref Cs))) (hx:H x=some (.ext (ybe x C))) (cl:XCls K C) (e:W.kitAny K (.ref C) (Cs.map Value.ref)=some k) (h:Q (.bl k) H):yne K [.ref x,.ref tp] H Q :=
 ⟨x,tp,C,Cs,k,rfl,ht,hx,cl,e,h⟩
end
end L2
namespace L2
open PySem PySem.Spec PyProof.Rows
section
variable {κ:Type} [DecidableEq κ]
def ybd (kvs:List (κ × V)) (k:κ):Option V:=(kvs.find? fun kv=>decide (kv.1=k)).map (·.2)
def yfu (kvs:List (κ × V)) (k:κ) (v:V):List (κ × V) :=
 if (kvs.any fun kv=>decide (kv.1=k))=true then kvs.map (fun kv=>if kv.1=k then (kv.1,v) else kv) else kvs++[(k,v)]
theorem ua {p:κ × V} {r:List (κ × V)} {k:κ} (e:p.1=k):ybd (p :: r) k=some p.2:=by simp [ybd,List.find?_cons,e]
theorem x9 {p:κ × V} {r:List (κ × V)} {k:κ} (e:¬ p.1=k):ybd (p :: r) k=ybd r k:=by simp [ybd,List.find?_cons,e]
theorem yal (k:κ):∀ kvs:List (κ × V),(kvs.any fun kv=>decide (kv.1=k))=(ybd kvs k).isSome
 | []=>rfl
 | p :: r=>by
  rw [List.any_cons]
  by_cases e:p.1=k
  ·simp only [ua e,decide_eq_true e,Bool.true_or,Option.isSome_some]
  ·rw [x9 e,decide_eq_false e,Bool.false_or]; exact yal k r
theorem yhq (k j:κ) (y:V):∀ kvs:List (κ × V),ybd (kvs.map fun kv=>if kv.1=k then (kv.1,y) else kv) j=(ybd kvs j).map fun x=>if j=k then y else x
 | []=>rfl
 | p :: r=>by
  have ih:=yhq k j y r
  rw [List.map_cons]
  by_cases h:p.1=k
  ·rw [if_pos h]
   by_cases e:p.1=j
   ·rw [ua (p:=(p.1,y)) e,ua e,Option.map_some,if_pos (e.symm.trans h)]
   ·rw [x9 (p:=(p.1,y)) e,x9 e,ih]
  ·rw [if_neg h]
   by_cases e:p.1=j
   ·rw [ua (p:=p) e,ua e,Option.map_some,if_neg (fun z=>h (e.trans z))]
   ·rw [x9 (p:=p) e,x9 e,ih]
theorem yev (k j:κ) (y:V):∀ kvs:List (κ × V),ybd kvs k=none->ybd (kvs++[(k,y)]) j=if j=k then some y else ybd kvs j
 | [],_=>by
  by_cases e:k=j
  ·rw [if_pos e.symm]; exact ua (p:=(k,y)) e
  ·rw [if_neg (fun z=>e z.symm)]; exact x9 (p:=(k,y)) e
 | p :: r,hn=>by
  rw [List.cons_append]
  have hk:¬ p.1=k:=fun z=>by rw [ua z] at hn; cases hn
  rw [x9 hk] at hn
  have ih:=yev k j y r hn
  by_cases e:p.1=j
  ·rw [ua e,ua e,if_neg (fun z=>hk (e.trans z))]
  ·rw [x9 e,x9 e,ih]
theorem ydq (kvs:List (κ × V)) (k j:κ) (y:V):ybd (yfu kvs k y) j=if j=k then some y else ybd kvs j:=by
 unfold yfu
 by_cases a:(kvs.any fun kv=>decide (kv.1=k))=true
 ·rw [if_pos a,yhq]
  rw [yal] at a
  by_cases e:j=k
  ·obtain ⟨x,hx⟩:=Option.isSome_iff_exists.mp a
   rw [if_pos e,e,hx,Option.map_some,if_pos rfl]
  ·rw [if_neg e]
   cases ybd kvs j with
   | none=>rfl
   | some x=>rw [Option.map_some,if_neg e]
 ·rw [if_neg a]
  refine yev k j y kvs ?_
  rw [yal] at a
  cases q:ybd kvs k with
  | none=>rfl
  | some x=>rw [q] at a; exact (a rfl).elim
theorem yb0 (kvs:List (κ × V)) (k:κ) (v:V):(yfu kvs k v).length <= kvs.length+1:=by
 unfold yfu
 split
 ·rw [List.length_map]; omega
 ·rw [List.length_append,List.length_cons,List.length_nil]; omega
theorem yot {kvs:List (κ × V)} {k:κ} (v:V) (h:ybd kvs k=none):yfu kvs k v=kvs++[(k,v)]:=by
 unfold yfu
 rw [yal,h]
 exact if_neg (by decide)
theorem yfv.isSome_eq {o:Option V} {u:Option Value} (r:yfv o u):o.isSome=u.isSome:=by
 cases o with
 | none=>cases u with
  | none=>rfl
  | some _=>exact (show False from r).elim
 | some _=>cases u with
  | none=>exact (show False from r).elim
  | some _=>rfl
theorem KV.val {kvs:List (κ × V)} {vs:List (κ × Value)} (r:KV kvs vs) (k:κ):yfv (ybd kvs k) (valueAt vs k):=by
 unfold KV at r
 induction r with
 | nil=>exact True.intro
 | @cons p q ps qs h t ih =>
  obtain ⟨h1,h2⟩:=h
  by_cases e:p.1=k
  ·have e':q.1=k:=h1.symm.trans e
   have b:valueAt (q :: qs) k=some q.2:=by simp [valueAt,List.find?_cons,e']
   rw [ua e,b]; exact h2
  ·have e':¬ q.1=k:=fun z=>e (h1.trans z)
   have b:valueAt (q :: qs) k=valueAt qs k:=by simp [valueAt,List.find?_cons,e']
   rw [x9 e,b]; exact ih
theorem KV.any {kvs:List (κ × V)} {vs:List (κ × Value)} (r:KV kvs vs) (k:κ):(kvs.any fun kv=>decide (kv.1=k))=vs.any fun kv=>decide (kv.1=k):=by
 unfold KV at r
 induction r with
 | nil=>rfl
 | cons h t ih=>rw [List.any_cons,List.any_cons,ih,h.1]
theorem KV.repl {kvs:List (κ × V)} {vs:List (κ × Value)} (r:KV kvs vs) (k:κ) {y:V} {u:Value} (ry:xl y u) :
  KV (kvs.map fun kv=>if kv.1=k then (kv.1,y) else kv) (vs.map fun kv=>if kv.1=k then (kv.1,u) else kv):=by
 unfold KV at r ⊢
 induction r with
 | nil=>exact .nil
 | @cons p q ps qs h t ih =>
  rw [List.map_cons,List.map_cons]
  refine .cons ?_ ih
  obtain ⟨h1,h2⟩:=h
  by_cases e:p.1=k
  ·rw [if_pos e,if_pos (h1.symm.trans e)]; exact ⟨h1,ry⟩
  ·rw [if_neg e,if_neg (fun z=>e (h1.trans z))]; exact ⟨h1,h2⟩
theorem KV.put {kvs:List (κ × V)} {vs:List (κ × Value)} (r:KV kvs vs) (k:κ) {y:V} {u:Value} (ry:xl y u):KV (yfu kvs k y) (stored vs k u):=by
 unfold yfu stored
 rw [r.any k]
 by_cases e:(vs.any fun kv=>decide (kv.1=k))=true
 ·rw [if_pos e,if_pos e]; exact r.repl k ry
 ·rw [if_neg e,if_neg e]; exact Paired.snoc r ⟨rfl,ry⟩
theorem KV.length {kvs:List (κ × V)} {vs:List (κ × Value)} (r:KV kvs vs):kvs.length=vs.length:=Paired.length r
end
theorem yo7 {P:Program} {w:World} {k:Key} {u:Value} (r:xl (kV k) u):(ug P w).is k u=true:=by
 cases k with
 | inl i=>obtain ⟨t,e⟩:=(show ∃ t,u=Value.int i t from r); subst e; exact ygk P w i t
 | inr x=>obtain ⟨t,e⟩:=(show ∃ t,u=Value.str x t from r); subst e; exact yf8 P w x t
theorem yeu {P:Program} {w:World}:∀ {ks:List Key} {us:List Value},wz (ks.map kV) us->ItemsAre (ug P w) ks us
 | [],_,r=>by rw [List.map_nil] at r; cases r; exact .nil
 | k :: ks,_,r=>by
  rw [List.map_cons] at r
  cases r with
  | cons h t=>exact .cons (yo7 h) (yeu t)
abbrev KT (H:Hp):List (List Key × V)->List (List Key × Addr × Value)->Prop:=Paired fun p q=>p.1=q.1/\H q.2.1=some (.tup (p.1.map kV))/\xl p.2 q.2.2
theorem KT.val {H:Hp} {kvs:List (List Key × V)} {xs:List (List Key × Addr × Value)} (r:KT H kvs xs) (k:List Key):yfv (ybd kvs k) ((atKey xs k).map (·.2)):=by
 induction r with
 | nil=>exact True.intro
 | @cons p q ps qs h t ih =>
  obtain ⟨h1,_,h2⟩:=h
  by_cases e:p.1=k
  ·have e':q.1=k:=h1.symm.trans e
   have b:atKey (q :: qs) k=some q.2:=by simp [atKey,List.find?_cons,e']
   rw [ua e,b]; exact h2
  ·have e':¬ q.1=k:=fun z=>e (h1.trans z)
   have b:atKey (q :: qs) k=atKey qs k:=by simp [atKey,List.find?_cons,e']
   rw [x9 e,b]; exact ih
theorem KT.repl {H:Hp} {kvs:List (List Key × V)} {xs:List (List Key × Addr × Value)} (r:KT H kvs xs) (k:List Key) {y:V} {u:Value} (ry:xl y u) :
  KT H (kvs.map fun kv=>if kv.1=k then (kv.1,y) else kv) (xs.map (putAt k u)):=by
 induction r with
 | nil=>exact .nil
 | @cons p q ps qs h t ih =>
  rw [List.map_cons,List.map_cons]
  refine .cons ?_ ih
  obtain ⟨h1,h2,h3⟩:=h
  unfold putAt
  by_cases e:p.1=k
  ·rw [if_pos e,if_pos (h1.symm.trans e)]; exact ⟨h1,h2,ry⟩
  ·rw [if_neg e,if_neg (fun z=>e (h1.trans z))]; exact ⟨h1,h2,h3⟩
theorem KT.put {H:Hp} {kvs:List (List Key × V)} {xs:List (List Key × Addr × Value)} (r:KT H kvs xs) (k:List Key) {b:Addr} {y:V} {u:Value} (hb:H b=some (.tup (k.map kV))) (ry:xl y u) :
  KT H (yfu kvs k y) (storedH xs k b u):=by
 have e:(kvs.any fun kv=>decide (kv.1=k))=(atKey xs k).isSome:=by
  rw [yal,(r.val k).isSome_eq,Option.isSome_map]
 unfold yfu storedH
 rw [e]
 by_cases q:(atKey xs k).isSome=true
 ·rw [if_pos q,if_pos q]; exact r.repl k ry
 ·rw [if_neg q,if_neg q]; exact Paired.snoc r ⟨rfl,hb,ry⟩
theorem KT.keeps {H H':Hp} {kvs:List (List Key × V)} {xs:List (List Key × Addr × Value)} (r:KT H kvs xs) (ht:∀ b ys,H b=some (.tup ys)->H' b=some (.tup ys)):KT H' kvs xs :=
 Paired.mapP r fun _ _ z=>⟨z.1,ht _ _ z.2.1,z.2.2⟩
section
variable {P:Program} {w:World} {H:Hp} {h:Heap} {a:Addr}
theorem vap {u:HO} (ok:HOk P w H h) (e:Rd H a u):xp P w H h a u:=e.ok ok
theorem yo6 {kvs:List (Key × V)} (ok:HOk P w H h) (e:Rd H a (.dK kvs)):kvs.length <= sizeLine/\(a == sysModules)=false/\∃ vs,KV kvs vs/\h.DictOf (ug P w) a vs :=
 show xp P w H h a (.dK kvs) from vap ok e
theorem vcj {kvs:List (Key × V)} (ok:HOk P w H h) (e:H a=some (.dK kvs)):kvs.length <= sizeLine/\(a == sysModules)=false/\∃ vs,KV kvs vs/\h.DictOf (ug P w) a vs:=yo6 ok (.inl e)
theorem yiu {ks:List Key} (ok:HOk P w H h) (e:H a=some (.tup (ks.map kV))):(tupleKind (ug P w)).is h ks a:=by
 obtain ⟨_,its,r,o,h1,h2,n,h3⟩:=(show xp P w H h a (.tup (ks.map kV)) from ok a _ e)
 exact ⟨o,its.toArray,n,h1,h2,h3,by simpa using yeu r⟩
theorem ypa {kvs:List (List Key × V)} (ok:HOk P w H h) (e:Rd H a (.dT kvs)):kvs.length <= sizeLine/\(a == sysModules)=false /\
  ∃ xs,KT H kvs xs/\h.DictOfH (tupleKind (ug P w)) a xs:=by
 obtain ⟨z,y,xs,r,o,es,ep,h1,h2,h3,h4,h5⟩:=(show xp P w H h a (.dT kvs) from vap ok e)
 refine ⟨z,y,xs,r,o,es,ep,h1,h2,h3,h4,fun x hx=>?_,h5⟩
 have all:∀ {l:List (List Key × V)} {m:List (List Key × Addr × Value)},KT H l m->∀ x∈m,(tupleKind (ug P w)).is h x.1 x.2.1:=by
  intro l m q
  induction q with
  | nil=>intro x hx; exact nomatch hx
  | @cons p q ps qs hq t ih =>
   intro x hx
   rcases List.mem_cons.mp hx with e | hx
   ·subst e
    exact yiu ok (by rw [<- hq.1]; exact hq.2.1)
   ·exact ih x hx
 exact all r x hx
theorem vb5 {kvs:List (List Key × V)} (ok:HOk P w H h) (e:H a=some (.dT kvs)):kvs.length <= sizeLine/\(a == sysModules)=false /\
  ∃ xs,KT H kvs xs/\h.DictOfH (tupleKind (ug P w)) a xs:=ypa ok (.inl e)
end
def yng (H:Hp) (a:Addr) (y:V) (r:Option V):Prop :=
 (∃ kvs k,Rd H a (.dK kvs)/\y=kV k/\r=ybd kvs k)\/∃ kvs k b,Rd H a (.dT kvs)/\y=.ref b/\H b=some (.tup (k.map kV))/\r=ybd kvs k
def yv6 (H:Hp) (a:Addr) (y v:V) (H':Hp):Prop :=
 (∃ kvs k,H a=some (.dK kvs)/\y=kV k/\kvs.length < sizeLine/\H'=upd H a (.dK (yfu kvs k v))) \/
 ∃ kvs k b,H a=some (.dT kvs)/\y=.ref b/\H b=some (.tup (k.map kV))/\kvs.length < sizeLine/\H'=upd H a (.dT (yfu kvs k v))
theorem yng.t {H:Hp} {a b:Addr} {kvs:List (List Key × V)} {k:List Key} (e:H a=some (.dT kvs)) (eb:H b=some (.tup (k.map kV))):yng H a (.ref b) (ybd kvs k):=.inr ⟨kvs,k,b,.inl e,rfl,eb,rfl⟩
theorem yv6.t {H:Hp} {a b:Addr} {kvs:List (List Key × V)} {k:List Key} {v:V} (e:H a=some (.dT kvs)) (eb:H b=some (.tup (k.map kV))) (hl:kvs.length < sizeLine) :
  yv6 H a (.ref b) v (upd H a (.dT (yfu kvs k v))):=.inr ⟨kvs,k,b,e,rfl,eb,hl,rfl⟩
section
variable {X:Cx} {pins:List (Addr × Obj)} {σ:St} {H:Hp} {s:Shared} {a:Addr} {y v:V} {u r:Value} {o:Option V} {A:Around} {E:Value->Shared->Prop}
theorem Inv.big (I:Inv X pins σ H s):sysModules < s.heap.objs.size:=by
 have h:mainGlobals < s.heap.objs.size:=(I.mod.glob.keeps I.bk).lt
 exact Nat.lt_trans (by decide) h
theorem ykf {Q:Value->Shared->Prop} (hu:A.units+1 < cLine) (I:Inv X pins σ H s) (g:yng H a y (some v)) (ry:xl y u) (h:∀ w' s',Inv X pins σ H s'->xl v w'->Q w' s') :
  wpAny (model X.prog X.w) A (getItem (.ref a) u) Q E s:=by
 rcases g with ⟨kvs,k,e,ey,l⟩ | ⟨kvs,k,b,e,ey,eb,l⟩
 ·subst ey
  obtain ⟨z,hd,vs,rel,dd⟩:=yo6 I.hok e
  obtain ⟨w',hw,rw'⟩:=yfv.some_of (v:=v) (o:=valueAt vs k) (by rw [l]; exact rel.val k)
  exact wpAny_getItem_of (yo7 ry) dd.mapOf hw (h w' _ (I.tok _) rw')
 ·subst ey
  cases (show u=Value.ref b from ry)
  obtain ⟨z,hd,xs,rel,dd⟩:=ypa I.hok e
  obtain ⟨w',hw,rw'⟩:=yfv.some_of (v:=v) (o:=(atKey xs k).map (·.2)) (by rw [l]; exact rel.val k)
  obtain ⟨p,hp,hp2⟩:=Option.map_eq_some_iff.mp hw
  refine wpAny_getItem_heap (tupleKind_room_in1 hu) (yiu I.hok eb) dd hp ?_
  rw [hp2]
  exact h w' _ (I.tok _) rw'
theorem yr5 {Q:Value->Shared->Prop} (hu:A.units+1 < cLine) (I:Inv X pins σ H s) (g:yng H a y o) (ry:xl y u) (h:∀ s',Inv X pins σ H s'->Q (.bool (!o.isSome)) s') :
  wpAny (model X.prog X.w) A (compareOp .NotIn u (.ref a)) Q E s:=by
 rcases g with ⟨kvs,k,e,ey,l⟩ | ⟨kvs,k,b,e,ey,eb,l⟩
 ·subst ey
  obtain ⟨z,hd,vs,rel,dd⟩:=yo6 I.hok e
  refine wpAny_notIn_of (yo7 ry) hd dd.mapOf ?_
  rw [<- (rel.val k).isSome_eq,<- l]
  exact h _ (I.tok _)
 ·subst ey
  cases (show u=Value.ref b from ry)
  obtain ⟨z,hd,xs,rel,dd⟩:=ypa I.hok e
  refine wpAny_notIn_heap (tupleKind_room_in1 hu) (yiu I.hok eb) hd dd ?_
  have q:=(rel.val k).isSome_eq
  rw [Option.isSome_map] at q
  rw [<- q,<- l]
  exact h _ (I.tok _)
theorem ymh {h':Heap} {t':Nat} {ob:HO} (I:Inv X pins σ H s) (mu:Mut (H a)) (hs:Heap.SameBut a s.heap h') (he:∃ q,h'.get? a=some q) (new:xp X.prog X.w (upd H a ob) h' a ob) :
  Inv X pins σ (upd H a ob) { s with heap:=h',toks:=t' } :=
 I.write (x:=a) (e:=a) mu (.inl rfl) (fun b q hb z=>(hs.2 b hb).trans z) he new
theorem yv9 {P:Program} {w:World} {H':Hp} {h':Heap} {kvs:List (Key × V)} {vs:List (Key × Value)} (z:kvs.length <= sizeLine) (hd:(a == sysModules)=false) (rel:KV kvs vs) (dd:h'.DictOf (ug P w) a vs) :
  xp P w H' h' a (.dK kvs):=⟨z,hd,vs,rel,dd⟩
theorem ykh {H':Hp} {Q:Unit->Shared->Prop} (hu:A.units+1 < cLine) (I:Inv X pins σ H s) (g:yv6 H a y v H') (ry:xl y u) (rv:xl v r) (h:∀ s',Inv X pins σ H' s'->Q () s') :
  wpAny (model X.prog X.w) A (setItem (.ref a) u r) Q E s:=by
 rcases g with ⟨kvs,k,e,ey,l,eH⟩ | ⟨kvs,k,b,e,ey,eb,l,eH⟩
 ·subst ey eH
  obtain ⟨z,hd,vs,rel,dd⟩:=vcj I.hok e
  have hz:vs.length <= sizeLine:=by rw [<- rel.length]; exact z
  have hl:(yfu kvs k v).length <= sizeLine:=by have:=yb0 kvs k v; omega
  refine wpAny_setItem_pairs (hsz:=hz) (yo7 ry) dd fun h' dd' hs=>h _ ?_
  have he:∃ q,h'.get? a=some q:=let ⟨q,_,_,hq,_⟩:=dd'; ⟨q,hq⟩
  exact ymh I (by rw [e]; exact True.intro) hs he (yv9 hl hd (rel.put k rv) dd')
 ·subst ey eH
  cases (show u=Value.ref b from ry)
  obtain ⟨z,hd,xs,rel,dd⟩:=vb5 I.hok e
  have hz:xs.length <= sizeLine:=by rw [<- Paired.length rel]; exact z
  have hl:(yfu kvs k v).length <= sizeLine:=by have:=yb0 kvs k v; omega
  refine wpAny_setItem_heap (hsz:=hz) (tupleKind_room_in1 hu) (yiu I.hok eb) dd fun h' dd' hs=>h _ ?_
  obtain ⟨q,es,ep,hq,h2,h3,h4,_,h5⟩:=dd'
  refine ymh I (by rw [e]; exact True.intro) hs ⟨q,hq⟩ ⟨hl,hd,_,(rel.put k eb rv).keeps fun c ys ec=>?_,q,es,ep,hq,h2,h3,h4,h5⟩
  rw [yp (uh ec e (fun z=>nomatch z))]
  exact ec
end
section
variable {X:Cx} {pins:List (Addr × Obj)} {σ:St} {H:Hp} {s:Shared} {a:Addr} {kvs:List (Key × V)} {k:Key} {u:Value} {A:Around} {E:Value->Shared->Prop}
end
def vdo (i:Expr):Prop:=∀ ov iv,subscripted i false ov iv=operate [ov,iv] (getItem ov iv)
theorem yrz {prog:Program} {w:World} {A:Around} {E:Value->Shared->Prop} {s:Shared} {env:Env} {value slice:Expr} {pos:Pos} {T id:String} {Q:Value->Shared->Prop}
  (hl:typeLookup (.type T) "__getitem__"=pure (some (.builtin id))) (hs:vdo slice)
  (h:wpAny (model prog w) A (eval value env) (fun o s₁=>wpAny (model prog w) A (eval slice env) (fun i s₂=>s₂.TypeIs o T/\wpAny (model prog w) A (getItem o i) Q E s₂) E s₁) E s) :
  wpAny (model prog w) A (eval (.Subscript value slice pos) env) Q E s:=by
 refine Subscript_ (wpAny_mono h (fun o s₁ h₁=>wpAny_mono h₁ (fun i s₂ h₂=>?_) fun _ _ x=>x) fun _ _ x=>x)
 obtain ⟨hT,h₂⟩:=h₂
 unfold subscriptTail
 refine wpAny_bind ?_
 rw [getitemInPython_of_ne hT.not_modules]
 refine wpAny_bind (wpAny_specialOf hT hl ?_)
 have fin:wpAny (model prog w) A (subscripted slice false o i) (fun r s₃=>wpAny (model prog w) A (letTemporaryGo value o r >>= fun _=>pure r) Q E s₃) E s₂:=by
  rw [hs o i]
  exact wpAny_operating (wpAny_mono h₂ (fun r s₃ h₃=>wpAny_bind (wpAny_letTemporaryGo (wpAny_pure h₃))) fun _ _ x=>x)
 first
  | exact wpAny_pure (wpAny_bind fin)
  | exact wpAny_bind (wpAny_pure (wpAny_bind fin))
  | exact wpAny_bind fin
theorem yf7 {X:Cx} {pins:List (Addr × Obj)} {σ:St} {H:Hp} {s:Shared} {a:Addr} {y:V} {o:Option V} (I:Inv X pins σ H s) (g:yng H a y o):s.TypeIs (.ref a) "dict":=by
 rcases g with ⟨kvs,k,e,_,_⟩ | ⟨kvs,k,b,e,_,_,_⟩
 ·obtain ⟨_,_,vs,_,dd⟩:=yo6 I.hok e
  exact dd.typeIs
 ·obtain ⟨_,_,xs,_,dd⟩:=ypa I.hok e
  exact dd.typeIs
def vax (td ty:TE):TE:=fun σ H Q=>td σ H fun x H1=>ty σ H1 fun y H2=>∃ a v,x=.ref a/\yng H2 a y (some v)/\Q v H2
def ylr (ty td:TE):TE:=fun σ H Q=>ty σ H fun y H1=>td σ H1 fun x H2=>∃ a o,x=.ref a/\yng H2 a y o/\Q (.bl (!o.isSome)) H2
def vai (td ty tv:TE):TS:=fun D σ H=>tv σ H fun v H1=>td σ H1 fun x H2=>ty σ H2 fun y H3=>∃ a H4,x=.ref a/\yv6 H3 a y v H4/\D.nx σ H4
section
variable {X:Cx} {o i e value:Expr} {pos pos' tpos:Pos} {td ty tv:TE}
theorem ysi (hu:X.A.units+1 < cLine) (ho:PE X o td) (hi:PE X i ty) (hs:vdo i):PE X (.Subscript o i pos) (vax td ty):=by
 intro pins s σ H Q I h
 refine yrz PySem.F.slot_dict_getitem.lookup hs (thn (ho pins s σ H _ I h) fun u s1 ⟨x,H1,I1,rx,q1⟩=>thn (hi pins s1 σ H1 _ I1 q1) fun iv s2 ⟨y,H2,I2,ry,a,v,ex,g,q2⟩=>?_)
 subst ex
 obtain rfl:u=Value.ref a:=rx
 exact ⟨yf7 I2 g,ykf hu I2 g ry fun w' s3 I3 rw'=>⟨v,H2,I3,rw',q2⟩⟩
theorem yll (hu:X.A.units+1 < cLine) (hi:PE X i ty) (ho:PE X o td):PC X .NotIn i o (ylr ty td):=by
 intro pins s σ H Q I h
 refine thn (hi pins s σ H _ I h) fun iv s1 ⟨y,H1,I1,ry,q1⟩=>thn (ho pins s1 σ H1 _ I1 q1) fun u s2 ⟨x,H2,I2,rx,a,ov,ex,g,q2⟩=>?_
 subst ex
 obtain rfl:u=Value.ref a:=rx
 exact yr5 hu I2 g ry fun s3 I3=>⟨.bl (!ov.isSome),H2,I3,rfl,q2⟩
theorem yr4 (hu:X.A.units+1 < cLine) (ho:PE X o td) (hi:PE X i ty) (hv:PE X value tv) (hs:swapsWith value (some (.Subscript o i pos')) pos.line X.env=pure false) :
  PS X (.Assign [.Subscript o i pos'] value pos) (vai td ty tv):=by
 intro pins s σ H D I h
 refine wpAny_Assign_Subscript (thn (hv pins s σ H _ I h) fun r s1 ⟨v,H1,I1,rv,q1⟩=>thn (ho pins s1 σ H1 _ I1 q1) fun u s2 ⟨x,H2,I2,rx,q2⟩=>thn (hi pins s2 σ H2 _ I2 q2) fun iv s3 ⟨y,H3,I3,ry,a,H4,ex,g,q3⟩=>?_) hs
 subst ex
 obtain rfl:u=Value.ref a:=rx
 exact ykh hu I3 g ry rv fun s4 I4=>⟨σ,H4,I4,q3⟩
end
theorem yo0 {P:Program} {w:World} {H:Hp} (h:Heap) (hb:sysModules < h.objs.size):xp P w H (h.push { cls:=.type "dict",data:=.dict #[] }) h.objs.size (.dT []) :=
 ⟨Nat.zero_le _,beq_eq_false_iff_ne.mpr (Ne.symm (Nat.ne_of_lt hb)),[],.nil,_,#[],0,Heap.get?_push_size _ rfl,⟨rfl,rfl,rfl⟩,rfl,rfl,List.nodup_nil⟩
def yqm:TE:=fun _ H Q=>∀ p,H p=none->Q (.ref p) (upd H p (.dT []))
section
variable {X:Cx} {pos:Pos}
theorem yhs:PE X (.Dict [] [] pos) yqm:=fun pins s σ H Q I h =>
 wpAny_Dict_empty ⟨.ref s.heap.objs.size,_,I.laid (a:=s.heap.objs.size) (o:=.dT []) (t':=s.toks) (fun _ _ q=>Heap.get?_push_of_some _ q) (Nat.le_refl _) (yo0 s.heap I.big),rfl,h _ (I.hok.fresh (Nat.le_refl _))⟩
end
structure M1 (X:Cx) (o:Expr) (m:Str) (apos:Pos) (e:Expr) (cpos:Pos):Prop where
 base:attributeBase o m X.env (eval o X.env)=eval o X.env
 few:((backTo cpos (starEach [e] X.env)).all (fun x=>!x.1) && (backToKw cpos (keywordEach [] X.env)).all (fun x=>x.1.isSome)
  && decide (([e]:List Expr).length+([]:List Keyword).length+(if ([]:List Keyword).isEmpty then 0 else 1) < 30))=true
 line:(apos.endLine == cpos.line)=true
 trees:backTo cpos (starEach [e] X.env)=[(false,eval e X.env)]
structure M2 (X:Cx) (o:Expr) (m:Str) (apos:Pos) (e f:Expr) (cpos:Pos):Prop where
 base:attributeBase o m X.env (eval o X.env)=eval o X.env
 few:((backTo cpos (starEach [e,f] X.env)).all (fun x=>!x.1) && (backToKw cpos (keywordEach [] X.env)).all (fun x=>x.1.isSome)
  && decide (([e,f]:List Expr).length+([]:List Keyword).length+(if ([]:List Keyword).isEmpty then 0 else 1) < 30))=true
 line:(apos.endLine == cpos.line)=true
 trees:backTo cpos (starEach [e,f] X.env)=[(false,eval e X.env),(false,eval f X.env)]
section
variable {X:Cx} {pins:List (Addr × Obj)} {σ:St} {H:Hp} {s:Shared} {a:Addr} {y d:V} {u r:Value} {o:Option V} {A:Around} {E:Value->Shared->Prop}
end
section
variable {X:Cx} {o e f:Expr} {apos cpos:Pos} {td ty tx:TE}
end
section
variable {X:Cx} {pins:List (Addr × Obj)} {σ:St} {H:Hp} {s:Shared} {a:Addr} {kvs:List (Key × V)} {A:Around} {E:Value->Shared->Prop}
end
section
variable {X:Cx} {pins:List (Addr × Obj)} {σ:St} {H:Hp} {s:Shared} {a:Addr} {y:V} {u:Value} {A:Around} {E:Value->Shared->Prop}
end
end L2
namespace L2
open PySem PySem.Spec PyProof.Rows
@[irreducible] def QA (X:Cx) (es:List Expr) (t:TA):Prop:=PA X es t
@[irreducible] def QE (X:Cx) (e:Expr) (t:TE):Prop:=PE X e t
@[irreducible] def QSs (X:Cx) (st:List Stmt) (t:TS):Prop:=PSs X st t
section
variable {X:Cx} {e:Expr} {es:List Expr} {te:TE} {t:TA} {pos:Pos} {ts us:TS} {st:Stmt} {zb:List Stmt}
theorem w9 (h:PE X e te):QE X e te:=by unfold QE; exact h
theorem yfm:QA X [] yrj:=by unfold QA; exact yd
theorem vy (ha:QE X e te) (hr:QA X es t) (h:ymd e=true):QA X (e :: es) (yug te t):=by
 unfold QA at hr ⊢
 unfold QE at ha
 exact yb ha hr (ya h)
theorem yfg (h:QA X es t):QE X (.List es pos) (vc4 t):=by
 unfold QA at h
 exact w9 (vk h)
end
end L2
namespace L2
open PySem PySem.Spec PyProof.Rows
@[irreducible] def QS (X:Cx) (st:Stmt) (t:TS):Prop:=PS X st t
section
variable {X:Cx} {e:Expr} {te:TE} {pos:Pos} {ts us:TS} {st:Stmt} {zb:List Stmt}
theorem vci (h:PS X st ts):QS X st ts:=by unfold QS; exact h
theorem ylk (h1:QS X st ts) (h2:PSs X zb us):PSs X (st :: zb) (va6 ts us):=by
 unfold QS at h1
 exact yi h1 h2
theorem yu {R:TS->Prop} (h1:PS X st ts) (h2:∃ us,PSs X zb us/\R (va6 ts us)):∃ t,PSs X (st :: zb) t/\R t:=let ⟨_,a,b⟩:=h2; ⟨_,yi h1 a,b⟩
theorem jc {R:TS->Prop} (h1:QS X st ts) (h2:∃ us,PSs X zb us/\R (va6 ts us)):∃ t,PSs X (st :: zb) t/\R t:=let ⟨_,a,b⟩:=h2; ⟨_,ylk h1 a,b⟩
theorem yfk {i:Nat} {y:Str} {p:Pos} (hN:X.N.Nodup) (hi:X.N[i]?=some y) (hx:Loc X.env.scope y) (he:QE X e te) (hf:X.fn y=true\/X.env.scope.names.lookup y=some .local) (hs:swapsWith e (some (.Name y p)) pos.line X.env=pure false):QS X (.Assign [.Name y p] e pos) (yvz te (xk i)):=by
 unfold QE at he
 exact vci (yy hN hi hx he hs hf)
end
end L2
namespace L2
open PySem PySem.Spec PyProof.Rows
theorem yhy:∀ {bs:List Bool} {us:List Value},wz (bs.map V.bl) us->us=bs.map Value.bool
 | [],_,.nil=>rfl
 | b :: r,_,.cons a t=>by rw [show _=Value.bool b from a,yhy t]; rfl
theorem ykb (bs:List Bool):((List.range bs.length).all fun i=>(bs[i]?).getD true)=bs.all id:=by
 rw [Bool.eq_iff_iff,List.all_eq_true,List.all_eq_true]
 constructor
 ·intro h b hb
  obtain ⟨i,hi,rfl⟩:=List.getElem_of_mem hb
  have:=h i (List.mem_range.mpr hi)
  rw [List.getElem?_eq_getElem hi] at this
  exact this
 ·intro h i hi
  have hi:=List.mem_range.mp hi
  rw [List.getElem?_eq_getElem hi]
  exact h _ (List.getElem_mem hi)
section
variable {X:Cx}
theorem yaf (hc:X.calm=true):ybb X (.builtin "all") (fun xs H Q=>∃ p bs,xs=[.ref p]/\SqL X.K H p (List.map V.bl bs)/\Q (.bl (bs.all id)) H):=by
 intro pins s σ H xs us Q I r h
 obtain ⟨p,bs,rfl,hq,q⟩:=h
 obtain ⟨u,rfl,rx⟩:=ynf r
 cases rx
 obtain ⟨its,r',pl,hz⟩:=I.list hq
 obtain rfl:=yhy r'
 have hl:=pl.isList
 have hlt:p < s.heap.objs.size:=by obtain ⟨_,e,_⟩:=hl; exact Heap.lt_size e
 refine call_all_walk (wpAny_pyIter_list hl ?_)
 refine ⟨s.heap.objs.size,[s.heap.objs.size,p],[s.heap.objs.size],(bs.map Value.bool).toArray.size,_,_,fun i=>(bs[i]?).getD true,rfl,Walks.list (A:=X.A.in1) (show X.A.handled=none from I.ok.hd hc) _ p (Nat.ne_of_lt hlt) (bs.map Value.bool).toArray,
  ⟨⟨_,Heap.get?_push_size _ rfl,rfl,rfl⟩,hl.push _⟩,fun i v s' Q' E' hP hQ=>?_,fun h' tk hk=>?_⟩
 ·have hP:(bs.map Value.bool)[i]?=some v:=by simpa using hP
  rw [List.getElem?_map] at hP
  cases e:bs[i]? with
  | none=>rw [e] at hP; cases hP
  | some b =>
   dsimp only at hQ
   rw [e] at hP hQ
   cases hP
   exact wpAny_truthy_bool hQ
 ·have e:((List.range (bs.map Value.bool).toArray.size).all fun i=>(bs[i]?).getD true)=bs.all id:=by
   rw [List.size_toArray,List.length_map]
   exact ykb bs
  rw [e]
  refine ⟨.bl (bs.all id),H,I.kept (t':=tk) fun b x e=>hk b x (fun hm=>?_) (Heap.get?_push_of_some _ e),rfl,q⟩
  rw [List.mem_singleton.mp hm] at e
  exact Nat.lt_irrefl _ (Heap.lt_size e)
end
end L2
namespace L2
open PySem PySem.Spec PyProof.Rows
theorem w4 {env:Env}:∀ {names:List (Str × NameKind)} {x:Str} {k:NameKind},
  (names.map fun (n,k)=>if (k == NameKind.free && env.scope.kind == .function && env.kindOf n == some .cell) then (n,NameKind.cell) else (n,k)).lookup x=some k->∃ k0,(x,k0)∈names/\(k=k0\/k0=.free)
 | [],_,_,h=>by simp at h
 | (n,k1) :: r,x,k,h=>by
  rw [List.map_cons] at h
  by_cases hx:x=n
  ·subst hx
   refine ⟨k1,.head _,?_⟩
   dsimp only at h
   split at h
   ·rename_i hc
    simp only [Bool.and_eq_true,beq_iff_eq] at hc
    exact .inr hc.1.1
   ·simp [List.lookup] at h
    exact .inl h.symm
  ·have:(x == n)=false:=by simpa using hx
   have h':(r.map fun (n,k)=>if (k == NameKind.free && env.scope.kind == .function && env.kindOf n == some .cell) then (n,NameKind.cell) else (n,k)).lookup x=some k:=by
    dsimp only at h
    split at h <;> simpa [List.lookup,this] using h
   obtain ⟨k0,m,q⟩:=w4 h'
   exact ⟨k0,.tail _ m,q⟩
def jb (ys:List Str) (env:Env):List (Str × Addr):=ys.map fun y=>(y,(env.cells.lookup y).getD 0)
theorem ybj {env:Env}:∀ {ys:List Str} {y:Str} {c:Addr},(jb ys env).lookup y=some c->y∈ys/\c=(env.cells.lookup y).getD 0
 | [],_,_,h=>by simp [jb] at h
 | z :: r,y,c,h=>by
  by_cases hy:y=z
  ·subst hy
   simp [jb,List.lookup] at h
   exact ⟨.head _,h.symm⟩
  ·have hb:(y == z)=false:=by simpa using hy
   have h':(jb r env).lookup y=some c:=by simpa [jb,List.lookup,hb] using h
   obtain ⟨m,e⟩:=ybj h'
   exact ⟨.tail _ m,e⟩
theorem zr {env:Env}:∀ {ys:List Str} {y:Str},y∈ys->(jb ys env).lookup y=some ((env.cells.lookup y).getD 0)
 | z :: r,y,h=>by
  by_cases hy:y=z
  ·subst hy
   simp [jb,List.lookup]
  ·have hb:(y == z)=false:=by simpa using hy
   have hm:y∈r:=by
    rcases List.mem_cons.mp h with q | q
    ·exact absurd q hy
    ·exact q
   have:=zr (env:=env) hm
   simpa [jb,List.lookup,hb] using this
abbrev Cx.compF (X:Cx) (scope:Scope) (ys:List Str) (C:Addr) (x:Str) (s2:Shared) (H2:Hp) (fp:List Addr):Cx :=
 { X with N:=x :: ys,s₀:=s2,H₀:=H2,env:=compEnvC scope (jb ys X.env) C X.env,outer:=X.stack,ex:=fp,fn:=fun _=>false,pn:=[],xe:=fun _ _=>False }
def j5 (J:It) (te:TE) (fr:St) (D:Addr) (R:Hp->Prop) (H1:Hp):Prop:=∃ W:Nat->Nat->Hp->Prop,(∃ m,W 0 m (upd H1 D (.lst []))) /\
 ∀ i m H2,W i m H2->(J.stop i H2/\R H2)\/(J.go i H2/\∀ x H3,J.yld i H2 x H3->te (some x :: fr) H3 fun y H4=>∃ ys,H4 D=some (.lst ys)/\ys.length < sizeLine/\∃ m',m' < m/\W (i+1) m' (upd H4 D (.lst (ys++[y]))))
def wl (js:List Nat) (σ:St):St:=js.map fun j=>(σ[j]?).getD none
def ymj (wi:TI) (te:TE) (js:List Nat):TE:=fun σ H Q=>wi σ H fun J H1=>∀ D,H1 D=none->j5 J te (wl js σ) D (fun H2=>Q (.ref D) H2) H1
section
variable {X:Cx} {iter elt:Expr} {x:Str} {px pos:Pos} {scope:Scope} {te:TE} {wi:TI} {pins:List (Addr × Obj)} {σ:St} {ys:List Str} {js:List Nat}
theorem ycu {s2:Shared} {H2:Hp} {it:Addr} {fp:List Addr} {tn:Nat->Heap->Prop} {J:It} (hc:X.calm=true)
  (he:∀ (C:Addr) (s2:Shared) (H2:Hp) (fp:List Addr),PE (X.compF scope ys C x s2 H2 fp) elt te)
  (hcell:∀ y∈scope.names,y.2≠.cell) (hkind:scope.kind=.function) (hx:scope.names.lookup x=some .local) (hnd:(x :: ys).Nodup)
  (hfr:∀ y∈scope.names,y.2=.free->y.1∈ys) (hyc:∀ y∈ys,X.env.kindOf y=some .cell) (hrel:∀ y∈ys,(relabel scope X.env).names.lookup y=some .cell) (hjs:js.map (fun j=>X.N[j]?)=ys.map some)
  (I2:Inv X pins σ H2 s2) (T:ynh X.prog X.w X.K (.Name x px) J fp it tn) (st2:tn 0 s2.heap) (f2:∀ b∈fp,ycg X pins H2 b)
  {R:Addr->Hp->Prop} (h:∀ D,H2 D=none->j5 J te (wl js σ) D (R D) H2) {RR:Value->Addr->Result->Shared->Prop} {E:Value->Shared->Prop}
  (hR:∀ (D C:Addr) (H':Hp) (s':Shared) (m:Str->Option Value),ycg X pins H' C->s'.heap.Ns C m->Inv X pins σ H' s'->R D H'->RR (.ref D) C (.ok .next) s') :
  wpAny (model X.prog X.w) X.A (newList []) (fun acc s₃=>wpAny (model X.prog X.w) X.A (newFunctionEnv scope X.env.globals (jb ys X.env) [] X.env.qual none .none (some X.env)) (fun cenv s₄ =>
   codeAny (model X.prog X.w) X.A (.compStart (.ListComp elt [⟨.Name x px,iter,[],0⟩] scope pos) 0 (.ref it) acc { cenv with scope:=relabel scope X.env }) (RR acc cenv.locals) s₄) E s₃) E s2:=by
 have hsub:∀ y c,(jb ys X.env).lookup y=some c->X.env.cells.lookup y=some c:=fun y c e=>by
  obtain ⟨m,rfl⟩:=ybj e
  obtain ⟨c',q⟩:=I2.ok.has y (.inl (hyc y m))
  rw [q]
  rfl
 refine wpAny_newObj_type (wpAny_newFunctionEnv hcell (by intro y hy; simp at hy) (fun h₁ hns₁ hsb₁=>?_) hkind)
 dsimp only at hns₁ hsb₁ ⊢
 generalize hH2:s2.heap.push { cls:=.type "list",dict:=none,data:=.seq ([]:List Value).toArray }=G at hns₁ hsb₁ ⊢
 have hC:G.objs.size=s2.heap.objs.size+1:=by rw [<- hH2,Heap.size_push]
 have hDC:s2.heap.objs.size≠G.objs.size:=by rw [hC]; exact Nat.ne_of_lt (Nat.lt_succ_self _)
 have hCle:s2.heap.objs.size <= G.objs.size:=by rw [hC]; exact Nat.le_succ _
 have below:∀ b,b < s2.heap.objs.size->b≠G.objs.size/\b≠s2.heap.objs.size:=fun b hb=>⟨by rw [hC]; exact Nat.ne_of_lt (Nat.lt_succ_of_lt hb),Nat.ne_of_lt hb⟩
 have old:∀ b o,s2.heap.get? b=some o->h₁.get? b=some o:=fun b o e=>hsb₁.extBut b o (below b (Heap.lt_size e)).1 (Heap.get?_push_of_some _ (hH2 ▸ Heap.get?_push_of_some _ e))
 have hacc:h₁.get? s2.heap.objs.size=some { cls:=.type "list",data:=.seq ([]:List Value).toArray }:=hsb₁.extBut _ _ hDC (Heap.get?_push_of_some _ (hH2 ▸ Heap.get?_push_size _ rfl))
 have fpl:∀ b∈fp,b < s2.heap.objs.size:=fun b hb=>let ⟨_,e,_⟩:=T.obj 0 _ st2 b hb; Heap.lt_size e
 have fpS:∀ b∈fp,b∉frs X.stack:=fun b hb z=>(List.mem_cons.mp (I2.stkSub b z)).elim (f2 b hb).2.1 (f2 b hb).2.2.1
 have nC:H2 G.objs.size=none:=I2.hok.fresh hCle
 have nD:H2 s2.heap.objs.size=none:=I2.hok.fresh (Nat.le_refl _)
 have cellOld:∀ y c,(jb ys X.env).lookup y=some c->∃ v o,s2.heap.get? c=some o/\o.data=.cell v:=fun y c e=>by
  obtain ⟨v,o,q1,q2⟩:=I2.cell y c (hsub y c e)
  exact ⟨v,o,q1,q2⟩
 have okC:(X.compF scope ys G.objs.size x s2 H2 fp).Ok:=by
  refine ⟨I2.ok.mod,hkind,I2.ok.glob,I2.ok.blt,hCle,fun y z c e e'=>I2.ok.inj y z c (hsub y c e) (hsub z c e'),fun y e=>?_,fun y c z e=>(by cases z),I2.ok.hd,I2.ok.frames,.inl rfl,fun b hb=>⟨(below b (fpl b hb)).1,fun y c e=>(f2 b hb).2.2.2.2.1 y c (hsub y c e)⟩,I2.bs,?_,fun b o e hb=>?_,fun b hb=>fpS b hb,I2.stack,I2.stkFree⟩
  ·have e':(relabel scope X.env).names.lookup y=some .cell\/(relabel scope X.env).names.lookup y=some .free:=e
   have hin:y∈ys:=by
    rcases e' with e' | e'
    ·obtain ⟨k0,m,q⟩:=w4 e'
     rcases q with q | q
     ·exact absurd q.symm (hcell _ m)
     ·exact hfr _ m q
    ·obtain ⟨k0,m,q⟩:=w4 e'
     rcases q with q | q
     ·exact hfr _ m q.symm
     ·exact hfr _ m q
   exact ⟨_,zr hin⟩
  ·exact Nat.le_trans I2.ok.bsz I2.sz
  ·rcases (f2 b hb).2.2.2.1 with z | z
   ·exact I2.ok.noex b o e z
   ·exact absurd (Nat.lt_of_lt_of_le (Heap.lt_size (I2.ok.bs b o e).1) z) (Nat.lt_irrefl _)
 have hlen:(wl js σ).length=ys.length:=by
  have:=congrArg List.length hjs
  simpa [wl] using this
 have I3:∀ tk,Inv (X.compF scope ys G.objs.size x s2 H2 fp) [] (none :: wl js σ) (upd H2 s2.heap.objs.size (.lst [])) { s2 with heap:=h₁,toks:=tk }:=fun tk =>
  ⟨okC,rfl,I2.bare,Un.laid old (Nat.le_refl _) nD,⟨_,hns₁,fun i y v e1 e2 e3=>by
    cases i with
    | zero=>cases e2
    | succ i =>
     have e1:ys[i]?=some y:=by simpa using e1
     have e2:(wl js σ)[i]?=some (some v):=by simpa using e2
     have hy:y∈ys:=List.mem_of_getElem? e1
     have ej:=congrArg (fun l=>l[i]?) hjs
     simp only [List.getElem?_map,e1,Option.map_some] at ej
     cases q:js[i]? with
     | none=>rw [q] at ej; cases ej
     | some j =>
      rw [q] at ej
      have ej:X.N[j]?=some y:=by simpa using ej
      have es:σ[j]?=some (some v):=by
       simp only [wl,List.getElem?_map,q,Option.map_some,Option.some.injEq] at e2
       cases r:σ[j]? with
       | none=>rw [r] at e2; cases e2
       | some w'=>rw [r] at e2; rw [show w'=some v from e2]
      obtain ⟨m0,_,hl0⟩:=I2.loc
      obtain ⟨u,ru,lk⟩:=hl0 j y v ej es (.inr (.inl (hyc y hy)))
      refine ⟨u,ru,.inr ⟨.inl (hrel y hy),?_⟩⟩
      rcases lk with ⟨k1,_⟩ | ⟨_,c,ec,o,ho,hd⟩
      ·rw [hyc y hy] at k1; cases k1
      ·refine ⟨c,?_,o,old c o ho,hd⟩
       show (jb ys X.env).lookup y=some c
       rw [zr hy,ec]
       rfl⟩,fun y c e=>(by
    obtain ⟨v,o,q1,q2⟩:=cellOld y c e
    exact ⟨v,o,old c o q1,q2⟩),(by show upd H2 s2.heap.objs.size _ G.objs.size=none; rw [yp hDC.symm]; exact nC),fun y c e=>(by
    obtain ⟨v,o,q1,q2⟩:=cellOld y c e
    show upd H2 s2.heap.objs.size _ c=none
    rw [yp (below c (Heap.lt_size q1)).2]
    exact I2.freeC y c (hsub y c e)),fun p hp=>(by simp at hp),
   I2.hok.laid old (Nat.le_refl _) ⟨Nat.zero_le _,[],_,.nil,hacc⟩,by show (none :: wl js σ).length=(x :: ys).length; simp [hlen]⟩
 have stat:∀ {H':Hp},(∀ b∈fp,H' b=none)->∀ b∈fp,ycg (X.compF scope ys G.objs.size x s2 H2 fp) [] H' b:=fun hn b hb=>⟨hn b hb,(below b (fpl b hb)).1,fpS b hb,.inl hb,fun y c e=>(f2 b hb).2.2.2.2.1 y c (hsub y c e),fun p hp=>(by simp at hp)⟩
 have loop:∀ tk,codeAny (model X.prog X.w) X.A (.compLoop (.ListComp elt [⟨.Name x px,iter,[],0⟩] scope pos) 0 (.ref it) (.ref s2.heap.objs.size) (compEnvC scope (jb ys X.env) G.objs.size X.env)) (RR (.ref s2.heap.objs.size) G.objs.size) { s2 with heap:=h₁,toks:=tk }:=by
  intro tk
  obtain ⟨W,⟨m0,w0⟩,turn⟩:=h s2.heap.objs.size nD
  refine codeAny_loop rfl (fun n s'=>∃ i v H',Inv (X.compF scope ys G.objs.size x s2 H2 fp) [] (v :: wl js σ) H' s'/\tn i s'.heap/\(∀ b∈fp,H' b=none)/\W i n H') (fun n s' hI=>?_) m0
   ⟨0,none,_,I3 tk,T.keep 0 _ _ st2 (fun b hb o e=>old b o e),fun b hb=>(by rw [yp (below b (fpl b hb)).2]; exact (f2 b hb).1),w0⟩
  obtain ⟨i,v,H',I,st,fr,w⟩:=hI
  show wpAny _ _ ((compTurn (.ListComp elt [⟨.Name x px,iter,[],0⟩] scope pos) 0 (.ref it) (.ref s2.heap.objs.size) (compEnvC scope (jb ys X.env) G.objs.size X.env)).onRaise (fun x=>do noteFrame x (compEnvC scope (jb ys X.env) G.objs.size X.env); theTreesLotGoes x)) _ _ s'
  refine wpAny_noted ?_
  rw [compTurn_list1]
  refine wpAny_bind (wpAny_standAt (wpAny_bind ?_))
  rcases turn i n H' w with ⟨stop,q⟩ | ⟨go,step⟩
  ·refine thn (T.done (X.compF scope ys G.objs.size x s2 H2 fp) rfl rfl rfl hc i [] s' (v :: wl js σ) H' _ I (stat fr) st stop) fun r s4 ⟨hr,I4⟩=>?_
   subst hr
   refine wpAny_pure ?_
   obtain ⟨m,hn,_⟩:=I4.loc
   exact hR _ _ H' s4 m (I2.fpOk hCle I4.free) hn (I2.call' (ch:=fp) I4.os I4.base I4.hok I4.bare fun b hb=>⟨(f2 b hb).2.2.2.1,(f2 b hb).2.1,(f2 b hb).2.2.2.2.1,(f2 b hb).2.2.2.2.2⟩) q
  ·refine thn (T.item (X.compF scope ys G.objs.size x s2 H2 fp) rfl rfl rfl hc i [] s' (v :: wl js σ) H' _ I (stat fr) st go) fun r s4 ⟨u,hr,h4⟩=>?_
   subst hr
   refine wpAny_bind (thn h4 fun _ s5 ⟨y,H5,I5,r5,y5,st5,fr5⟩=>wpAny_bind ?_)
   have I5':=I5.pinned (stat fr5) (T.obj _ _ st5)
   refine wpAny_assign_Name (uw (i:=0) I5' hnd rfl (Or.inl (lookup_relabel_local hx)) r5 (fun s6 I6=>?_) (Or.inr (lookup_relabel_local hx)))
   refine wpAny_bind (wpAny_bind (ynj (he _ _ _ _ _ s6 (some y :: wl js σ) H5 _ I6 (step y H5 y5)) fun u2 s7 ⟨y2,H7,I7,r7,zs,hD,hl,m',hm,w'⟩=>wpAny_bind ?_))
   refine ynj (xh _ s7 (some y :: wl js σ) H7 (.ref s2.heap.objs.size) [y2] (.ref s2.heap.objs.size) [u2] (fun _ H8=>H8=upd H7 s2.heap.objs.size (.lst (zs++[y2]))) I7 rfl (.cons r7 .nil) ⟨_,zs,y2,rfl,rfl,hD,hl,rfl⟩) fun _ s8 ⟨_,H8,I8,_,e8⟩=>?_
   subst e8
   have pin:∀ b∈fp,∀ o,s5.heap.get? b=some o->s8.heap.get? b=some o/\upd H7 s2.heap.objs.size (HO.lst (zs++[y2])) b=none:=fun b hb o e =>
    ⟨(I8.pin (b,o) (List.mem_append_right _ (List.mem_append_right _ (wf hb e)))).1,(I8.pin (b,o) (List.mem_append_right _ (List.mem_append_right _ (wf hb e)))).2.1⟩
   refine wpAny_pure (wpAny_pure ⟨rfl,m',hm,i+1,some y,_,I8.unpinned,T.keep _ _ _ st5 fun b hb o e=>(pin b hb o e).1,fun b hb=>?_,w'⟩)
   obtain ⟨o,e,d⟩:=T.obj _ _ st5 b hb
   exact (pin b hb o e).2
 exact codeAny_compStart_list (loop _) (T.self X.A 0 _ _ _ (T.keep 0 _ _ st2 (fun b hb o e=>old b o e)) (loop _))
theorem jn (hc:X.calm=true) (hi:PI X (.Name x px) iter wi) (he:∀ (C:Addr) (s2:Shared) (H2:Hp) (fp:List Addr),PE (X.compF scope ys C x s2 H2 fp) elt te) (hjs:js.map (fun j=>X.N[j]?)=ys.map some)
  (hclos:closureFor scope X.env=pure (jb ys X.env)) (hnd:(x :: ys).Nodup:=by decide) (hyc:∀ y∈ys,X.env.kindOf y=some .cell) (hrel:∀ y∈ys,(relabel scope X.env).names.lookup y=some .cell)
  (hfr:∀ y∈scope.names,y.2=.free->y.1∈ys:=by decide +kernel) (hcell:∀ y∈scope.names,y.2≠.cell:=by decide +kernel) (hkind:scope.kind=.function:=by rfl)
  (hnames:∀ y∈scope.names,y.2=.local->scope.names.lookup y.1=some .local:=by decide +kernel) (hx:scope.names.lookup x=some .local:=by rfl) (hs:∀ x,foldedSetIterable iter X.env x=pure x:=by intro _; rfl) :
  PE X (.ListComp elt [⟨.Name x px,iter,[],0⟩] scope pos) (ymj wi te js):=by
 intro pins s σ H Q I h
 rw [eval_ListComp]
 refine wpAny_comprehension_free (use:=none) rfl hs hclos hkind hnames (thn (hi pins s σ H _ I h) fun v s1 h1=>thn h1 fun itv s2 h2=>?_)
 obtain ⟨it,fp,tn,J,H2,e,I2,T,st2,f2,h⟩:=h2
 subst e
 refine ycu (R:=fun D H'=>Q (.ref D) H') (RR:=compPost (model X.prog X.w) X.A X.xe none (EP X pins σ Q)) hc he hcell hkind hx hnd hfr hyc hrel hjs I2 T st2 f2 h ?_
 intro D C H' s' m f hn I' q
 refine ⟨m,hn,fun h' sb=>⟨.ref D,H',?_,rfl,q⟩⟩
 exact I'.turned (t':=s'.toks) (fun b o hb e=>sb.extBut b o hb e) f.1 f.2.1 f.2.2.2.1 f.2.2.2.2.1 f.2.2.2.2.2
theorem yno {i:Nat} {y:Str} {py spos:Pos} (hN:X.N.Nodup) (hy:X.N[i]?=some y) (hl:X.env.scope.names.lookup y=some .local) (hc:X.calm=true) (hi:PI X (.Name x px) iter wi)
  (he:∀ (C:Addr) (s2:Shared) (H2:Hp) (fp:List Addr),PE (X.compF scope ys C x s2 H2 fp) elt te) (hjs:js.map (fun j=>X.N[j]?)=ys.map some)
  (hclos:closureFor scope X.env=pure (jb ys X.env)) (hyc:∀ y∈ys,X.env.kindOf y=some .cell) (hrel:∀ y∈ys,(relabel scope X.env).names.lookup y=some .cell)
  (hsw:swapsWith (.ListComp elt [⟨.Name x px,iter,[],0⟩] scope pos) (some (.Name y py)) spos.line X.env=pure true:=by rfl) (hnd:(x :: ys).Nodup:=by decide)
  (hfr:∀ y∈scope.names,y.2=.free->y.1∈ys:=by decide +kernel) (hcell:∀ y∈scope.names,y.2≠.cell:=by decide +kernel) (hkind:scope.kind=.function:=by rfl)
  (hnames:∀ y∈scope.names,y.2=.local->scope.names.lookup y.1=some .local:=by decide +kernel) (hx:scope.names.lookup x=some .local:=by rfl) (hs:∀ x,foldedSetIterable iter X.env x=pure x:=by intro _; rfl) :
  PS X (.Assign [.Name y py] (.ListComp elt [⟨.Name x px,iter,[],0⟩] scope pos) spos) (yvz (ymj wi te js) (xk i)):=by
 intro pins s σ H D0 I h
 rw [exec_Assign_Name_used _ _ _ _ hsw]
 refine wpAny_bind (wpAny_standAt (wpAny_bind ?_))
 show wpAny _ X.A (do let _ <- comprehension (.ListComp elt [⟨.Name x px,iter,[],0⟩] scope pos) scope X.env _ (newList []) false (eval iter X.env) (some (assign (.Name y py) X.env))) _ _ s
 refine wpAny_bind (wpAny_mono (wpAny_comprehension_free (use:=some (assign (.Name y py) X.env)) (Q:=fun _ s'=>SP X pins D0 .next s') rfl hs hclos hkind hnames (thn (hi pins s σ H _ I h) fun v s1 h1=>thn h1 fun itv s2 h2=>?_)) (fun _ s' hq=>wpAny_pure (wpAny_pure hq)) fun _ _ e=>e)
 obtain ⟨it,fp,tn,J,H2,e,I2,T,st2,f2,h⟩:=h2
 subst e
 refine ycu (R:=fun D H'=>xk i (.ref D) σ H' D0.nx) (RR:=compPost (model X.prog X.w) X.A X.xe (some (assign (.Name y py) X.env)) (fun _ s'=>SP X pins D0 .next s')) hc he hcell hkind hx hnd hfr hyc hrel hjs I2 T st2 f2 h ?_
 intro D C H' s' m f hn I' q
 refine wpAny_assign_Name (yac (v:=V.ref D) I' hN hy (Or.inl hl) rfl (fun s'' I'' k''=>?_) (Or.inr hl))
 refine ⟨m,?_,fun h' sb=>⟨_,H',?_,q⟩⟩
 ·obtain ⟨b,sb,hb⟩:=k''
  refine hn.sameBut sb fun z=>?_
  rcases hb with hb | hb
  ·exact f.2.1 (z.trans hb)
  ·exact f.2.2.2.2.1 y b hb z.symm
 ·exact I''.turned (t':=s''.toks) (fun b o hb e=>sb.extBut b o hb e) f.1 f.2.1 f.2.2.2.1 f.2.2.2.2.1 f.2.2.2.2.2
theorem yst {H:Hp} {Q:VK} (h:wi σ H fun J H1=>∀ D,H1 D=none->j5 J te (wl js σ) D (fun H2=>Q (.ref D) H2) H1):ymj wi te js σ H Q:=h
theorem yau {K:W.Frag} {a D:Addr} {xs:List V} {te:TE} {fr:St} {R:Hp->Prop} {H1:Hp} (Pv:Nat->Hp->Prop) (h0:Pv 0 (upd H1 D (.lst []))) (hl:∀ i H,i <= xs.length->Pv i H->SqL K H a xs)
  (hs:∀ i x H,xs[i]?=some x->i < xs.length->Pv i H->te (some x :: fr) H fun y H4=>∃ ys,H4 D=some (.lst ys)/\ys.length < sizeLine/\∃ m',m' < xs.length - i/\cW xs.length Pv (i+1) m' (upd H4 D (.lst (ys++[y]))))
  (hd:∀ H,Pv xs.length H->R H):j5 (Itl K a) te fr D R H1:=by
 refine ⟨cW xs.length Pv,⟨xs.length,by simp,Nat.zero_le _,h0⟩,?_⟩
 rintro i m H ⟨rfl,hi,p⟩
 have q:=hl i H hi p
 by_cases hlt:i < xs.length
 ·refine .inr ⟨⟨xs,xs[i],q,by simp [hlt]⟩,fun x H' y=>?_⟩
  obtain ⟨e,y⟩:=y
  subst e
  exact hs i x _ (y xs q) hlt p
 ·have e:i=xs.length:=by omega
  subst e
  exact .inl ⟨⟨xs,q,Nat.le_refl _⟩,hd H p⟩
end
end L2
namespace L2
theorem vj {α:Type} {P:α->Prop}:∀ y∈([]:List α),P y:=fun _ h=>nomatch h
theorem all_cons {α:Type} {P:α->Prop} {y:α} {r:List α} (h:P y) (t:∀ z∈r,P z):∀ z∈y :: r,P z:=fun z hz=>by
 rcases List.mem_cons.mp hz with e | hz
 ·exact e ▸ h
 ·exact t z hz
end L2
namespace L2
open PySem PySem.Spec PyProof.Rows
section
variable {prog:Program} {w:World} {A:Around} {E:Value->Shared->Prop} {s:Shared}
end
section
variable {X:Cx}
theorem yh3:∀ {ns:List Int} {us:List Value},wz (ns.map V.int) us->∃ xs:Array (Int × Tok),us.toArray=intItems xs/\xs.toList.map (·.1)=ns
 | [],_,.nil=>⟨#[],by simp [intItems],rfl⟩
 | n :: r,_,.cons (l₂:=us) a t=>by
  obtain ⟨tk,rfl⟩:=a
  obtain ⟨xs,e1,e2⟩:=yh3 t
  refine ⟨((n,tk) :: xs.toList).toArray,?_,by simp [e2]⟩
  have:us=(intItems xs).toList:=by rw [<- e1]
  rw [this]
  simp [intItems]
theorem yah (hc:X.calm=true):ybb X (.builtin "sum") (fun vs H Q=>∃ p ns,vs=[.ref p]/\SqL X.K H p (List.map V.int ns)/\Q (.int ns.sum) H):=by
 intro pins s σ H xs us Q I r h
 obtain ⟨p,ns,rfl,hq,q⟩:=h
 obtain ⟨u,rfl,rx⟩:=ynf r
 cases rx
 obtain ⟨its,r',pl,hz⟩:=I.list hq
 obtain ⟨ys,e1,e2⟩:=yh3 r'
 have hl:s.heap.IsList p (intItems ys):=e1 ▸ pl.isList
 refine sum_intListG (I.ok.hd hc) hl fun h' tk t' hk=>?_
 rw [preSum_eq,List.take_of_length_le (by simp),e2]
 exact ⟨.int ns.sum,H,I.kept (t':=tk) hk,⟨_,rfl⟩,q⟩
end
end L2
namespace L2
open PySem PySem.Spec PyProof.Rows
section
variable {X:Cx} {e:Expr} {t1 t2:TE}
def yvy (t1 t2:TE):TE:=fun σ H Q=>t1 σ H Q\/t2 σ H Q
theorem yia (h1:PE X e t1) (h2:PE X e t2):PE X e (yvy t1 t2):=by
 intro pins s σ H Q I h
 rcases h with h | h
 ·exact h1 pins s σ H Q I h
 ·exact h2 pins s σ H Q I h
theorem yif {σ:St} {H:Hp} {Q:VK} (h:t1 σ H Q):yvy t1 t2 σ H Q:=.inl h
theorem ycx {σ:St} {H:Hp} {Q:VK} (h:t2 σ H Q):yvy t1 t2 σ H Q:=.inr h
end
theorem yk {H:Hp} {p:Addr} {o:HO} {A:Hp->Prop} (hp:H p=none) (h:∀ H',vi H H'->H' p=some o->A H'):A (upd H p o):=h _ (vh hp) yc
theorem yh {α:Type} {H:Hp} {p:Addr} {o:HO} {A:Hp->α->Prop} {Q:α} (hp:H p=none) (h:∀ H',vi H H'->H' p=some o->A H' Q):A (upd H p o) Q:=h _ (vh hp) yc
section
variable {K:W.Frag} {a D:Addr} {xs:List V} {te:TE} {fr:St} {R:Hp->Prop} {H1:Hp}
theorem yfd (Pv:Nat->Hp->Prop) (h0:Pv 0 (upd H1 D (.lst []))) (hl:∀ i H,i <= xs.length->Pv i H->SqT K H a xs)
  (hs:∀ i x H,xs[i]?=some x->i < xs.length->Pv i H->te (some x :: fr) H fun y H4=>∃ ys,H4 D=some (.lst ys)/\ys.length < sizeLine/\∃ m',m' < xs.length - i/\cW xs.length Pv (i+1) m' (upd H4 D (.lst (ys++[y]))))
  (hd:∀ H,Pv xs.length H->R H):j5 (Itt K a) te fr D R H1:=by
 refine ⟨cW xs.length Pv,⟨xs.length,by simp,Nat.zero_le _,h0⟩,?_⟩
 rintro i m H ⟨rfl,hi,p⟩
 have q:=hl i H hi p
 by_cases hlt:i < xs.length
 ·refine .inr ⟨⟨xs,xs[i],q,by simp [hlt]⟩,fun x H' y=>?_⟩
  obtain ⟨e,y⟩:=y
  subst e
  exact hs i x _ (y xs q) hlt p
 ·have e:i=xs.length:=by omega
  subst e
  exact .inl ⟨⟨xs,q,Nat.le_refl _⟩,hd H p⟩
theorem yoc (Pv:Nat->Hp->Prop) (h0:Pv 0 (upd H1 D (.lst []))) (hl:∀ i H,i <= xs.length->Pv i H->SqT K H a xs)
  (hs:∀ i x H,xs[i]?=some x->i < xs.length->Pv i H->te [some x] H fun y H4=>∃ ys,H4 D=some (.lst ys)/\ys.length < sizeLine/\∃ m',m' < xs.length - i/\cW xs.length Pv (i+1) m' (upd H4 D (.lst (ys++[y]))))
  (hd:∀ H,Pv xs.length H->R H):yan (Itt K a) te D R H1:=by
 refine ⟨cW xs.length Pv,⟨xs.length,by simp,Nat.zero_le _,h0⟩,?_⟩
 rintro i m H ⟨rfl,hi,p⟩
 have q:=hl i H hi p
 by_cases hlt:i < xs.length
 ·refine .inr ⟨⟨xs,xs[i],q,by simp [hlt]⟩,fun x H' y=>?_⟩
  obtain ⟨e,y⟩:=y
  subst e
  exact hs i x _ (y xs q) hlt p
 ·have e:i=xs.length:=by omega
  subst e
  exact .inl ⟨⟨xs,q,Nat.le_refl _⟩,hd H p⟩
def Mp (H1:Hp) (D:Addr) (f:Nat->V) (i:Nat) (H:Hp):Prop:=vi H1 H/\H D=some (.lst ((List.range i).map f))
theorem Mp.zero {f:Nat->V} (hD:H1 D=none):Mp H1 D f 0 (upd H1 D (.lst [])):=⟨vh hD,yc⟩
theorem Mp.step {f:Nat->V} {n i:Nat} {H4:Hp} {y:V} (hD:H1 D=none) (hn:n < sizeLine) (hi:i < n) (S:vi H1 H4) (h4:H4 D=some (.lst ((List.range i).map f))) (e:y=f i) :
  ∃ ys,H4 D=some (.lst ys)/\ys.length < sizeLine/\∃ m',m' < n - i/\cW n (Mp H1 D f) (i+1) m' (upd H4 D (.lst (ys++[y]))):=by
 refine xz (n:=n) h4 (by rw [List.length_map,List.length_range]; omega) hi ⟨?_,?_⟩
 ·intro b o hb
  rw [yp (ye hb hD)]
  exact S b o hb
 ·rw [yc,List.range_succ,List.map_append,e]
  rfl
theorem yb3 {f:Nat->V} {g:V->V} {xs:List V} (h:∀ i x,xs[i]?=some x->f i=g x):(List.range xs.length).map f=xs.map g:=by
 refine List.ext_getElem? fun i=>?_
 rw [List.getElem?_map,List.getElem?_map]
 by_cases hi:i < xs.length
 ·rw [List.getElem?_range hi,List.getElem?_eq_getElem hi]
  show some (f i)=some (g xs[i])
  rw [h i _ (List.getElem?_eq_getElem hi)]
 ·rw [List.getElem?_eq_none (by rw [List.length_range]; omega),List.getElem?_eq_none (by omega)]
  rfl
def ofG (g:V->V) (xs:List V) (i:Nat):V:=((xs[i]?).map g).getD .non
theorem yiq {g:V->V} {xs:List V} {i:Nat} {x:V} (h:xs[i]?=some x):ofG g xs i=g x:=by
 unfold ofG
 rw [h]
 rfl
def MpK (H1:Hp) (D:Addr) (f:Nat->V) (n i:Nat):VK:=fun y H4=>∃ ys,H4 D=some (.lst ys)/\ys.length < sizeLine/\∃ m',m' < n - i/\cW n (Mp H1 D f) (i+1) m' (upd H4 D (.lst (ys++[y])))
theorem Mp.done {g:V->V} {i:Nat} {x y:V} {H4:Hp} (hD:H1 D=none) (hn:xs.length < sizeLine) (hx:xs[i]?=some x) (S:vi H1 H4) (h4:H4 D=some (.lst ((List.range i).map (ofG g xs)))) (e:y=g x):MpK H1 D (ofG g xs) xs.length i y H4:=by
 have hi:i < xs.length:=by
  rcases Nat.lt_or_ge i xs.length with q | q
  ·exact q
  ·rw [List.getElem?_eq_none q] at hx; cases hx
 exact Mp.step hD hn hi S h4 (e.trans (yiq hx).symm)
theorem Mp.doneR {f:Nat->V} {n i:Nat} {y:V} {H4:Hp} (hD:H1 D=none) (hn:n < sizeLine) (hi:i < n) (S:vi H1 H4) (h4:H4 D=some (.lst ((List.range i).map f))) (e:y=f i):MpK H1 D f n i y H4:=Mp.step hD hn hi S h4 e
theorem ybx (g:V->V) (hq:SqL K H1 a xs) (hD:H1 D=none)
  (hs:∀ i x H,xs[i]?=some x->vi H1 H->H D=some (.lst ((List.range i).map (ofG g xs)))->te (some x :: fr) H (MpK H1 D (ofG g xs) xs.length i))
  (hd:∀ H,vi H1 H->H D=some (.lst (xs.map g))->R H):j5 (Itl K a) te fr D R H1 :=
 yau (Mp H1 D (ofG g xs)) (Mp.zero hD) (fun _ _ _ p=>p.1.seq hq) (fun i x H hx hi p=>hs i x H hx p.1 p.2)
  fun H p=>hd H p.1 (by rw [<- yb3 (f:=ofG g xs) fun i x=>yiq]; exact p.2)
theorem ycs (g:V->V) (hq:SqT K H1 a xs) (hD:H1 D=none)
  (hs:∀ i x H,xs[i]?=some x->vi H1 H->H D=some (.lst ((List.range i).map (ofG g xs)))->te (some x :: fr) H (MpK H1 D (ofG g xs) xs.length i))
  (hd:∀ H,vi H1 H->H D=some (.lst (xs.map g))->R H):j5 (Itt K a) te fr D R H1 :=
 yfd (Mp H1 D (ofG g xs)) (Mp.zero hD) (fun _ _ _ p=>p.1.tup hq) (fun i x H hx hi p=>hs i x H hx p.1 p.2)
  fun H p=>hd H p.1 (by rw [<- yb3 (f:=ofG g xs) fun i x=>yiq]; exact p.2)
theorem yk7 (g:V->V) (hq:SqT K H1 a xs) (hD:H1 D=none)
  (hs:∀ i x H,xs[i]?=some x->vi H1 H->H D=some (.lst ((List.range i).map (ofG g xs)))->te [some x] H (MpK H1 D (ofG g xs) xs.length i))
  (hd:∀ H,vi H1 H->H D=some (.lst (xs.map g))->R H):yan (Itt K a) te D R H1 :=
 yoc (Mp H1 D (ofG g xs)) (Mp.zero hD) (fun _ _ _ p=>p.1.tup hq) (fun i x H hx hi p=>hs i x H hx p.1 p.2)
  fun H p=>hd H p.1 (by rw [<- yb3 (f:=ofG g xs) fun i x=>yiq]; exact p.2)
theorem yr2 {tr:TA} {σ:St} {H:Hp} {R:It->Hp->Prop} (h:tr σ H fun vs H1=>∃ i j:Int,vs=[.int i,.int j]/\(-(2 ^ 62) <= i/\i < 2 ^ 62/\-(2 ^ 62) <= j/\j < 2 ^ 62)/\R (Itr i (j - i).toNat) H1):var tr σ H R:=h
end
structure Mk0 (K:W.Frag) (C:Addr):Prop where
 makes:W.makesIn K C=true
 init:W.findIn K (.ref C) "__init__"=some (some (.builtin "object.__init__"))
 kp:W.keepIn K (.ref C)=true
end L2
namespace L2
open PySem PySem.Spec PyProof.Rows
end L2
namespace L2
open PySem PySem.Spec PyProof.Rows
abbrev Cx.compT (X:Cx) (scope:Scope) (ys:List Str) (C:Addr) (xs:List Str) (s2:Shared) (H2:Hp) (fp:List Addr):Cx :=
 { X with N:=xs++ys,s₀:=s2,H₀:=H2,env:=compEnvC scope (jb ys X.env) C X.env,outer:=X.stack,ex:=fp,fn:=fun _=>false,pn:=[],xe:=fun _ _=>False }
def yax (J:It) (g:TG) (te:TE) (n:Nat) (fr:St) (D:Addr) (R:Hp->Prop) (H1:Hp):Prop:=∃ W:Nat->Nat->Hp->Prop,(∃ m,W 0 m (upd H1 D (.lst []))) /\
 ∀ i m H2,W i m H2->(J.stop i H2/\R H2)\/(J.go i H2/\∀ x H3 pre,J.yld i H2 x H3->List.length pre=n->g x (pre++fr) H3 fun σ' H'=>(∃ pre',List.length pre'=n/\σ'=pre'++fr)/\te σ' H' fun y H4=>∃ ys,H4 D=some (.lst ys)/\ys.length < sizeLine/\∃ m',m' < m/\W (i+1) m' (upd H4 D (.lst (ys++[y]))))
def ymw (wi:TI) (g:TG) (te:TE) (n:Nat) (js:List Nat):TE:=fun σ H Q=>wi σ H fun J H1=>∀ D,H1 D=none->yax J g te n (wl js σ) D (fun H2=>Q (.ref D) H2) H1
section
variable {X:Cx} {iter elt tg:Expr} {xs:List Str} {g:TG} {pos:Pos} {scope:Scope} {te:TE} {wi:TI} {pins:List (Addr × Obj)} {σ:St} {ys:List Str} {js:List Nat}
theorem ycr {s2:Shared} {H2:Hp} {it:Addr} {fp:List Addr} {tn:Nat->Heap->Prop} {J:It} (hc:X.calm=true)
  (he:∀ (C:Addr) (s2:Shared) (H2:Hp) (fp:List Addr),PE (X.compT scope ys C xs s2 H2 fp) elt te)
  (hgt:∀ (C:Addr) (s2:Shared) (H2:Hp) (fp:List Addr),PG (X.compT scope ys C xs s2 H2 fp) tg g)
  (hcell:∀ y∈scope.names,y.2≠.cell) (hkind:scope.kind=.function)
  (hfr:∀ y∈scope.names,y.2=.free->y.1∈ys) (hyc:∀ y∈ys,X.env.kindOf y=some .cell) (hrel:∀ y∈ys,(relabel scope X.env).names.lookup y=some .cell) (hjs:js.map (fun j=>X.N[j]?)=ys.map some)
  (I2:Inv X pins σ H2 s2) (T:ynh X.prog X.w X.K tg J fp it tn) (st2:tn 0 s2.heap) (f2:∀ b∈fp,ycg X pins H2 b)
  {R:Addr->Hp->Prop} (h:∀ D,H2 D=none->yax J g te xs.length (wl js σ) D (R D) H2) {RR:Value->Addr->Result->Shared->Prop} {E:Value->Shared->Prop}
  (hR:∀ (D C:Addr) (H':Hp) (s':Shared) (m:Str->Option Value),ycg X pins H' C->s'.heap.Ns C m->Inv X pins σ H' s'->R D H'->RR (.ref D) C (.ok .next) s') :
  wpAny (model X.prog X.w) X.A (newList []) (fun acc s₃=>wpAny (model X.prog X.w) X.A (newFunctionEnv scope X.env.globals (jb ys X.env) [] X.env.qual none .none (some X.env)) (fun cenv s₄ =>
   codeAny (model X.prog X.w) X.A (.compStart (.ListComp elt [⟨tg,iter,[],0⟩] scope pos) 0 (.ref it) acc { cenv with scope:=relabel scope X.env }) (RR acc cenv.locals) s₄) E s₃) E s2:=by
 have hsub:∀ y c,(jb ys X.env).lookup y=some c->X.env.cells.lookup y=some c:=fun y c e=>by
  obtain ⟨m,rfl⟩:=ybj e
  obtain ⟨c',q⟩:=I2.ok.has y (.inl (hyc y m))
  rw [q]
  rfl
 refine wpAny_newObj_type (wpAny_newFunctionEnv hcell (by intro y hy; simp at hy) (fun h₁ hns₁ hsb₁=>?_) hkind)
 dsimp only at hns₁ hsb₁ ⊢
 generalize hH2:s2.heap.push { cls:=.type "list",dict:=none,data:=.seq ([]:List Value).toArray }=G at hns₁ hsb₁ ⊢
 have hC:G.objs.size=s2.heap.objs.size+1:=by rw [<- hH2,Heap.size_push]
 have hDC:s2.heap.objs.size≠G.objs.size:=by rw [hC]; exact Nat.ne_of_lt (Nat.lt_succ_self _)
 have hCle:s2.heap.objs.size <= G.objs.size:=by rw [hC]; exact Nat.le_succ _
 have below:∀ b,b < s2.heap.objs.size->b≠G.objs.size/\b≠s2.heap.objs.size:=fun b hb=>⟨by rw [hC]; exact Nat.ne_of_lt (Nat.lt_succ_of_lt hb),Nat.ne_of_lt hb⟩
 have old:∀ b o,s2.heap.get? b=some o->h₁.get? b=some o:=fun b o e=>hsb₁.extBut b o (below b (Heap.lt_size e)).1 (Heap.get?_push_of_some _ (hH2 ▸ Heap.get?_push_of_some _ e))
 have hacc:h₁.get? s2.heap.objs.size=some { cls:=.type "list",data:=.seq ([]:List Value).toArray }:=hsb₁.extBut _ _ hDC (Heap.get?_push_of_some _ (hH2 ▸ Heap.get?_push_size _ rfl))
 have fpl:∀ b∈fp,b < s2.heap.objs.size:=fun b hb=>let ⟨_,e,_⟩:=T.obj 0 _ st2 b hb; Heap.lt_size e
 have fpS:∀ b∈fp,b∉frs X.stack:=fun b hb z=>(List.mem_cons.mp (I2.stkSub b z)).elim (f2 b hb).2.1 (f2 b hb).2.2.1
 have nC:H2 G.objs.size=none:=I2.hok.fresh hCle
 have nD:H2 s2.heap.objs.size=none:=I2.hok.fresh (Nat.le_refl _)
 have cellOld:∀ y c,(jb ys X.env).lookup y=some c->∃ v o,s2.heap.get? c=some o/\o.data=.cell v:=fun y c e=>by
  obtain ⟨v,o,q1,q2⟩:=I2.cell y c (hsub y c e)
  exact ⟨v,o,q1,q2⟩
 have okC:(X.compT scope ys G.objs.size xs s2 H2 fp).Ok:=by
  refine ⟨I2.ok.mod,hkind,I2.ok.glob,I2.ok.blt,hCle,fun y z c e e'=>I2.ok.inj y z c (hsub y c e) (hsub z c e'),fun y e=>?_,fun y c z e=>(by cases z),I2.ok.hd,I2.ok.frames,.inl rfl,fun b hb=>⟨(below b (fpl b hb)).1,fun y c e=>(f2 b hb).2.2.2.2.1 y c (hsub y c e)⟩,I2.bs,?_,fun b o e hb=>?_,fun b hb=>fpS b hb,I2.stack,I2.stkFree⟩
  ·have e':(relabel scope X.env).names.lookup y=some .cell\/(relabel scope X.env).names.lookup y=some .free:=e
   have hin:y∈ys:=by
    rcases e' with e' | e'
    ·obtain ⟨k0,m,q⟩:=w4 e'
     rcases q with q | q
     ·exact absurd q.symm (hcell _ m)
     ·exact hfr _ m q
    ·obtain ⟨k0,m,q⟩:=w4 e'
     rcases q with q | q
     ·exact hfr _ m q.symm
     ·exact hfr _ m q
   exact ⟨_,zr hin⟩
  ·exact Nat.le_trans I2.ok.bsz I2.sz
  ·rcases (f2 b hb).2.2.2.1 with z | z
   ·exact I2.ok.noex b o e z
   ·exact absurd (Nat.lt_of_lt_of_le (Heap.lt_size (I2.ok.bs b o e).1) z) (Nat.lt_irrefl _)
 have hlen:(wl js σ).length=ys.length:=by
  have:=congrArg List.length hjs
  simpa [wl] using this
 have I3:∀ tk,Inv (X.compT scope ys G.objs.size xs s2 H2 fp) [] (List.replicate xs.length none++wl js σ) (upd H2 s2.heap.objs.size (.lst [])) { s2 with heap:=h₁,toks:=tk }:=fun tk =>
  ⟨okC,rfl,I2.bare,Un.laid old (Nat.le_refl _) nD,⟨_,hns₁,fun i y v e1 e2 e3=>by
    by_cases hi0:i < xs.length
    ·rw [List.getElem?_append_left (by simpa using hi0),List.getElem?_replicate,if_pos hi0] at e2
     cases e2
    ·obtain ⟨i,rfl⟩:∃ i',i=xs.length+i':=⟨i - xs.length,by omega⟩
     have e1:ys[i]?=some y:=by rw [List.getElem?_append_right (by omega)] at e1; simpa using e1
     have e2:(wl js σ)[i]?=some (some v):=by rw [List.getElem?_append_right (by simp)] at e2; simpa using e2
     have hy:y∈ys:=List.mem_of_getElem? e1
     have ej:=congrArg (fun l=>l[i]?) hjs
     simp only [List.getElem?_map,e1,Option.map_some] at ej
     cases q:js[i]? with
     | none=>rw [q] at ej; cases ej
     | some j =>
      rw [q] at ej
      have ej:X.N[j]?=some y:=by simpa using ej
      have es:σ[j]?=some (some v):=by
       simp only [wl,List.getElem?_map,q,Option.map_some,Option.some.injEq] at e2
       cases r:σ[j]? with
       | none=>rw [r] at e2; cases e2
       | some w'=>rw [r] at e2; rw [show w'=some v from e2]
      obtain ⟨m0,_,hl0⟩:=I2.loc
      obtain ⟨u,ru,lk⟩:=hl0 j y v ej es (.inr (.inl (hyc y hy)))
      refine ⟨u,ru,.inr ⟨.inl (hrel y hy),?_⟩⟩
      rcases lk with ⟨k1,_⟩ | ⟨_,c,ec,o,ho,hd⟩
      ·rw [hyc y hy] at k1; cases k1
      ·refine ⟨c,?_,o,old c o ho,hd⟩
       show (jb ys X.env).lookup y=some c
       rw [zr hy,ec]
       rfl⟩,fun y c e=>(by
    obtain ⟨v,o,q1,q2⟩:=cellOld y c e
    exact ⟨v,o,old c o q1,q2⟩),(by show upd H2 s2.heap.objs.size _ G.objs.size=none; rw [yp hDC.symm]; exact nC),fun y c e=>(by
    obtain ⟨v,o,q1,q2⟩:=cellOld y c e
    show upd H2 s2.heap.objs.size _ c=none
    rw [yp (below c (Heap.lt_size q1)).2]
    exact I2.freeC y c (hsub y c e)),fun p hp=>(by simp at hp),
   I2.hok.laid old (Nat.le_refl _) ⟨Nat.zero_le _,[],_,.nil,hacc⟩,by show (List.replicate xs.length none++wl js σ).length=(xs++ys).length; simp [hlen]⟩
 have stat:∀ {H':Hp},(∀ b∈fp,H' b=none)->∀ b∈fp,ycg (X.compT scope ys G.objs.size xs s2 H2 fp) [] H' b:=fun hn b hb=>⟨hn b hb,(below b (fpl b hb)).1,fpS b hb,.inl hb,fun y c e=>(f2 b hb).2.2.2.2.1 y c (hsub y c e),fun p hp=>(by simp at hp)⟩
 have loop:∀ tk,codeAny (model X.prog X.w) X.A (.compLoop (.ListComp elt [⟨tg,iter,[],0⟩] scope pos) 0 (.ref it) (.ref s2.heap.objs.size) (compEnvC scope (jb ys X.env) G.objs.size X.env)) (RR (.ref s2.heap.objs.size) G.objs.size) { s2 with heap:=h₁,toks:=tk }:=by
  intro tk
  obtain ⟨W,⟨m0,w0⟩,turn⟩:=h s2.heap.objs.size nD
  refine codeAny_loop rfl (fun n s'=>∃ i v H',List.length v=xs.length/\Inv (X.compT scope ys G.objs.size xs s2 H2 fp) [] (v++wl js σ) H' s'/\tn i s'.heap/\(∀ b∈fp,H' b=none)/\W i n H') (fun n s' hI=>?_) m0
   ⟨0,List.replicate xs.length none,_,by simp,I3 tk,T.keep 0 _ _ st2 (fun b hb o e=>old b o e),fun b hb=>(by rw [yp (below b (fpl b hb)).2]; exact (f2 b hb).1),w0⟩
  obtain ⟨i,v,H',hv,I,st,fr,w⟩:=hI
  show wpAny _ _ ((compTurn (.ListComp elt [⟨tg,iter,[],0⟩] scope pos) 0 (.ref it) (.ref s2.heap.objs.size) (compEnvC scope (jb ys X.env) G.objs.size X.env)).onRaise (fun x=>do noteFrame x (compEnvC scope (jb ys X.env) G.objs.size X.env); theTreesLotGoes x)) _ _ s'
  refine wpAny_noted ?_
  rw [compTurn_list1]
  refine wpAny_bind (wpAny_standAt (wpAny_bind ?_))
  rcases turn i n H' w with ⟨stop,q⟩ | ⟨go,step⟩
  ·refine thn (T.done (X.compT scope ys G.objs.size xs s2 H2 fp) rfl rfl rfl hc i [] s' (v++wl js σ) H' _ I (stat fr) st stop) fun r s4 ⟨hr,I4⟩=>?_
   subst hr
   refine wpAny_pure ?_
   obtain ⟨m,hn,_⟩:=I4.loc
   exact hR _ _ H' s4 m (I2.fpOk hCle I4.free) hn (I2.call' (ch:=fp) I4.os I4.base I4.hok I4.bare fun b hb=>⟨(f2 b hb).2.2.2.1,(f2 b hb).2.1,(f2 b hb).2.2.2.2.1,(f2 b hb).2.2.2.2.2⟩) q
  ·refine thn (T.item (X.compT scope ys G.objs.size xs s2 H2 fp) rfl rfl rfl hc i [] s' (v++wl js σ) H' _ I (stat fr) st go) fun r s4 ⟨u,hr,h4⟩=>?_
   subst hr
   refine wpAny_bind (thn h4 fun _ s5 ⟨y,H5,I5,r5,y5,st5,fr5⟩=>wpAny_bind ?_)
   have I5':=I5.pinned (stat fr5) (T.obj _ _ st5)
   refine ynj (hgt _ _ _ _ _ s5 (v++wl js σ) H5 y u _ I5' r5 (step y H5 v y5 hv)) fun _ s6 ⟨σ',H6,I6,⟨pre',hp',ep⟩,q6⟩=>?_
   subst ep
   refine wpAny_bind (wpAny_bind (ynj (he _ _ _ _ _ s6 (pre'++wl js σ) H6 _ I6 q6) fun u2 s7 ⟨y2,H7,I7,r7,zs,hD,hl,m',hm,w'⟩=>wpAny_bind ?_))
   refine ynj (xh _ s7 (pre'++wl js σ) H7 (.ref s2.heap.objs.size) [y2] (.ref s2.heap.objs.size) [u2] (fun _ H8=>H8=upd H7 s2.heap.objs.size (.lst (zs++[y2]))) I7 rfl (.cons r7 .nil) ⟨_,zs,y2,rfl,rfl,hD,hl,rfl⟩) fun _ s8 ⟨_,H8,I8,_,e8⟩=>?_
   subst e8
   have pin:∀ b∈fp,∀ o,s5.heap.get? b=some o->s8.heap.get? b=some o/\upd H7 s2.heap.objs.size (HO.lst (zs++[y2])) b=none:=fun b hb o e =>
    ⟨(I8.pin (b,o) (List.mem_append_right _ (List.mem_append_right _ (wf hb e)))).1,(I8.pin (b,o) (List.mem_append_right _ (List.mem_append_right _ (wf hb e)))).2.1⟩
   refine wpAny_pure (wpAny_pure ⟨rfl,m',hm,i+1,pre',_,hp',I8.unpinned,T.keep _ _ _ st5 fun b hb o e=>(pin b hb o e).1,fun b hb=>?_,w'⟩)
   obtain ⟨o,e,d⟩:=T.obj _ _ st5 b hb
   exact (pin b hb o e).2
 exact codeAny_compStart_list (loop _) (T.self X.A 0 _ _ _ (T.keep 0 _ _ st2 (fun b hb o e=>old b o e)) (loop _))
theorem yhm (hc:X.calm=true) (hi:PI X tg iter wi) (he:∀ (C:Addr) (s2:Shared) (H2:Hp) (fp:List Addr),PE (X.compT scope ys C xs s2 H2 fp) elt te) (hjs:js.map (fun j=>X.N[j]?)=ys.map some)
  (hgt:∀ (C:Addr) (s2:Shared) (H2:Hp) (fp:List Addr),PG (X.compT scope ys C xs s2 H2 fp) tg g)
  (hclos:closureFor scope X.env=pure (jb ys X.env)) (hyc:∀ y∈ys,X.env.kindOf y=some .cell) (hrel:∀ y∈ys,(relabel scope X.env).names.lookup y=some .cell)
  (hfr:∀ y∈scope.names,y.2=.free->y.1∈ys:=by decide +kernel) (hcell:∀ y∈scope.names,y.2≠.cell:=by decide +kernel) (hkind:scope.kind=.function:=by rfl)
  (hnames:∀ y∈scope.names,y.2=.local->scope.names.lookup y.1=some .local:=by decide +kernel) (hs:∀ x,foldedSetIterable iter X.env x=pure x:=by intro _; rfl) :
  PE X (.ListComp elt [⟨tg,iter,[],0⟩] scope pos) (ymw wi g te xs.length js):=by
 intro pins s σ H Q I h
 rw [eval_ListComp]
 refine wpAny_comprehension_free (use:=none) rfl hs hclos hkind hnames (thn (hi pins s σ H _ I h) fun v s1 h1=>thn h1 fun itv s2 h2=>?_)
 obtain ⟨it,fp,tn,J,H2,e,I2,T,st2,f2,h⟩:=h2
 subst e
 refine ycr (R:=fun D H'=>Q (.ref D) H') (RR:=compPost (model X.prog X.w) X.A X.xe none (EP X pins σ Q)) hc he hgt hcell hkind hfr hyc hrel hjs I2 T st2 f2 h ?_
 intro D C H' s' m f hn I' q
 refine ⟨m,hn,fun h' sb=>⟨.ref D,H',?_,rfl,q⟩⟩
 exact I'.turned (t':=s'.toks) (fun b o hb e=>sb.extBut b o hb e) f.1 f.2.1 f.2.2.2.1 f.2.2.2.2.1 f.2.2.2.2.2
theorem yts {H:Hp} {Q:VK} {n:Nat} (h:wi σ H fun J H1=>∀ D,H1 D=none->yax J g te n (wl js σ) D (fun H2=>Q (.ref D) H2) H1):ymw wi g te n js σ H Q:=h
end
end L2
namespace L2
open PySem PySem.Spec PyProof.Rows
section
variable {X:Cx} {tg:Expr}
end
section
variable {prog:Program} {w:World} {A:Around} {E:Value->Shared->Prop} {s:Shared}
theorem jy {it l:Addr} {i:Nat} {items} {x:Value} {Q:Value->Shared->Prop} (hit:s.heap.IsTupleIter it l i) (hl:s.heap.IsTuple l items) (hx:items[i]?=some x)
  (hQ:∀ h',h'.IsTupleIter it l (i+1)->Heap.SameBut it s.heap h'->Q x { s with heap:=h' }):wpAny (model prog w) A (Builtin.SmallTypes.nextOf (.ref it)) Q E s:=by
 obtain ⟨ob,hob,hcl,hdt⟩:=id hit
 obtain ⟨ol,hol,_,nl,hdl⟩:=hl
 unfold Builtin.SmallTypes.nextOf
 refine wpAny_bind (wpAny_callSpecial?_slot (name:=Str.ofString "__next__") hit.typeIs slot_tupleiter_next (wpAny_call_entry slot_tupleiter_next hit.typeIs entry_tupleiter_next ?_ (args_tupleiter_next _)))
 show wpAny _ _ (field (.ref it) 0 >>= _) _ _ s
 refine wpAny_bind (wpAny_field hob hdt (x:=.ref l) rfl ?_)
 show wpAny _ _ (if (Value.ref l == Value.none)=true then _ else _) _ _ s
 rw [if_neg (show ¬ ((Value.ref l == Value.none)=true) from Bool.false_ne_true)]
 show wpAny _ _ (field (.ref it) 1 >>= _) _ _ s
 refine wpAny_bind (wpAny_field hob hdt (x:=.int i 0) rfl ?_)
 show wpAny _ _ (seqItems? (.ref l) >>= _) _ _ s
 refine wpAny_bind (wpAny_seqItems hol hdl ?_)
 simp only [Int.toNat_natCast,hx]
 refine wpAny_bind (wpAny_setField hob hdt (by simp) (wpAny_pure ⟨x,rfl,wpAny_pure (hQ _ ⟨_,Heap.get?_update_self _ hob (Obj.isFreed_of_fields (Obj.data_mapFields hdt _)),(Obj.cls_mapFields ..).trans hcl,?_⟩ (Heap.SameBut.update ..))⟩))
 rw [Obj.data_mapFields hdt]
 simp [rawInt]
theorem ybz {it l:Addr} {i:Nat} {items} {Q:Value->Shared->Prop} (hh:A.handled=none) (hit:s.heap.IsTupleIter it l i) (hl:s.heap.IsTuple l items) (hx:items[i]?=none)
  (hE:∀ h' e,Heap.ExtBut it s.heap h'->(∃ o,h'.get? e=some o/\o.cls=.type "StopIteration")->E (.ref e) { s with heap:=h' }):wpAny (model prog w) A (Builtin.SmallTypes.nextOf (.ref it)) Q E s:=by
 obtain ⟨ob,hob,hcl,hdt⟩:=id hit
 obtain ⟨ol,hol,_,nl,hdl⟩:=hl
 unfold Builtin.SmallTypes.nextOf
 refine wpAny_bind (wpAny_callSpecial?_slot (name:=Str.ofString "__next__") hit.typeIs slot_tupleiter_next (wpAny_call_entry slot_tupleiter_next hit.typeIs entry_tupleiter_next ?_ (args_tupleiter_next _)))
 (show wpAny _ _ (field (.ref it) 0 >>= _) _ _ s); refine wpAny_bind (wpAny_field hob hdt (x:=.ref l) rfl ?_)
 (show wpAny _ _ (if (Value.ref l == Value.none)=true then _ else _) _ _ s); rw [if_neg (show ¬ ((Value.ref l == Value.none)=true) from Bool.false_ne_true)]
 (show wpAny _ _ (field (.ref it) 1 >>= _) _ _ s); refine wpAny_bind (wpAny_field hob hdt (x:=.int i 0) rfl ?_)
 (show wpAny _ _ (seqItems? (.ref l) >>= _) _ _ s); refine wpAny_bind (wpAny_seqItems hol hdl ?_)
 simp only [Int.toNat_natCast,hx]; refine wpAny_bind (wpAny_rule (wpAny_bind (wpAny_setField hob hdt (by simp) ?_)))
 (show wpAny _ _ (newExc (.type "StopIteration") [] >>= _) _ _ _); refine wpAny_bind ?_
 simp only [newExc,newTuple]; refine wpAny_bind (wpAny_newObj_type ?_ (by size_fits))
 refine wpAny_bind (m:=firstArgMember _ _) (wpAny_of_eq (a:=Value.none) (by first | rfl | (simp only [firstArgMember]; rfl)) (wpAny_newObj_type ?_ (by size_fits)))
 simp only [raiseNew]; refine wpAny_bind (wpAny_handled ?_)
 (first | rw [show A.in1.handled=none from hh] | rw [hh]); refine wpAny_bind (wpAny_pure (wpAny_throw ?_))
 exact hE _ _ (((Heap.SameBut.update _ ..).extBut.push _).push _) ⟨_,Heap.get?_push_size _ rfl,rfl⟩
end
section
open AutoSeq1 (wpAny_loadPart')
set_option maxRecDepth 100000
end
section
variable {prog:Program} {w:World} {A:Around} {E:Value->Shared->Prop} {s:Shared}
end
section
variable {X:Cx}
end
end L2
namespace L2
open PySem PySem.Spec PyProof.Rows
section
variable {X:Cx} {tg:Expr}
end
end L2
namespace L2
section
variable {σ:St} {H:Hp} {Q:VK} {td ty tx tv:TE}
theorem yx7 (h:td σ H fun x H1=>ty σ H1 fun y H2=>∃ a v,x=.ref a/\yng H2 a y (some v)/\Q v H2):vax td ty σ H Q:=h
theorem yos (h:ty σ H fun y H1=>td σ H1 fun x H2=>∃ a o,x=.ref a/\yng H2 a y o/\Q (.bl (!o.isSome)) H2):ylr ty td σ H Q:=h
theorem yyo {nx bk ct:St->Hp->Prop} {rt:VK} (h:tv σ H fun v H1=>td σ H1 fun x H2=>ty σ H2 fun y H3=>∃ a H4,x=.ref a/\yv6 H3 a y v H4/\nx σ H4):vai td ty tv ⟨nx,rt,bk,ct⟩ σ H:=h
theorem ytm (h:∀ p,H p=none->Q (.ref p) (upd H p (.dT []))):yqm σ H Q:=h
end
end L2
namespace L2
open PySem PySem.Spec PyProof.Rows
def Itz (K:W.Frag) (a b:Addr):It :=
 ⟨fun i H=>∃ xs ys x y,SqL K H a xs/\SqL K H b ys/\xs[i]?=some x/\ys[i]?=some y,
  fun i H v H'=>∃ t x y,v=.ref t/\H t=none/\H'=upd H t (.tup [x,y])/\(∀ xs,SqL K H a xs->xs[i]?=some x)/\(∀ ys,SqL K H b ys->ys[i]?=some y),
  fun i H=>∃ xs ys,SqL K H a xs/\SqL K H b ys/\(xs.length <= i\/ys.length <= i)⟩
structure Zap (z TI TO i1 i2:Addr):Prop where
 a1:TI≠z
 a2:TO≠z
 a3:i1≠z
 a4:i2≠z
 a5:TI≠TO
 a6:TI≠i1
 a7:TI≠i2
 a8:TO≠i1
 a9:TO≠i2
 b1:i1≠i2
def Zst (z TI TO i1 i2 l1 l2:Addr) (i:Nat) (h:Heap):Prop:=IsZip h z TI TO .none/\IsPair h TI (.ref i1) (.ref i2)/\(∃ a b,IsPair h TO a b)/\h.IsListIter i1 l1 i/\h.IsListIter i2 l2 i
theorem uz {h:Heap} {a b:Addr} {o o':Obj} (e:h.get? a=some o) (e':h.get? b=some o') (n:o.cls≠o'.cls):a≠b:=by
 rintro rfl
 rw [e] at e'
 cases e'
 exact n rfl
theorem yp6 (z:Nat):Zap (z+4) (z+2) (z+3) z (z+1):=by
 constructor <;> (show (_:Nat)≠(_:Nat); omega)
theorem nT {a b:String} (h:Value.type a≠Value.type b):Value.type a≠Value.type b:=h
theorem Zap.apart {X:Cx} {pins:List (Addr × Obj)} {σ:St} {H:Hp} {s:Shared} {z TI TO i1 i2 l1 l2:Addr} {i:Nat} {xs ys:List Value} (d:Zap z TI TO i1 i2) (st:Zst z TI TO i1 i2 l1 l2 i s.heap) (p:PlainL s.heap l1 xs.toArray) (q:PlainL s.heap l2 ys.toArray) (_:Inv X pins σ H s):ZipApart z TI TO i1 i2 l1 l2:=by
 obtain ⟨hz,hTI,⟨a,b,hTO⟩,⟨o1,e1,c1,_⟩,⟨o2,e2,c2,_⟩⟩:=st
 obtain ⟨ol,el,cl,_⟩:=p.isList
 obtain ⟨om,em,cm,_⟩:=q.isList
 exact ⟨d.a1,d.a2,d.a3,d.a4,d.a5,d.a6,d.a7,d.a8,d.a9,d.b1,
  uz el hz (by rw [cl]; exact nT (by decide)),uz el hTO (by rw [cl]; exact nT (by decide)),uz el e1 (by rw [cl,c1]; decide),uz el e2 (by rw [cl,c2]; decide),
  uz em hz (by rw [cm]; exact nT (by decide)),uz em hTO (by rw [cm]; exact nT (by decide)),uz em e1 (by rw [cm,c1]; decide),uz em e2 (by rw [cm,c2]; decide)⟩
theorem yoj {P:Program} {w:World} {K:W.Frag} {elts:List Expr} {x1} {tpos:Pos} (l1 l2 z TI TO i1 i2:Addr) (d:Zap z TI TO i1 i2) :
  ynh P w K (.Tuple elts x1 tpos) (Itz K l1 l2) [z,TI,TO,i1,i2] z (Zst z TI TO i1 i2 l1 l2) where
 mem:=by simp
 obj:=fun i h st b hb=>by
  obtain ⟨hz,hTI,⟨_,_,hTO⟩,⟨o1,e1,_,d1⟩,⟨o2,e2,_,d2⟩⟩:=st
  simp only [List.mem_cons,List.not_mem_nil,or_false] at hb
  rcases hb with rfl | rfl | rfl | rfl | rfl
  ·exact ⟨_,hz,fun v z=>by cases z⟩
  ·exact ⟨_,hTI,fun v z=>by cases z⟩
  ·exact ⟨_,hTO,fun v z=>by cases z⟩
  ·exact ⟨o1,e1,fun v z=>by rw [d1] at z; cases z⟩
  ·exact ⟨o2,e2,fun v z=>by rw [d2] at z; cases z⟩
 keep:=fun i h h' st k=>by
  obtain ⟨hz,hTI,⟨a,b,hTO⟩,h1,h2⟩:=st
  exact ⟨k z (by simp) _ hz,k TI (by simp) _ hTI,⟨a,b,k TO (by simp) _ hTO⟩,h1.at fun o e=>k i1 (by simp) o e,h2.at fun o e=>k i2 (by simp) o e⟩
 item:=by
  intro X hP hw hK hc i pins s σ H E I hf st hg
  subst hP hw hK
  obtain ⟨xs,ys,x,y,hq,hq',hx,hy⟩:=hg
  obtain ⟨its,rv,p,hz0⟩:=I.list hq
  obtain ⟨its',rv',p',hz0'⟩:=I.list hq'
  obtain ⟨u,hu,ru⟩:=rv.get hx
  obtain ⟨u',hu',ru'⟩:=rv'.get hy
  have D:=d.apart st p p' I
  obtain ⟨hz,hTI,⟨va,vb,hTO⟩,hi1,hi2⟩:=st
  refine wpAny_pyNext_zip_item D hz hTI hTO hi1 hi2 p.isList p'.isList (x:=u) (y:=u') (by simpa using hu) (by simpa using hu') fun h' a1 a2 a3 a4 a5 a6 hk=>?_
  refine ⟨_,rfl,wpAny_letOwnedTupleGo_zip a1 fun h'' hz'' hs''=>?_⟩
  have hTn:H s.heap.objs.size=none:=I.hok.fresh (Nat.le_refl _)
  have lz:z < s.heap.objs.size:=Heap.lt_size hz
  have lo:TO < s.heap.objs.size:=Heap.lt_size hTO
  have lI:TI < s.heap.objs.size:=Heap.lt_size hTI
  have l1':i1 < s.heap.objs.size:=by obtain ⟨o,e,_⟩:=id hi1; exact Heap.lt_size e
  have l2':i2 < s.heap.objs.size:=by obtain ⟨o,e,_⟩:=id hi2; exact Heap.lt_size e
  have keep:∀ b o,b≠z->b≠TO->b≠i1->b≠i2->s.heap.get? b=some o->h''.get? b=some o:=fun b o n1 n2 n3 n4 e=>(hs''.2 b n1).trans (hk b o n1 n2 n3 n4 e)
  have htup:h''.get? s.heap.objs.size=some { cls:=.type "tuple",data:=.seq #[u,u'] }:=(hs''.2 _ (Nat.ne_of_gt lz)).trans a5
  have nt:∀ {b v},H b=some v->b≠z/\b≠TO/\b≠i1/\b≠i2:=fun {b v} e=>⟨ye e (hf z (by simp)).1,ye e (hf TO (by simp)).1,ye e (hf i1 (by simp)).1,ye e (hf i2 (by simp)).1⟩
  have hok:HOk X.prog X.w (upd H s.heap.objs.size (.tup [x,y])) h'':=fun b o e=>by
   by_cases hb:b=s.heap.objs.size
   ·subst hb
    rw [yc] at e
    cases e
    exact ⟨by show 2 <= sizeLine; decide,[u,u'],.cons ru (.cons ru' .nil),⟨_,htup,rfl,_,rfl⟩⟩
   ·rw [yp hb] at e
    refine (I.hok b o e).stay (fun c v hc' q=>?_) (fun c q=>by rw [yp (ye q hTn)]; exact q) fun c ys q=>by rw [yp (ye q hTn)]; exact q
    obtain ⟨n1,n2,n3,n4⟩:c≠z/\c≠TO/\c≠i1/\c≠i2:=by
     rcases hc' with rfl | hc'
     ·exact nt e
     ·exact nt hc'
    exact keep c v n1 n2 n3 n4 q
  have un:Un (frs X.stack) [z,TI,TO,i1,i2] H (upd H s.heap.objs.size (.tup [x,y])) s.heap h'':=by
   have kp:∀ {b o},b∉[z,TI,TO,i1,i2]->s.heap.get? b=some o->h''.get? b=some o:=fun {b o} hb e=>keep b o (fun q=>hb (by simp [q])) (fun q=>hb (by simp [q])) (fun q=>hb (by simp [q])) (fun q=>hb (by simp [q])) e
   refine ⟨fun b o e n _ hx=>kp hx e,fun b o e n _ hx=>⟨o.slots,kp hx e⟩,fun b o e n _=>by rw [yp (Nat.ne_of_lt (Heap.lt_size e))]; exact n,fun b o e hx=>⟨o,kp hx e⟩,
    fun b ys e=>by rw [yp (ye e hTn)]; exact e,fun b o v e=>by rw [yp (ye e hTn)]; exact e,fun b ps e=>⟨#[],by rw [yp (ye e hTn),e]; simp⟩⟩
  have I1:Inv X pins σ (upd H s.heap.objs.size (.tup [x,y])) { s with heap:=h'' }:=I.call' (s':={ s with heap:=h'' }) rfl un hok I.bare fun b hb=>by
   have f:=hf b hb
   exact ⟨f.2.2.2.1,f.2.1,f.2.2.2.2.1,f.2.2.2.2.2⟩
  refine ⟨.ref s.heap.objs.size,_,I1,rfl,⟨_,x,y,rfl,hTn,rfl,fun zs h=>by rw [I.list_inj h hq]; exact hx,fun zs h=>by rw [I.list_inj h hq']; exact hy⟩,?_,fun b hb=>?_⟩
  ·exact ⟨hz'',keep _ _ D.TIz D.TITO D.TIi1 D.TIi2 hTI,⟨u,u',(hs''.2 _ D.TOz).trans a2⟩,a3.at fun o e=>(hs''.2 _ D.i1z).trans e,a4.at fun o e=>(hs''.2 _ D.i2z).trans e⟩
  ·rw [yp (fun q=>?_)]
   ·exact (hf b hb).1
   ·have hq:b < s.heap.objs.size:=by
     simp only [List.mem_cons,List.not_mem_nil,or_false] at hb
     rcases hb with rfl | rfl | rfl | rfl | rfl <;> assumption
    exact absurd q (Nat.ne_of_lt hq)
 done:=by
  intro X hP hw hK hc i pins s σ H E I hf st hg
  subst hP hw hK
  obtain ⟨xs,ys,hq,hq',hx⟩:=hg
  obtain ⟨its,rv,p,hz0⟩:=I.list hq
  obtain ⟨its',rv',p',hz0'⟩:=I.list hq'
  have D:=d.apart st p p' I
  obtain ⟨hz,hTI,⟨va,vb,hTO⟩,hi1,hi2⟩:=st
  have hl:=rv.length
  have hl':=rv'.length
  refine wpAny_pyNext_zip_end (show X.A.handled=none from I.ok.hd hc) D hz hTI hTO hi1 hi2 p.isList p'.isList (by simp; omega) fun h' hk=>⟨rfl,?_⟩
  have nt:∀ {b v},H b=some v->b≠z/\b≠TO/\b≠i1/\b≠i2:=fun {b v} e=>⟨ye e (hf z (by simp)).1,ye e (hf TO (by simp)).1,ye e (hf i1 (by simp)).1,ye e (hf i2 (by simp)).1⟩
  have hok:HOk X.prog X.w H h':=fun b o e=>by
   refine (I.hok b o e).stay (fun c v hc' q=>?_) (fun c q=>q) fun c ys q=>q
   obtain ⟨n1,n2,n3,n4⟩:c≠z/\c≠TO/\c≠i1/\c≠i2:=by
    rcases hc' with rfl | hc'
    ·exact nt e
    ·exact nt hc'
   exact hk c v n1 n2 n3 n4 q
  have un:Un (frs X.stack) [z,TI,TO,i1,i2] H H s.heap h':=by
   have kp:∀ {b o},b∉[z,TI,TO,i1,i2]->s.heap.get? b=some o->h'.get? b=some o:=fun {b o} hb e=>hk b o (fun q=>hb (by simp [q])) (fun q=>hb (by simp [q])) (fun q=>hb (by simp [q])) (fun q=>hb (by simp [q])) e
   exact ⟨fun b o e n _ hx=>kp hx e,fun b o e n _ hx=>⟨o.slots,kp hx e⟩,fun b o e n _=>n,fun b o e hx=>⟨o,kp hx e⟩,fun b ys e=>e,fun b o v e=>e,fun b ps e=>⟨#[],by rw [e]; simp⟩⟩
  exact I.call' (s':={ s with heap:=h' }) rfl un hok I.bare fun b hb=>by
   have f:=hf b hb
   exact ⟨f.2.2.2.1,f.2.1,f.2.2.2.2.1,f.2.2.2.2.2⟩
 self:=fun _ _ _ _ _ st h=>wpAny_pyIter_zip st.1 h
section
variable {X:Cx}
def vdj (K:W.Frag) (ta:TA):TI:=fun σ H R=>ta σ H fun vs H1=>∃ a b,vs=[.ref a,.ref b]/\(∃ xs ys,SqL K H1 a xs/\SqL K H1 b ys)/\R (Itz K a b) H1
theorem yq0 {elts:List Expr} {x1} {tpos:Pos} {l m:Expr} {ta:TA} {p pos:Pos} (hg:Gl X "zip") (hm:X.mg "zip"=none) (ha:PA X [l,m] ta) (hs:starEach [l,m] X.env=[(false,eval l X.env),(false,eval m X.env)]:=by rfl) (hs2:starEach [m] X.env=[(false,eval m X.env)]:=by rfl) :
  PI X (.Tuple elts x1 tpos) (.Call (.Name "zip" p) [l,m] [] pos) (vdj X.K ta):=by
 intro pins s σ H R I h
 refine Call_ (yce I hg hm (show bootBuiltins "zip"=some (.type "zip") by decide +kernel) (PyProof.Rows.callWith_type1 (thn (ha pos pins s σ H _ I h) fun us s1 ⟨vs,H1,I1,r1,q1⟩=>?_) (by rw [hs,hs2]) (by rw [hs2]; rfl)))
 obtain ⟨a,b,e,⟨xs,ys,hq,hq'⟩,q⟩:=q1
 subst e
 cases r1 with
 | cons r rr =>
  cases rr with
  | cons r' rr =>
   cases rr
   cases r
   cases r'
   obtain ⟨its,rv,pl,hz⟩:=I1.list hq
   obtain ⟨its',rv',pl',hz'⟩:=I1.list hq'
   refine call_zip_2 pl.isList pl'.isList fun h' hz hTI hTO h1 h2 hsz hk=>?_
   refine wpAny_pyIter_zip hz ?_
   have zap:Zap (s1.heap.objs.size+4) (s1.heap.objs.size+2) (s1.heap.objs.size+3) s1.heap.objs.size (s1.heap.objs.size+1):=yp6 _
   refine ⟨s1.heap.objs.size+4,[s1.heap.objs.size+4,s1.heap.objs.size+2,s1.heap.objs.size+3,s1.heap.objs.size,s1.heap.objs.size+1],_,_,H1,rfl,I1.kept (t':=s1.toks) hk,yoj a b _ _ _ _ _ zap,⟨hz,hTI,⟨_,_,hTO⟩,h1,h2⟩,fun b hb=>?_,q⟩
   have hb:s1.heap.objs.size <= b:=by
    simp only [List.mem_cons,List.not_mem_nil,or_false] at hb
    rcases hb with rfl | rfl | rfl | rfl | rfl <;> omega
   exact I1.fpOk hb (I1.hok.fresh hb)
theorem yyh {K:W.Frag} {ta:TA} {σ:St} {H:Hp} {R:It->Hp->Prop} (h:ta σ H fun vs H1=>∃ a b,vs=[.ref a,.ref b]/\(∃ xs ys,SqL K H1 a xs/\SqL K H1 b ys)/\R (Itz K a b) H1):vdj K ta σ H R:=h
end
theorem ycm {K:W.Frag} {a b D:Addr} {xs ys:List V} {g:TG} {te:TE} {n:Nat} {fr:St} {R:Hp->Prop} {H1:Hp} (f:Nat->V) (hq:SqL K H1 a xs) (hq':SqL K H1 b ys) (hl:ys.length=xs.length) (hD:H1 D=none)
  (hs:∀ i x y H t pre,xs[i]?=some x->ys[i]?=some y->vi H1 H->H D=some (.lst ((List.range i).map f))->H t=none->List.length pre=n->g (.ref t) (pre++fr) (upd H t (.tup [x,y])) fun σ' H'=>(∃ pre',List.length pre'=n/\σ'=pre'++fr)/\te σ' H' (MpK H1 D f xs.length i))
  (hd:∀ H,vi H1 H->H D=some (.lst ((List.range xs.length).map f))->R H):yax (Itz K a b) g te n fr D R H1:=by
 refine ⟨cW xs.length (Mp H1 D f),⟨xs.length,by simp,Nat.zero_le _,Mp.zero hD⟩,?_⟩
 rintro i m H ⟨rfl,hi,p⟩
 have q:=p.1.seq hq
 have q':=p.1.seq hq'
 by_cases hlt:i < xs.length
 ·refine .inr ⟨⟨xs,ys,xs[i],ys[i]'(by omega),q,q',by simp [hlt],by simp [hl,hlt]⟩,fun y H' pre yl hp=>?_⟩
  obtain ⟨t,x,y,rfl,ht,rfl,hx,hy⟩:=yl
  exact hs i x y H t pre (hx xs q) (hy ys q') p.1 p.2 ht hp
 ·have e:i=xs.length:=by omega
  subst e
  exact .inl ⟨⟨xs,ys,q,q',.inl (Nat.le_refl _)⟩,hd H p.1 p.2⟩
section
variable {X:Cx} {iter elt tg:Expr} {xs:List Str} {g:TG} {pos:Pos} {scope:Scope} {te:TE} {wi:TI} {ys:List Str} {js:List Nat}
theorem yog {i:Nat} {y:Str} {py spos:Pos} (hN:X.N.Nodup) (hy:X.N[i]?=some y) (hl:X.env.scope.names.lookup y=some .local) (hc:X.calm=true) (hi:PI X tg iter wi)
  (he:∀ (C:Addr) (s2:Shared) (H2:Hp) (fp:List Addr),PE (X.compT scope ys C xs s2 H2 fp) elt te) (hjs:js.map (fun j=>X.N[j]?)=ys.map some)
  (hgt:∀ (C:Addr) (s2:Shared) (H2:Hp) (fp:List Addr),PG (X.compT scope ys C xs s2 H2 fp) tg g)
  (hclos:closureFor scope X.env=pure (jb ys X.env)) (hyc:∀ y∈ys,X.env.kindOf y=some .cell) (hrel:∀ y∈ys,(relabel scope X.env).names.lookup y=some .cell)
  (hsw:swapsWith (.ListComp elt [⟨tg,iter,[],0⟩] scope pos) (some (.Name y py)) spos.line X.env=pure true:=by rfl)
  (hfr:∀ y∈scope.names,y.2=.free->y.1∈ys:=by decide +kernel) (hcell:∀ y∈scope.names,y.2≠.cell:=by decide +kernel) (hkind:scope.kind=.function:=by rfl)
  (hnames:∀ y∈scope.names,y.2=.local->scope.names.lookup y.1=some .local:=by decide +kernel) (hs:∀ x,foldedSetIterable iter X.env x=pure x:=by intro _; rfl) :
  PS X (.Assign [.Name y py] (.ListComp elt [⟨tg,iter,[],0⟩] scope pos) spos) (yvz (ymw wi g te xs.length js) (xk i)):=by
 intro pins s σ H D0 I h
 rw [exec_Assign_Name_used _ _ _ _ hsw]
 refine wpAny_bind (wpAny_standAt (wpAny_bind ?_))
 show wpAny _ X.A (do let _ <- comprehension (.ListComp elt [⟨tg,iter,[],0⟩] scope pos) scope X.env _ (newList []) false (eval iter X.env) (some (assign (.Name y py) X.env))) _ _ s
 refine wpAny_bind (wpAny_mono (wpAny_comprehension_free (use:=some (assign (.Name y py) X.env)) (Q:=fun _ s'=>SP X pins D0 .next s') rfl hs hclos hkind hnames (thn (hi pins s σ H _ I h) fun v s1 h1=>thn h1 fun itv s2 h2=>?_)) (fun _ s' hq=>wpAny_pure (wpAny_pure hq)) fun _ _ e=>e)
 obtain ⟨it,fp,tn,J,H2,e,I2,T,st2,f2,h⟩:=h2
 subst e
 refine ycr (R:=fun D H'=>xk i (.ref D) σ H' D0.nx) (RR:=compPost (model X.prog X.w) X.A X.xe (some (assign (.Name y py) X.env)) (fun _ s'=>SP X pins D0 .next s')) hc he hgt hcell hkind hfr hyc hrel hjs I2 T st2 f2 h ?_
 intro D C H' s' m f hn I' q
 refine wpAny_assign_Name (yac (v:=V.ref D) I' hN hy (Or.inl hl) rfl (fun s'' I'' k''=>?_) (Or.inr hl))
 refine ⟨m,?_,fun h' sb=>⟨_,H',?_,q⟩⟩
 ·obtain ⟨b,sb,hb⟩:=k''
  refine hn.sameBut sb fun z=>?_
  rcases hb with hb | hb
  ·exact f.2.1 (z.trans hb)
  ·exact f.2.2.2.2.1 y b hb z.symm
 ·exact I''.turned (t':=s''.toks) (fun b o hb e=>sb.extBut b o hb e) f.1 f.2.1 f.2.2.2.1 f.2.2.2.2.1 f.2.2.2.2.2
end
section
variable {X:Cx}
def onI (f:Int->Int):V->V
 | .int i=>.int (f i)
 | v=>v
theorem ylv (f:Int->Int) (ns:List Int):(ns.map V.int).map (onI f)=(ns.map f).map V.int:=by
 rw [List.map_map,List.map_map]
 rfl
theorem ymr {pre:List (Option V)} (h:List.length pre=2):∃ v1 v2,pre=[v1,v2]:=by
 match pre,h with
 | [v1,v2],_=>exact ⟨v1,v2,rfl⟩
end
theorem yy8 {to ti:TE} {t:vbe} {v:V} {σ:St} {H:Hp} {Q:St->Hp->Prop} (h:to σ H fun o H1=>ti σ H1 fun i H2=>t o i v H2 fun H3=>Q σ H3):vdh to ti t v σ H Q:=h
section
variable {X:Cx}
def vay:V->List V->Hp->VK->Prop:=fun x vs H Q=>∃ i:Int,x=.int i/\vs=[]/\Q (.int (Builtin.Int.intBits i:Nat)) H
theorem ysk:MtR X "int.bit_length" vay:=by
 intro pins s σ H x vs v us Q I rx rv h
 obtain ⟨i,rfl,rfl,q⟩:=h
 obtain ⟨t,rfl⟩:=rx
 have hus:=rv.zero
 subst hus
 exact PyProof.Rows.call_int_bit_length ⟨.int _,H,I.tok _,⟨_,rfl⟩,q⟩
theorem yxr {K:W.Frag} {i:Int} {H:Hp} {Q:VK} (h:Q (.int (Builtin.Int.intBits i:Nat)) H):tyV K "int" (.int i) H/\vay (.int i) [] H Q:=⟨rfl,i,rfl,rfl,h⟩
end
end L2
namespace L2
open PySem PySem.Spec PyProof.Rows
section
variable {prog:Program} {w:World} {A:Around} {E:Value->Shared->Prop} {s:Shared}
theorem yox {z TI TO i1 i2 l1 l2:Addr} {k1 k2:Nat} {xs ys:Array Value} {x y a b:Value} {Q:Value->Shared->Prop} (D:ZipApart z TI TO i1 i2 l1 l2) (hz:IsZip s.heap z TI TO .none) (hTI:IsPair s.heap TI (.ref i1) (.ref i2)) (hTO:IsPair s.heap TO a b)
  (h1:s.heap.IsTupleIter i1 l1 k1) (h2:s.heap.IsTupleIter i2 l2 k2) (hl1:s.heap.IsTuple l1 xs) (hl2:s.heap.IsTuple l2 ys) (hx:xs[k1]?=some x) (hy:ys[k2]?=some y)
  (hQ:∀ h',IsZip h' z TI TO (rawInt s.heap.objs.size)->IsPair h' TO x y->h'.IsTupleIter i1 l1 (k1+1)->h'.IsTupleIter i2 l2 (k2+1)->IsPair h' s.heap.objs.size x y->h'.objs.size=s.heap.objs.size+1->(∀ c o,c≠z->c≠TO->c≠i1->c≠i2->s.heap.get? c=some o->h'.get? c=some o)->Q (.ref s.heap.objs.size) { s with heap:=h' }) :
  wpAny (model prog w) A (Builtin.«zip.__next__» ⟨[.ref z],[]⟩) (fun fin s'=>∃ v,fin=.done (.ret v)/\Q v s') E s:=by
 (show wpAny _ _ (field (.ref z) 2 >>= _) _ _ _); refine wpAny_bind (wpAny_field hz rfl (x:=.bool false) rfl ?_)
 (show wpAny _ _ (field (.ref z) 3 >>= _) _ _ _); refine wpAny_bind (wpAny_field hz rfl (x:=.ref TI) rfl ?_); refine wpAny_bind (wpAny_seqItems hTI rfl ?_)
 (show wpAny _ _ (Builtin.SmallTypes.ownedTupleIsFree (.ref z) >>= _) _ _ _); refine wpAny_bind ?_; unfold Builtin.SmallTypes.ownedTupleIsFree
 refine wpAny_bind (wpAny_field hz rfl (x:=.none) rfl (wpAny_pure ?_)); simp only [if_true]; refine wpAny_bind (wpAny_rule ?_)
 refine wpAny_bind (wpAny_field hz rfl (x:=.ref TO) rfl ?_); refine wpAny_bind (wpAny_setField_rec hz (by simp) fun h₁ hz₁ hs₁=>?_)
 replace hz₁:IsZip h₁ z TI TO .ellipsis:=hz₁; refine wpAny_bind ?_; simp only [List.zipIdx_cons,List.zipIdx_nil,List.forIn_cons,List.forIn_nil]
 refine wpAny_bind (wpAny_bind (wpAny_onRaise ?_)); (show wpAny _ _ (Builtin.SmallTypes.nextOf (.ref i1) >>= _) _ _ _)
 refine wpAny_bind (jy (h1.at fun o e=>hs₁.extBut _ _ D.i1z e) (hl1.extBut hs₁.extBut D.l1z) hx fun h₂ h1₂ hs₂=>wpAny_pure ?_)
 have hTO₂:IsPair h₂ TO a b:=hs₂.extBut _ _ D.TOi1 (hs₁.extBut _ _ D.TOz hTO); refine wpAny_bind (wpAny_seqItems hTO₂ rfl ?_)
 refine wpAny_bind (wpAny_updateSeq_pair hTO₂ fun h₃ hTO₃ hs₃=>?_); replace hTO₃:IsPair h₃ TO x b:=hTO₃; refine wpAny_bind (wpAny_letGo (wpAny_pure ?_))
 refine wpAny_bind (wpAny_bind (wpAny_onRaise ?_)); (show wpAny _ _ (Builtin.SmallTypes.nextOf (.ref i2) >>= _) _ _ _)
 refine wpAny_bind (jy (h2.at fun o e=>hs₃.extBut _ _ D.TOi2.symm (hs₂.extBut _ _ D.i12.symm (hs₁.extBut _ _ D.i2z e))) (((hl2.extBut hs₁.extBut D.l2z).extBut hs₂.extBut D.l2i1).extBut hs₃.extBut D.l2TO) hy fun h₄ h2₄ hs₄=>wpAny_pure ?_)
 have hTO₄:IsPair h₄ TO x b:=hs₄.extBut _ _ D.TOi2 hTO₃; refine wpAny_bind (wpAny_seqItems hTO₄ rfl ?_)
 refine wpAny_bind (wpAny_updateSeq_pair hTO₄ fun h₅ hTO₅ hs₅=>?_); replace hTO₅:IsPair h₅ TO x y:=hTO₅; refine wpAny_bind (wpAny_letGo (wpAny_pure (wpAny_pure ?_)))
 refine wpAny_bind (wpAny_seqItems hTO₅ rfl ?_); refine wpAny_bind (wpAny_newTuple ?_)
 have hsz:h₅.objs.size=s.heap.objs.size:=by (rw [hs₅.1,hs₄.1,hs₃.1,hs₂.1,hs₁.1])
 have hz₅:IsZip h₅ z TI TO .ellipsis:=(hs₅.extBut _ _ D.TOz.symm (hs₄.extBut _ _ D.i2z.symm (hs₃.extBut _ _ D.TOz.symm (hs₂.extBut _ _ D.i1z.symm hz₁))))
 have hk₅:∀ c o,c≠z->c≠TO->c≠i1->c≠i2->s.heap.get? c=some o->h₅.get? c=some o:=fun c o c1 c2 c3 c4 e=>hs₅.extBut _ _ c2 (hs₄.extBut _ _ c4 (hs₃.extBut _ _ c2 (hs₂.extBut _ _ c3 (hs₁.extBut _ _ c1 e))))
 have h1₅:h₅.IsTupleIter i1 l1 (k1+1):=h1₂.at fun o e=>hs₅.extBut _ _ D.TOi1.symm (hs₄.extBut _ _ D.i12 (hs₃.extBut _ _ D.TOi1.symm e))
 have h2₅:h₅.IsTupleIter i2 l2 (k2+1):=h2₄.at fun o e=>hs₅.extBut _ _ D.TOi2.symm e
 have hzlt:z < h₅.objs.size:=(Heap.lt_size hz₅)
 (show wpAny _ _ (Builtin.SmallTypes.ownedTupleHandOut (.ref z) (.ref h₅.objs.size) >>= _) _ _ _); refine wpAny_bind ?_; unfold Builtin.SmallTypes.ownedTupleHandOut
 have hz₆:IsZip (h₅.push { cls:=.type "tuple",data:=.seq #[x,y] }) z TI TO .ellipsis:=(Heap.get?_push_of_some _ hz₅)
 refine wpAny_bind (wpAny_setField_rec hz₆ (by simp) fun h₇ hz₇ hs₇=>?_); replace hz₇:IsZip h₇ z TI TO (rawInt h₅.objs.size):=hz₇
 refine wpAny_setField_rec hz₇ (by simp) fun h₈ hz₈ hs₈=>?_; replace hz₈:IsZip h₈ z TI TO (rawInt h₅.objs.size):=hz₈
 have up:∀ c o,c≠z->h₅.get? c=some o->h₈.get? c=some o:=(fun c o c1 e=>hs₈.extBut _ _ c1 (hs₇.extBut _ _ c1 (Heap.get?_push_of_some _ e)))
 have hT₈:IsPair h₈ h₅.objs.size x y:=(hs₈.extBut _ _ (Nat.ne_of_gt hzlt) (hs₇.extBut _ _ (Nat.ne_of_gt hzlt) (Heap.get?_push_size _ rfl)))
 have hz8:h₈.objs.size=h₅.objs.size+1:=by (rw [hs₈.1,hs₇.1,Heap.size_push])
 (rw [hsz] at hz₈ hT₈ hz8); refine wpAny_pure ⟨_,rfl,?_⟩; show Q (.ref h₅.objs.size) _; rw [hsz]
 exact hQ h₈ hz₈ (up _ _ D.TOz hTO₅) (h1₅.at fun o e=>up _ o D.i1z e) (h2₅.at fun o e=>up _ o D.i2z e) hT₈ hz8 (fun c o c1 c2 c3 c4 e=>up c o c1 (hk₅ c o c1 c2 c3 c4 e))
theorem yrp {z TI TO i1 i2 l1 l2:Addr} {k1 k2:Nat} {xs ys:Array Value} {a b:Value} {Q:Fin->Shared->Prop} (hh:A.handled=none) (D:ZipApart z TI TO i1 i2 l1 l2) (hz:IsZip s.heap z TI TO .none) (hTI:IsPair s.heap TI (.ref i1) (.ref i2)) (hTO:IsPair s.heap TO a b)
  (h1:s.heap.IsTupleIter i1 l1 k1) (h2:s.heap.IsTupleIter i2 l2 k2) (hl1:s.heap.IsTuple l1 xs) (hl2:s.heap.IsTuple l2 ys) (hend:xs[k1]?=none\/ys[k2]?=none)
  (hE:∀ h' e,(∀ c o,c≠z->c≠TO->c≠i1->c≠i2->s.heap.get? c=some o->h'.get? c=some o)->(∃ o,h'.get? e=some o/\o.cls=.type "StopIteration")->E (.ref e) { s with heap:=h' }):wpAny (model prog w) A (Builtin.«zip.__next__» ⟨[.ref z],[]⟩) Q E s:=by
 (show wpAny _ _ (field (.ref z) 2 >>= _) _ _ _); refine wpAny_bind (wpAny_field hz rfl (x:=.bool false) rfl ?_)
 (show wpAny _ _ (field (.ref z) 3 >>= _) _ _ _); refine wpAny_bind (wpAny_field hz rfl (x:=.ref TI) rfl ?_); refine wpAny_bind (wpAny_seqItems hTI rfl ?_)
 (show wpAny _ _ (Builtin.SmallTypes.ownedTupleIsFree (.ref z) >>= _) _ _ _); refine wpAny_bind ?_; unfold Builtin.SmallTypes.ownedTupleIsFree
 refine wpAny_bind (wpAny_field hz rfl (x:=.none) rfl (wpAny_pure ?_)); simp only [if_true]; refine wpAny_bind (wpAny_rule ?_)
 refine wpAny_bind (wpAny_field hz rfl (x:=.ref TO) rfl ?_); refine wpAny_bind (wpAny_setField_rec hz (by simp) fun h₁ hz₁ hs₁=>?_)
 replace hz₁:IsZip h₁ z TI TO .ellipsis:=hz₁; refine wpAny_bind ?_; simp only [List.zipIdx_cons,List.zipIdx_nil,List.forIn_cons,List.forIn_nil]
 refine wpAny_bind (wpAny_bind (wpAny_onRaise ?_)); (show wpAny _ _ (Builtin.SmallTypes.nextOf (.ref i1) >>= _) _ _ _)
 cases hx:xs[k1]? with
 | none =>
  refine wpAny_bind (ybz hh (h1.at fun o e=>hs₁.extBut _ _ D.i1z e) (hl1.extBut hs₁.extBut D.l1z) hx fun h₂ e hs₂ he=>?_)
  obtain ⟨oe,hoe,hce⟩:=he; have hz₂:IsZip h₂ z TI TO .ellipsis:=hs₂ _ _ D.i1z.symm hz₁
  have hez:e≠z:=(fun x=>by (subst x; rw [hz₂] at hoe; cases hoe; simp at hce))
  exact wpAny_setField_rec hz₂ (by simp) fun h₃ _ hs₃=>hE h₃ e (fun c o c1 _ c3 _ x=>hs₃.extBut _ _ c1 (hs₂ _ _ c3 (hs₁.extBut _ _ c1 x))) ⟨oe,hs₃.extBut _ _ hez hoe,hce⟩
 | some x =>
  have hy:ys[k2]?=none:=by (rcases hend with h | h; (rw [hx] at h; cases h); exact h)
  refine wpAny_bind (jy (h1.at fun o e=>hs₁.extBut _ _ D.i1z e) (hl1.extBut hs₁.extBut D.l1z) hx fun h₂ h1₂ hs₂=>wpAny_pure ?_)
  have hTO₂:IsPair h₂ TO a b:=(hs₂.extBut _ _ D.TOi1 (hs₁.extBut _ _ D.TOz hTO)); refine wpAny_bind (wpAny_seqItems hTO₂ rfl ?_)
  refine wpAny_bind (wpAny_updateSeq_pair hTO₂ fun h₃ hTO₃ hs₃=>?_); refine wpAny_bind (wpAny_letGo (wpAny_pure ?_))
  refine wpAny_bind (wpAny_bind (wpAny_onRaise ?_)); (show wpAny _ _ (Builtin.SmallTypes.nextOf (.ref i2) >>= _) _ _ _)
  refine wpAny_bind (ybz hh (h2.at fun o e=>hs₃.extBut _ _ D.TOi2.symm (hs₂.extBut _ _ D.i12.symm (hs₁.extBut _ _ D.i2z e))) (((hl2.extBut hs₁.extBut D.l2z).extBut hs₂.extBut D.l2i1).extBut hs₃.extBut D.l2TO) hy fun h₄ e hs₄ he=>?_)
  obtain ⟨oe,hoe,hce⟩:=he; have hz₄:IsZip h₄ z TI TO .ellipsis:=hs₄ _ _ D.i2z.symm (hs₃.extBut _ _ D.TOz.symm (hs₂.extBut _ _ D.i1z.symm hz₁))
  have hez:e≠z:=(fun x=>by (subst x; rw [hz₄] at hoe; cases hoe; simp at hce))
  exact wpAny_setField_rec hz₄ (by simp) fun h₅ _ hs₅=>hE h₅ e (fun c o c1 c2 c3 c4 x=>hs₅.extBut _ _ c1 (hs₄ _ _ c4 (hs₃.extBut _ _ c2 (hs₂.extBut _ _ c3 (hs₁.extBut _ _ c1 x))))) ⟨oe,hs₅.extBut _ _ hez hoe,hce⟩
theorem yn8 {z TI TO i1 i2 l1 l2:Addr} {k1 k2:Nat} {xs ys:Array Value} {x y a b:Value} {Q:Option Value->Shared->Prop} (D:ZipApart z TI TO i1 i2 l1 l2) (hz:IsZip s.heap z TI TO .none) (hTI:IsPair s.heap TI (.ref i1) (.ref i2)) (hTO:IsPair s.heap TO a b)
  (h1:s.heap.IsTupleIter i1 l1 k1) (h2:s.heap.IsTupleIter i2 l2 k2) (hl1:s.heap.IsTuple l1 xs) (hl2:s.heap.IsTuple l2 ys) (hx:xs[k1]?=some x) (hy:ys[k2]?=some y)
  (hQ:∀ h',IsZip h' z TI TO (rawInt s.heap.objs.size)->IsPair h' TO x y->h'.IsTupleIter i1 l1 (k1+1)->h'.IsTupleIter i2 l2 (k2+1)->IsPair h' s.heap.objs.size x y->h'.objs.size=s.heap.objs.size+1->(∀ c o,c≠z->c≠TO->c≠i1->c≠i2->s.heap.get? c=some o->h'.get? c=some o)->Q (some (.ref s.heap.objs.size)) { s with heap:=h' }) :
  wpAny (model prog w) A (pyNext (.ref z)) Q E s:=by
 have hT:s.TypeIs (.ref z) "zip":=(⟨_,hz,rfl⟩); unfold pyNext
 exact wpAny_bind (wpAny_attempt (wpAny_callSpecial?_slot (name:=Str.ofString "__next__") hT F.slot_zip_next (wpAny_call_entry F.slot_zip_next hT F.entry_zip_next
   (yox D hz hTI hTO h1 h2 hl1 hl2 hx hy fun h' a1 a2 a3 a4 a5 a6 a7=>wpAny_pure (hQ h' a1 a2 a3 a4 a5 a6 a7)) (F.args_zip_next_1 _))))
theorem yoz {z TI TO i1 i2 l1 l2:Addr} {k1 k2:Nat} {xs ys:Array Value} {a b:Value} {Q:Option Value->Shared->Prop} (hh:A.handled=none) (D:ZipApart z TI TO i1 i2 l1 l2) (hz:IsZip s.heap z TI TO .none) (hTI:IsPair s.heap TI (.ref i1) (.ref i2)) (hTO:IsPair s.heap TO a b)
  (h1:s.heap.IsTupleIter i1 l1 k1) (h2:s.heap.IsTupleIter i2 l2 k2) (hl1:s.heap.IsTuple l1 xs) (hl2:s.heap.IsTuple l2 ys) (hend:xs[k1]?=none\/ys[k2]?=none)
  (hQ:∀ h',(∀ c o,c≠z->c≠TO->c≠i1->c≠i2->s.heap.get? c=some o->h'.get? c=some o)->Q none { s with heap:=h' }):wpAny (model prog w) A (pyNext (.ref z)) Q E s:=by
 have hT:s.TypeIs (.ref z) "zip":=(⟨_,hz,rfl⟩); unfold pyNext
 refine wpAny_bind (wpAny_attempt (wpAny_callSpecial?_slot (name:=Str.ofString "__next__") hT F.slot_zip_next (wpAny_call_entry F.slot_zip_next hT F.entry_zip_next
  (yrp hh D hz hTI hTO h1 h2 hl1 hl2 hend fun h' e hk he=>?_) (F.args_zip_next_1 _))))
 obtain ⟨o,ho,hc⟩:=he; refine wpAny_bind (wpAny_isInstance (T:="StopIteration") (b:=true) ⟨o,ho,hc⟩ isSubtype_stop ?_)
 exact wpAny_pure (hQ _ hk)
end
abbrev zT1 (h:Heap) (l1:Addr):Heap:=h.push { cls:=.type "tuple_iterator",data:=.fields #[.ref l1,.int 0 0] }
abbrev zT2 (h:Heap) (l1 l2:Addr):Heap:=(zT1 h l1).push { cls:=.type "tuple_iterator",data:=.fields #[.ref l2,.int 0 0] }
abbrev zT3 (h:Heap) (l1 l2:Addr):Heap:=(zT2 h l1 l2).push { cls:=.type "tuple",data:=.seq #[.ref h.objs.size,.ref (zT1 h l1).objs.size] }
abbrev zT4 (h:Heap) (l1 l2:Addr):Heap:=(zT3 h l1 l2).push { cls:=.type "tuple",data:=.seq #[.none,.none] }
abbrev zT5 (h:Heap) (l1 l2:Addr):Heap:=(zT4 h l1 l2).push { cls:=.type "zip",data:=.fields #[.none,.bool false,.bool false,.ref (zT2 h l1 l2).objs.size,.ref (zT3 h l1 l2).objs.size] }
theorem yte (l1 l2:Addr) (xs ys:Array Value):Meets (Builtin.«zip.__new__» ⟨[.type "zip",.ref l1,.ref l2],[]⟩) (fun _ R s=>s.heap.IsTuple l1 xs/\s.heap.IsTuple l2 ys/\R (.ok (.ret (.ref (zT4 s.heap l1 l2).objs.size))) { s with heap:=zT5 s.heap l1 l2 }) :=
 .of_wp fun prog w A R s h=>by
  obtain ⟨hp,g,d,tk,os⟩:=s
  obtain ⟨hl1,hl2,h⟩:=h
  have hsub:=sub_zip
  have hT1:Heap.IsTuple (Shared.heap ⟨hp,g,d,tk,os⟩) l1 xs:=hl1
  have hT2:Heap.IsTuple (Shared.heap ⟨hp.push { cls:=.type "tuple_iterator",data:=.fields #[.ref l1,.int 0 0] },g,d,tk,os⟩) l2 ys:=Heap.IsTuple.push hl2 _
  wp_walk using wpAny_pyIter_tuple hT1,wpAny_pyIter_tuple hT2
  exact ⟨_,rfl,h⟩
section
variable {prog:Program} {w:World} {A:Around} {E:Value->Shared->Prop} {s:Shared}
theorem yom {l1 l2:Addr} {xs ys:Array Value} {Q:Value->Shared->Prop} (hl1:s.heap.IsTuple l1 xs) (hl2:s.heap.IsTuple l2 ys)
  (h:∀ h',IsZip h' (s.heap.objs.size+4) (s.heap.objs.size+2) (s.heap.objs.size+3) .none->IsPair h' (s.heap.objs.size+2) (.ref s.heap.objs.size) (.ref (s.heap.objs.size+1))->IsPair h' (s.heap.objs.size+3) .none .none->h'.IsTupleIter s.heap.objs.size l1 0->h'.IsTupleIter (s.heap.objs.size+1) l2 0 ->
   (∀ c o,s.heap.get? c=some o->h'.get? c=some o)->Q (.ref (s.heap.objs.size+4)) { s with heap:=h' }):wpAny (model prog w) A (call (.type "zip") [.ref l1,.ref l2]) Q E s:=by
 refine callType_new F.called_zip (by decide) (F.typeCall_zip_2 _ _) (F.newCall_zip_2 _ _) (fun obj=>F.args_object_init_3 obj _ _) F.entry_zip_new (yte l1 l2 xs ys) ⟨hl1,hl2,?_⟩
 have z1:(zT1 s.heap l1).objs.size=s.heap.objs.size+1:=Heap.size_push ..
 have z2:(zT2 s.heap l1 l2).objs.size=s.heap.objs.size+2:=by rw [Heap.size_push,z1]
 have z3:(zT3 s.heap l1 l2).objs.size=s.heap.objs.size+3:=by rw [Heap.size_push,z2]
 have z4:(zT4 s.heap l1 l2).objs.size=s.heap.objs.size+4:=by rw [Heap.size_push,z3]
 have g5:(zT5 s.heap l1 l2).get? (zT4 s.heap l1 l2).objs.size=some _:=Heap.get?_push_size _ rfl
 have g4:(zT5 s.heap l1 l2).get? (zT3 s.heap l1 l2).objs.size=some _:=Heap.get?_push_of_some _ (Heap.get?_push_size _ rfl)
 have g3:(zT5 s.heap l1 l2).get? (zT2 s.heap l1 l2).objs.size=some _:=Heap.get?_push_of_some _ (Heap.get?_push_of_some _ (Heap.get?_push_size _ rfl))
 have g2:(zT5 s.heap l1 l2).get? (zT1 s.heap l1).objs.size=some _:=Heap.get?_push_of_some _ (Heap.get?_push_of_some _ (Heap.get?_push_of_some _ (Heap.get?_push_size _ rfl)))
 have g1:(zT5 s.heap l1 l2).get? s.heap.objs.size=some _:=(Heap.get?_push_of_some _ (Heap.get?_push_of_some _ (Heap.get?_push_of_some _ (Heap.get?_push_of_some _ (Heap.get?_push_size _ rfl)))))
 show _/\_
 rw [z2,z3,z4] at g5
 rw [z1,z2] at g3
 rw [z3] at g4
 rw [z1] at g2
 rw [z4]
 exact ⟨⟨_,g5,rfl⟩,h _ g5 g3 g4 ⟨_,g1,rfl,rfl⟩ ⟨_,g2,rfl,rfl⟩ fun c o x=>(Heap.get?_push_of_some _ (Heap.get?_push_of_some _ (Heap.get?_push_of_some _ (Heap.get?_push_of_some _ (Heap.get?_push_of_some _ x)))))⟩
end
def va3 (K:W.Frag) (a b:Addr):It :=
 ⟨fun i H=>∃ xs ys x y,SqT K H a xs/\SqT K H b ys/\xs[i]?=some x/\ys[i]?=some y,
  fun i H v H'=>∃ t x y,v=.ref t/\H t=none/\H'=upd H t (.tup [x,y])/\(∀ xs,SqT K H a xs->xs[i]?=some x)/\(∀ ys,SqT K H b ys->ys[i]?=some y),
  fun i H=>∃ xs ys,SqT K H a xs/\SqT K H b ys/\(xs.length <= i\/ys.length <= i)⟩
def vdc (z TI TO i1 i2 l1 l2:Addr) (i:Nat) (h:Heap):Prop:=IsZip h z TI TO .none/\IsPair h TI (.ref i1) (.ref i2)/\(∃ a b,IsPair h TO a b)/\h.IsTupleIter i1 l1 i/\h.IsTupleIter i2 l2 i
theorem Zap.apartT {X:Cx} {H:Hp} {s:Shared} {z TI TO i1 i2 l1 l2:Addr} {i:Nat} {xs ys:List Value} {us vs:List V} (d:Zap z TI TO i1 i2) (st:vdc z TI TO i1 i2 l1 l2 i s.heap) (p:s.heap.IsTuple l1 xs.toArray) (q:s.heap.IsTuple l2 ys.toArray) (hn:H TO=none) (hK:X.K.lookup TO=none)
  (hq:SqT X.K H l1 us) (hq':SqT X.K H l2 vs):ZipApart z TI TO i1 i2 l1 l2:=by
 obtain ⟨hz,hTI,⟨a,b,hTO⟩,⟨o1,e1,c1,_⟩,⟨o2,e2,c2,_⟩⟩:=st
 obtain ⟨ol,el,cl,_⟩:=p
 obtain ⟨om,em,cm,_⟩:=q
 have nTO:∀ {l:Addr} {ws:List V},SqT X.K H l ws->l≠TO:=fun {l ws} h=>by
  rintro rfl
  rcases h with (h | ⟨o,h⟩) | ⟨_,_,_,h,_⟩
  ·rw [hn] at h; cases h
  ·rw [hn] at h; cases h
  ·rw [hK] at h; cases h
 exact ⟨d.a1,d.a2,d.a3,d.a4,d.a5,d.a6,d.a7,d.a8,d.a9,d.b1,
  uz el hz (by rw [cl]; exact nT (by decide)),nTO hq,uz el e1 (by rw [cl,c1]; decide),uz el e2 (by rw [cl,c2]; decide),
  uz em hz (by rw [cm]; exact nT (by decide)),nTO hq',uz em e1 (by rw [cm,c1]; decide),uz em e2 (by rw [cm,c2]; decide)⟩
theorem ykj {P:Program} {w:World} {K:W.Frag} {elts:List Expr} {x1} {tpos:Pos} (l1 l2 z TI TO i1 i2:Addr) (d:Zap z TI TO i1 i2) (hKT:K.lookup TO=none) :
  ynh P w K (.Tuple elts x1 tpos) (va3 K l1 l2) [z,TI,TO,i1,i2] z (vdc z TI TO i1 i2 l1 l2) where
 mem:=by simp
 obj:=fun i h st b hb=>by
  obtain ⟨hz,hTI,⟨_,_,hTO⟩,⟨o1,e1,_,d1⟩,⟨o2,e2,_,d2⟩⟩:=st
  simp only [List.mem_cons,List.not_mem_nil,or_false] at hb
  rcases hb with rfl | rfl | rfl | rfl | rfl
  ·exact ⟨_,hz,fun v z=>by cases z⟩
  ·exact ⟨_,hTI,fun v z=>by cases z⟩
  ·exact ⟨_,hTO,fun v z=>by cases z⟩
  ·exact ⟨o1,e1,fun v z=>by rw [d1] at z; cases z⟩
  ·exact ⟨o2,e2,fun v z=>by rw [d2] at z; cases z⟩
 keep:=fun i h h' st k=>by
  obtain ⟨hz,hTI,⟨a,b,hTO⟩,h1,h2⟩:=st
  exact ⟨k z (by simp) _ hz,k TI (by simp) _ hTI,⟨a,b,k TO (by simp) _ hTO⟩,h1.at fun o e=>k i1 (by simp) o e,h2.at fun o e=>k i2 (by simp) o e⟩
 item:=by
  intro X hP hw hK hc i pins s σ H E I hf st hg
  subst hP hw hK
  obtain ⟨xs,ys,x,y,hq,hq',hx,hy⟩:=hg
  obtain ⟨its,rv,p0,hz0⟩:=I.tuple hq
  obtain ⟨its',rv',p0',hz0'⟩:=I.tuple hq'
  have p:s.heap.IsTuple l1 its.toArray:=p0
  have p':s.heap.IsTuple l2 its'.toArray:=p0'
  obtain ⟨u,hu,ru⟩:=rv.get hx
  obtain ⟨u',hu',ru'⟩:=rv'.get hy
  have D:=d.apartT st p p' (hf TO (by simp)).1 hKT hq hq'
  obtain ⟨hz,hTI,⟨va,vb,hTO⟩,hi1,hi2⟩:=st
  refine yn8 D hz hTI hTO hi1 hi2 p p' (x:=u) (y:=u') (by simpa using hu) (by simpa using hu') fun h' a1 a2 a3 a4 a5 a6 hk=>?_
  refine ⟨_,rfl,wpAny_letOwnedTupleGo_zip a1 fun h'' hz'' hs''=>?_⟩
  have hTn:H s.heap.objs.size=none:=I.hok.fresh (Nat.le_refl _)
  have lz:z < s.heap.objs.size:=Heap.lt_size hz
  have lo:TO < s.heap.objs.size:=Heap.lt_size hTO
  have lI:TI < s.heap.objs.size:=Heap.lt_size hTI
  have l1':i1 < s.heap.objs.size:=by obtain ⟨o,e,_⟩:=id hi1; exact Heap.lt_size e
  have l2':i2 < s.heap.objs.size:=by obtain ⟨o,e,_⟩:=id hi2; exact Heap.lt_size e
  have keep:∀ b o,b≠z->b≠TO->b≠i1->b≠i2->s.heap.get? b=some o->h''.get? b=some o:=fun b o n1 n2 n3 n4 e=>(hs''.2 b n1).trans (hk b o n1 n2 n3 n4 e)
  have htup:h''.get? s.heap.objs.size=some { cls:=.type "tuple",data:=.seq #[u,u'] }:=(hs''.2 _ (Nat.ne_of_gt lz)).trans a5
  have nt:∀ {b v},H b=some v->b≠z/\b≠TO/\b≠i1/\b≠i2:=fun {b v} e=>⟨ye e (hf z (by simp)).1,ye e (hf TO (by simp)).1,ye e (hf i1 (by simp)).1,ye e (hf i2 (by simp)).1⟩
  have hok:HOk X.prog X.w (upd H s.heap.objs.size (.tup [x,y])) h'':=fun b o e=>by
   by_cases hb:b=s.heap.objs.size
   ·subst hb
    rw [yc] at e
    cases e
    exact ⟨by show 2 <= sizeLine; decide,[u,u'],.cons ru (.cons ru' .nil),⟨_,htup,rfl,_,rfl⟩⟩
   ·rw [yp hb] at e
    refine (I.hok b o e).stay (fun c v hc' q=>?_) (fun c q=>by rw [yp (ye q hTn)]; exact q) fun c ys q=>by rw [yp (ye q hTn)]; exact q
    obtain ⟨n1,n2,n3,n4⟩:c≠z/\c≠TO/\c≠i1/\c≠i2:=by
     rcases hc' with rfl | hc'
     ·exact nt e
     ·exact nt hc'
    exact keep c v n1 n2 n3 n4 q
  have un:Un (frs X.stack) [z,TI,TO,i1,i2] H (upd H s.heap.objs.size (.tup [x,y])) s.heap h'':=by
   have kp:∀ {b o},b∉[z,TI,TO,i1,i2]->s.heap.get? b=some o->h''.get? b=some o:=fun {b o} hb e=>keep b o (fun q=>hb (by simp [q])) (fun q=>hb (by simp [q])) (fun q=>hb (by simp [q])) (fun q=>hb (by simp [q])) e
   refine ⟨fun b o e n _ hx=>kp hx e,fun b o e n _ hx=>⟨o.slots,kp hx e⟩,fun b o e n _=>by rw [yp (Nat.ne_of_lt (Heap.lt_size e))]; exact n,fun b o e hx=>⟨o,kp hx e⟩,
    fun b ys e=>by rw [yp (ye e hTn)]; exact e,fun b o v e=>by rw [yp (ye e hTn)]; exact e,fun b ps e=>⟨#[],by rw [yp (ye e hTn),e]; simp⟩⟩
  have I1:Inv X pins σ (upd H s.heap.objs.size (.tup [x,y])) { s with heap:=h'' }:=I.call' (s':={ s with heap:=h'' }) rfl un hok I.bare fun b hb=>by
   have f:=hf b hb
   exact ⟨f.2.2.2.1,f.2.1,f.2.2.2.2.1,f.2.2.2.2.2⟩
  refine ⟨.ref s.heap.objs.size,_,I1,rfl,⟨_,x,y,rfl,hTn,rfl,fun zs h=>by rw [I.tuple_inj h hq]; exact hx,fun zs h=>by rw [I.tuple_inj h hq']; exact hy⟩,?_,fun b hb=>?_⟩
  ·exact ⟨hz'',keep _ _ D.TIz D.TITO D.TIi1 D.TIi2 hTI,⟨u,u',(hs''.2 _ D.TOz).trans a2⟩,a3.at fun o e=>(hs''.2 _ D.i1z).trans e,a4.at fun o e=>(hs''.2 _ D.i2z).trans e⟩
  ·rw [yp (fun q=>?_)]
   ·exact (hf b hb).1
   ·have hq:b < s.heap.objs.size:=by
     simp only [List.mem_cons,List.not_mem_nil,or_false] at hb
     rcases hb with rfl | rfl | rfl | rfl | rfl <;> assumption
    exact absurd q (Nat.ne_of_lt hq)
 done:=by
  intro X hP hw hK hc i pins s σ H E I hf st hg
  subst hP hw hK
  obtain ⟨xs,ys,hq,hq',hx⟩:=hg
  obtain ⟨its,rv,p0,hz0⟩:=I.tuple hq
  obtain ⟨its',rv',p0',hz0'⟩:=I.tuple hq'
  have p:s.heap.IsTuple l1 its.toArray:=p0
  have p':s.heap.IsTuple l2 its'.toArray:=p0'
  have D:=d.apartT st p p' (hf TO (by simp)).1 hKT hq hq'
  obtain ⟨hz,hTI,⟨va,vb,hTO⟩,hi1,hi2⟩:=st
  have hl:=rv.length
  have hl':=rv'.length
  refine yoz (show X.A.handled=none from I.ok.hd hc) D hz hTI hTO hi1 hi2 p p' (by simp; omega) fun h' hk=>⟨rfl,?_⟩
  have nt:∀ {b v},H b=some v->b≠z/\b≠TO/\b≠i1/\b≠i2:=fun {b v} e=>⟨ye e (hf z (by simp)).1,ye e (hf TO (by simp)).1,ye e (hf i1 (by simp)).1,ye e (hf i2 (by simp)).1⟩
  have hok:HOk X.prog X.w H h':=fun b o e=>by
   refine (I.hok b o e).stay (fun c v hc' q=>?_) (fun c q=>q) fun c ys q=>q
   obtain ⟨n1,n2,n3,n4⟩:c≠z/\c≠TO/\c≠i1/\c≠i2:=by
    rcases hc' with rfl | hc'
    ·exact nt e
    ·exact nt hc'
   exact hk c v n1 n2 n3 n4 q
  have un:Un (frs X.stack) [z,TI,TO,i1,i2] H H s.heap h':=by
   have kp:∀ {b o},b∉[z,TI,TO,i1,i2]->s.heap.get? b=some o->h'.get? b=some o:=fun {b o} hb e=>hk b o (fun q=>hb (by simp [q])) (fun q=>hb (by simp [q])) (fun q=>hb (by simp [q])) (fun q=>hb (by simp [q])) e
   exact ⟨fun b o e n _ hx=>kp hx e,fun b o e n _ hx=>⟨o.slots,kp hx e⟩,fun b o e n _=>n,fun b o e hx=>⟨o,kp hx e⟩,fun b ys e=>e,fun b o v e=>e,fun b ps e=>⟨#[],by rw [e]; simp⟩⟩
  exact I.call' (s':={ s with heap:=h' }) rfl un hok I.bare fun b hb=>by
   have f:=hf b hb
   exact ⟨f.2.2.2.1,f.2.1,f.2.2.2.2.1,f.2.2.2.2.2⟩
 self:=fun _ _ _ _ _ st h=>wpAny_pyIter_zip st.1 h
section
variable {X:Cx}
def vao (K:W.Frag) (ta:TA):TI:=fun σ H R=>ta σ H fun vs H1=>∃ a b,vs=[.ref a,.ref b]/\(∃ xs ys,SqT K H1 a xs/\SqT K H1 b ys)/\R (va3 K a b) H1
theorem yrv {elts:List Expr} {x1} {tpos:Pos} {l m:Expr} {ta:TA} {p pos:Pos} (hg:Gl X "zip") (hm:X.mg "zip"=none) (ha:PA X [l,m] ta) (hs:starEach [l,m] X.env=[(false,eval l X.env),(false,eval m X.env)]:=by rfl) (hs2:starEach [m] X.env=[(false,eval m X.env)]:=by rfl) :
  PI X (.Tuple elts x1 tpos) (.Call (.Name "zip" p) [l,m] [] pos) (vao X.K ta):=by
 intro pins s σ H R I h
 refine Call_ (yce I hg hm (show bootBuiltins "zip"=some (.type "zip") by decide +kernel) (PyProof.Rows.callWith_type1 (thn (ha pos pins s σ H _ I h) fun us s1 ⟨vs,H1,I1,r1,q1⟩=>?_) (by rw [hs,hs2]) (by rw [hs2]; rfl)))
 obtain ⟨a,b,e,⟨xs,ys,hq,hq'⟩,q⟩:=q1
 subst e
 cases r1 with
 | cons r rr =>
  cases rr with
  | cons r' rr =>
   cases rr
   cases r
   cases r'
   obtain ⟨its,rv,pl,hz⟩:=I1.tuple hq
   obtain ⟨its',rv',pl',hz'⟩:=I1.tuple hq'
   refine yom (show s1.heap.IsTuple a its.toArray from pl) (show s1.heap.IsTuple b its'.toArray from pl') fun h' hz hTI hTO h1 h2 hk=>?_
   refine wpAny_pyIter_zip hz ?_
   have hKT:X.K.lookup (s1.heap.objs.size+3)=none:=by
    cases hl:X.K.lookup (s1.heap.objs.size+3) with
    | none=>rfl
    | some o=>exact absurd (Heap.lt_size (I1.kIn _ o hl)) (Nat.not_lt.mpr (Nat.le_add_right _ _))
   have zap:Zap (s1.heap.objs.size+4) (s1.heap.objs.size+2) (s1.heap.objs.size+3) s1.heap.objs.size (s1.heap.objs.size+1):=yp6 _
   refine ⟨s1.heap.objs.size+4,[s1.heap.objs.size+4,s1.heap.objs.size+2,s1.heap.objs.size+3,s1.heap.objs.size,s1.heap.objs.size+1],_,_,H1,rfl,I1.kept (t':=s1.toks) hk,ykj a b _ _ _ _ _ zap hKT,⟨hz,hTI,⟨_,_,hTO⟩,h1,h2⟩,fun b hb=>?_,q⟩
   have hb:s1.heap.objs.size <= b:=by
    simp only [List.mem_cons,List.not_mem_nil,or_false] at hb
    rcases hb with rfl | rfl | rfl | rfl | rfl <;> omega
   exact I1.fpOk hb (I1.hok.fresh hb)
theorem yrx {K:W.Frag} {ta:TA} {σ:St} {H:Hp} {R:It->Hp->Prop} (h:ta σ H fun vs H1=>∃ a b,vs=[.ref a,.ref b]/\(∃ xs ys,SqT K H1 a xs/\SqT K H1 b ys)/\R (va3 K a b) H1):vao K ta σ H R:=h
end
theorem ygi {K:W.Frag} {a b D:Addr} {xs ys:List V} {g:TG} {te:TE} {n m:Nat} {fr:St} {R:Hp->Prop} {H1:Hp} (f:Nat->V) (hq:SqT K H1 a xs) (hq':SqT K H1 b ys) (h1:m <= xs.length) (h2:m <= ys.length) (h3:xs.length <= m\/ys.length <= m) (hD:H1 D=none)
  (hs:∀ i x y H t pre,i < m->xs[i]?=some x->ys[i]?=some y->vi H1 H->H D=some (.lst ((List.range i).map f))->H t=none->List.length pre=n->g (.ref t) (pre++fr) (upd H t (.tup [x,y])) fun σ' H'=>(∃ pre',List.length pre'=n/\σ'=pre'++fr)/\te σ' H' (MpK H1 D f m i))
  (hd:∀ H,vi H1 H->H D=some (.lst ((List.range m).map f))->R H):yax (va3 K a b) g te n fr D R H1:=by
 refine ⟨cW m (Mp H1 D f),⟨m,by simp,Nat.zero_le _,Mp.zero hD⟩,?_⟩
 rintro i j H ⟨rfl,hi,p⟩
 have q:=p.1.tup hq
 have q':=p.1.tup hq'
 by_cases hlt:i < m
 ·refine .inr ⟨⟨xs,ys,xs[i]'(by omega),ys[i]'(by omega),q,q',List.getElem?_eq_getElem _,List.getElem?_eq_getElem _⟩,fun y H' pre yl hp=>?_⟩
  obtain ⟨t,x,y,rfl,ht,rfl,hx,hy⟩:=yl
  exact hs i x y H t pre hlt (hx xs q) (hy ys q') p.1 p.2 ht hp
 ·have e:i=m:=by omega
  subst e
  exact .inl ⟨⟨xs,ys,q,q',h3⟩,hd H p.1 p.2⟩
end L2
namespace L2
open PySem PySem.Spec PyProof.Rows HT
section
variable {prog:Program} {w:World} {A:Around} {E:Value->Shared->Prop} {s:Shared}
theorem yf5 {t sl:Addr} {items:Array Value} {vl vu:Value} {lo hi:Option Int} {Q:Value->Shared->Prop} (ht:IsTup s.heap t items) (hs:s.heap.IsSliceOf sl vl vu .none) (pl:IsPart vl lo) (pu:IsPart vu hi)
  (hw:sIx items.size 0 lo=0/\sIx items.size items.size hi=items.size) (h:Q (.ref t) s):wpAny (model prog w) A (getItem (.ref t) (.ref sl)) Q E s:=by
 obtain ⟨os,hos,hcs,hds⟩:=id hs
 have hTs:s.TypeIs (.ref sl) "slice":=⟨os,hos,hcs⟩
 unfold getItem
 try with_reducible refine wpAny_holding ?_
 first | refine wpAny_bind (wpAny_pure ?_) | skip
 refine wpAny_bind (wpAny_sequenceKey ht.typeIs (by decide) ?_)
 refine wpAny_bind (wpAny_callSpecial?_slot (name:=Str.ofString "__getitem__") ht.typeIs PyProof.Rows.slot_tuple_getitem
  (wpAny_call_entry PyProof.Rows.slot_tuple_getitem ht.typeIs entry_tuple_getitem ?_ (args_tuple_getitem _ _)))
 show wpAny _ _ (Builtin.Tuple.tupleItemsOf (.ref t) >>= _) _ _ s
 refine wpAny_bind (tupleItemsOf_ ht ?_)
 refine wpAny_bind (wpAny_typeOf hTs ?_)
 rw [if_pos (by decide)]
 refine wpAny_bind (zw hs pl pu ?_)
 have hyes:(((sIx items.size 0 lo:Nat):Int) == 0 && (1:Int) == 1 && (sIx items.size items.size hi - sIx items.size 0 lo) == items.size)=true:=by
  rw [hw.1,hw.2]
  simp
 show wpAny _ _ (if (((sIx items.size 0 lo:Nat):Int) == 0 && (1:Int) == 1 && (sIx items.size items.size hi - sIx items.size 0 lo) == items.size)=true then _ else _) _ _ s
 rw [if_pos hyes]
 refine wpAny_bind (m:=Builtin.Tuple.tupleIsExact _) ?_
 unfold Builtin.Tuple.tupleIsExact
 refine wpAny_bind (wpAny_typeOf ht.typeIs (wpAny_pure ?_))
 show wpAny _ _ (if (Value.type "tuple" == Value.type "tuple")=true then _ else _) _ _ s
 rw [if_pos (by decide)]
 first
  | exact wpAny_bind (wpAny_rule (wpAny_pure ⟨_,rfl,wpAny_pure h⟩))
  | exact wpAny_bind (wpAny_rule (wpAny_bind (wpAny_pure (wpAny_pure ⟨_,rfl,wpAny_pure h⟩))))
  | exact wpAny_bind (wpAny_bind (wpAny_rule (wpAny_pure (wpAny_pure ⟨_,rfl,wpAny_pure h⟩))))
end
section
variable {X:Cx}
def vbz (K:W.Frag):V->Option Int->Option Int->Hp->VK->Prop:=fun x lo hi H Q=>∃ a xs,x=.ref a/\SqT K H a xs/\(HT.sIx xs.length 0 lo=0/\HT.sIx xs.length xs.length hi=xs.length)/\Q (.ref a) H
theorem yta:SlR X (vbz X.K):=by
 intro pins s σ H x v vl vu lo hi sl Q I rx hs pl pu h
 obtain ⟨a,xs,rfl,hx,hw,q⟩:=h
 cases rx
 obtain ⟨its,r,ht,hz⟩:=I.tuple hx
 have hlen:its.toArray.size=xs.length:=by rw [List.size_toArray]; exact r.length.symm
 exact ⟨"tuple",_,PyProof.Rows.slot_tuple_getitem.lookup,ht.typeIs,yf5 ht hs pl pu (by rw [hlen]; exact hw) ⟨.ref a,H,I,rfl,q⟩⟩
end
end L2
namespace L2
open PySem PySem.Spec PyProof.Rows PySem.SeqAt
open AutoSeq1 (wpAny_loadPart')
section
variable {X:Cx}
end
end L2
namespace L2
open PySem PySem.Spec PyProof.Rows
section
variable {X:Cx} {a b:Expr} {ta tb:TE} {pos:Pos} {ts:TS} {st:Stmt}
theorem yuj {op:Operator} {r:R2} (ho:OpR X (binaryOp op) r) (ha:QE X a ta) (hb:QE X b tb):QE X (.BinOp a op b pos) (tOp r ta tb):=by
 unfold QE at ha hb ⊢
 exact yo ho ha hb
end
end L2
namespace L2
open PySem PySem.Spec PyProof.Rows
theorem yls {X:Cx} {K:W.Frag} {e:Expr} {f:Str} {pos:Pos} {ta:TE} (hK:X.K=K) (he:PE X e ta) (hb:attributeBase e f X.env (eval e X.env)=eval e X.env):PE X (.Attribute e f pos) (vcx K ta f):=hK ▸ yw he hb
end L2
namespace L2
open PySem PySem.Spec PyProof.Rows
def ydz (J:It) (tc:TT) (te:TE) (fr:St) (D:Addr) (R:Hp->Prop) (H1:Hp):Prop:=∃ W:Nat->Nat->Hp->Prop,(∃ m,W 0 m (upd H1 D (.lst []))) /\
 ∀ i m H2,W i m H2->(J.stop i H2/\R H2)\/(J.go i H2/\∀ x H3,J.yld i H2 x H3->tc (some x :: fr) H3 fun b H4=>if b=true then te (some x :: fr) H4 (fun y H5=>∃ ys,H5 D=some (.lst ys)/\ys.length < sizeLine/\∃ m',m' < m/\W (i+1) m' (upd H5 D (.lst (ys++[y])))) else ∃ m',m' < m/\W (i+1) m' H4)
def ypp (wi:TI) (tc:TT) (te:TE) (js:List Nat):TE:=fun σ H Q=>wi σ H fun J H1=>∀ D,H1 D=none->ydz J tc te (wl js σ) D (fun H2=>Q (.ref D) H2) H1
section
variable {X:Cx} {iter elt cnd:Expr} {tc:TT} {x:Str} {px pos:Pos} {scope:Scope} {te:TE} {wi:TI} {pins:List (Addr × Obj)} {σ:St} {ys:List Str} {js:List Nat}
theorem yjf {s2:Shared} {H2:Hp} {it:Addr} {fp:List Addr} {tn:Nat->Heap->Prop} {J:It} (hc:X.calm=true)
  (ht:∀ (C:Addr) (s2:Shared) (H2:Hp) (fp:List Addr),PT (X.compF scope ys C x s2 H2 fp) cnd tc) (he:∀ (C:Addr) (s2:Shared) (H2:Hp) (fp:List Addr),PE (X.compF scope ys C x s2 H2 fp) elt te)
  (hcell:∀ y∈scope.names,y.2≠.cell) (hkind:scope.kind=.function) (hx:scope.names.lookup x=some .local) (hnd:(x :: ys).Nodup)
  (hfr:∀ y∈scope.names,y.2=.free->y.1∈ys) (hyc:∀ y∈ys,X.env.kindOf y=some .cell) (hrel:∀ y∈ys,(relabel scope X.env).names.lookup y=some .cell) (hjs:js.map (fun j=>X.N[j]?)=ys.map some)
  (I2:Inv X pins σ H2 s2) (T:ynh X.prog X.w X.K (.Name x px) J fp it tn) (st2:tn 0 s2.heap) (f2:∀ b∈fp,ycg X pins H2 b)
  {R:Addr->Hp->Prop} (h:∀ D,H2 D=none->ydz J tc te (wl js σ) D (R D) H2) {RR:Value->Addr->Result->Shared->Prop} {E:Value->Shared->Prop}
  (hR:∀ (D C:Addr) (H':Hp) (s':Shared) (m:Str->Option Value),ycg X pins H' C->s'.heap.Ns C m->Inv X pins σ H' s'->R D H'->RR (.ref D) C (.ok .next) s') :
  wpAny (model X.prog X.w) X.A (newList []) (fun acc s₃=>wpAny (model X.prog X.w) X.A (newFunctionEnv scope X.env.globals (jb ys X.env) [] X.env.qual none .none (some X.env)) (fun cenv s₄ =>
   codeAny (model X.prog X.w) X.A (.compStart (.ListComp elt [⟨.Name x px,iter,[cnd],0⟩] scope pos) 0 (.ref it) acc { cenv with scope:=relabel scope X.env }) (RR acc cenv.locals) s₄) E s₃) E s2:=by
 have hsub:∀ y c,(jb ys X.env).lookup y=some c->X.env.cells.lookup y=some c:=fun y c e=>by
  obtain ⟨m,rfl⟩:=ybj e
  obtain ⟨c',q⟩:=I2.ok.has y (.inl (hyc y m))
  rw [q]
  rfl
 refine wpAny_newObj_type (wpAny_newFunctionEnv hcell (by intro y hy; simp at hy) (fun h₁ hns₁ hsb₁=>?_) hkind)
 dsimp only at hns₁ hsb₁ ⊢
 generalize hH2:s2.heap.push { cls:=.type "list",dict:=none,data:=.seq ([]:List Value).toArray }=G at hns₁ hsb₁ ⊢
 have hC:G.objs.size=s2.heap.objs.size+1:=by rw [<- hH2,Heap.size_push]
 have hDC:s2.heap.objs.size≠G.objs.size:=by rw [hC]; exact Nat.ne_of_lt (Nat.lt_succ_self _)
 have hCle:s2.heap.objs.size <= G.objs.size:=by rw [hC]; exact Nat.le_succ _
 have below:∀ b,b < s2.heap.objs.size->b≠G.objs.size/\b≠s2.heap.objs.size:=fun b hb=>⟨by rw [hC]; exact Nat.ne_of_lt (Nat.lt_succ_of_lt hb),Nat.ne_of_lt hb⟩
 have old:∀ b o,s2.heap.get? b=some o->h₁.get? b=some o:=fun b o e=>hsb₁.extBut b o (below b (Heap.lt_size e)).1 (Heap.get?_push_of_some _ (hH2 ▸ Heap.get?_push_of_some _ e))
 have hacc:h₁.get? s2.heap.objs.size=some { cls:=.type "list",data:=.seq ([]:List Value).toArray }:=hsb₁.extBut _ _ hDC (Heap.get?_push_of_some _ (hH2 ▸ Heap.get?_push_size _ rfl))
 have fpl:∀ b∈fp,b < s2.heap.objs.size:=fun b hb=>let ⟨_,e,_⟩:=T.obj 0 _ st2 b hb; Heap.lt_size e
 have fpS:∀ b∈fp,b∉frs X.stack:=fun b hb z=>(List.mem_cons.mp (I2.stkSub b z)).elim (f2 b hb).2.1 (f2 b hb).2.2.1
 have nC:H2 G.objs.size=none:=I2.hok.fresh hCle
 have nD:H2 s2.heap.objs.size=none:=I2.hok.fresh (Nat.le_refl _)
 have cellOld:∀ y c,(jb ys X.env).lookup y=some c->∃ v o,s2.heap.get? c=some o/\o.data=.cell v:=fun y c e=>by
  obtain ⟨v,o,q1,q2⟩:=I2.cell y c (hsub y c e)
  exact ⟨v,o,q1,q2⟩
 have okC:(X.compF scope ys G.objs.size x s2 H2 fp).Ok:=by
  refine ⟨I2.ok.mod,hkind,I2.ok.glob,I2.ok.blt,hCle,fun y z c e e'=>I2.ok.inj y z c (hsub y c e) (hsub z c e'),fun y e=>?_,fun y c z e=>(by cases z),I2.ok.hd,I2.ok.frames,.inl rfl,fun b hb=>⟨(below b (fpl b hb)).1,fun y c e=>(f2 b hb).2.2.2.2.1 y c (hsub y c e)⟩,I2.bs,?_,fun b o e hb=>?_,fun b hb=>fpS b hb,I2.stack,I2.stkFree⟩
  ·have e':(relabel scope X.env).names.lookup y=some .cell\/(relabel scope X.env).names.lookup y=some .free:=e
   have hin:y∈ys:=by
    rcases e' with e' | e'
    ·obtain ⟨k0,m,q⟩:=w4 e'
     rcases q with q | q
     ·exact absurd q.symm (hcell _ m)
     ·exact hfr _ m q
    ·obtain ⟨k0,m,q⟩:=w4 e'
     rcases q with q | q
     ·exact hfr _ m q.symm
     ·exact hfr _ m q
   exact ⟨_,zr hin⟩
  ·exact Nat.le_trans I2.ok.bsz I2.sz
  ·rcases (f2 b hb).2.2.2.1 with z | z
   ·exact I2.ok.noex b o e z
   ·exact absurd (Nat.lt_of_lt_of_le (Heap.lt_size (I2.ok.bs b o e).1) z) (Nat.lt_irrefl _)
 have hlen:(wl js σ).length=ys.length:=by
  have:=congrArg List.length hjs
  simpa [wl] using this
 have I3:∀ tk,Inv (X.compF scope ys G.objs.size x s2 H2 fp) [] (none :: wl js σ) (upd H2 s2.heap.objs.size (.lst [])) { s2 with heap:=h₁,toks:=tk }:=fun tk =>
  ⟨okC,rfl,I2.bare,Un.laid old (Nat.le_refl _) nD,⟨_,hns₁,fun i y v e1 e2 e3=>by
    cases i with
    | zero=>cases e2
    | succ i =>
     have e1:ys[i]?=some y:=by simpa using e1
     have e2:(wl js σ)[i]?=some (some v):=by simpa using e2
     have hy:y∈ys:=List.mem_of_getElem? e1
     have ej:=congrArg (fun l=>l[i]?) hjs
     simp only [List.getElem?_map,e1,Option.map_some] at ej
     cases q:js[i]? with
     | none=>rw [q] at ej; cases ej
     | some j =>
      rw [q] at ej
      have ej:X.N[j]?=some y:=by simpa using ej
      have es:σ[j]?=some (some v):=by
       simp only [wl,List.getElem?_map,q,Option.map_some,Option.some.injEq] at e2
       cases r:σ[j]? with
       | none=>rw [r] at e2; cases e2
       | some w'=>rw [r] at e2; rw [show w'=some v from e2]
      obtain ⟨m0,_,hl0⟩:=I2.loc
      obtain ⟨u,ru,lk⟩:=hl0 j y v ej es (.inr (.inl (hyc y hy)))
      refine ⟨u,ru,.inr ⟨.inl (hrel y hy),?_⟩⟩
      rcases lk with ⟨k1,_⟩ | ⟨_,c,ec,o,ho,hd⟩
      ·rw [hyc y hy] at k1; cases k1
      ·refine ⟨c,?_,o,old c o ho,hd⟩
       show (jb ys X.env).lookup y=some c
       rw [zr hy,ec]
       rfl⟩,fun y c e=>(by
    obtain ⟨v,o,q1,q2⟩:=cellOld y c e
    exact ⟨v,o,old c o q1,q2⟩),(by show upd H2 s2.heap.objs.size _ G.objs.size=none; rw [yp hDC.symm]; exact nC),fun y c e=>(by
    obtain ⟨v,o,q1,q2⟩:=cellOld y c e
    show upd H2 s2.heap.objs.size _ c=none
    rw [yp (below c (Heap.lt_size q1)).2]
    exact I2.freeC y c (hsub y c e)),fun p hp=>(by simp at hp),
   I2.hok.laid old (Nat.le_refl _) ⟨Nat.zero_le _,[],_,.nil,hacc⟩,by show (none :: wl js σ).length=(x :: ys).length; simp [hlen]⟩
 have stat:∀ {H':Hp},(∀ b∈fp,H' b=none)->∀ b∈fp,ycg (X.compF scope ys G.objs.size x s2 H2 fp) [] H' b:=fun hn b hb=>⟨hn b hb,(below b (fpl b hb)).1,fpS b hb,.inl hb,fun y c e=>(f2 b hb).2.2.2.2.1 y c (hsub y c e),fun p hp=>(by simp at hp)⟩
 have loop:∀ tk,codeAny (model X.prog X.w) X.A (.compLoop (.ListComp elt [⟨.Name x px,iter,[cnd],0⟩] scope pos) 0 (.ref it) (.ref s2.heap.objs.size) (compEnvC scope (jb ys X.env) G.objs.size X.env)) (RR (.ref s2.heap.objs.size) G.objs.size) { s2 with heap:=h₁,toks:=tk }:=by
  intro tk
  obtain ⟨W,⟨m0,w0⟩,turn⟩:=h s2.heap.objs.size nD
  refine codeAny_loop rfl (fun n s'=>∃ i v H',Inv (X.compF scope ys G.objs.size x s2 H2 fp) [] (v :: wl js σ) H' s'/\tn i s'.heap/\(∀ b∈fp,H' b=none)/\W i n H') (fun n s' hI=>?_) m0
   ⟨0,none,_,I3 tk,T.keep 0 _ _ st2 (fun b hb o e=>old b o e),fun b hb=>(by rw [yp (below b (fpl b hb)).2]; exact (f2 b hb).1),w0⟩
  obtain ⟨i,v,H',I,st,fr,w⟩:=hI
  show wpAny _ _ ((compTurn (.ListComp elt [⟨.Name x px,iter,[cnd],0⟩] scope pos) 0 (.ref it) (.ref s2.heap.objs.size) (compEnvC scope (jb ys X.env) G.objs.size X.env)).onRaise (fun x=>do noteFrame x (compEnvC scope (jb ys X.env) G.objs.size X.env); theTreesLotGoes x)) _ _ s'
  refine wpAny_noted ?_
  rw [compTurn_list]
  refine wpAny_bind (wpAny_standAt (wpAny_bind ?_))
  rcases turn i n H' w with ⟨stop,q⟩ | ⟨go,step⟩
  ·refine thn (T.done (X.compF scope ys G.objs.size x s2 H2 fp) rfl rfl rfl hc i [] s' (v :: wl js σ) H' _ I (stat fr) st stop) fun r s4 ⟨hr,I4⟩=>?_
   subst hr
   refine wpAny_pure ?_
   obtain ⟨m,hn,_⟩:=I4.loc
   exact hR _ _ H' s4 m (I2.fpOk hCle I4.free) hn (I2.call' (ch:=fp) I4.os I4.base I4.hok I4.bare fun b hb=>⟨(f2 b hb).2.2.2.1,(f2 b hb).2.1,(f2 b hb).2.2.2.2.1,(f2 b hb).2.2.2.2.2⟩) q
  ·refine thn (T.item (X.compF scope ys G.objs.size x s2 H2 fp) rfl rfl rfl hc i [] s' (v :: wl js σ) H' _ I (stat fr) st go) fun r s4 ⟨u,hr,h4⟩=>?_
   subst hr
   refine wpAny_bind (thn h4 fun _ s5 ⟨y,H5,I5,r5,y5,st5,fr5⟩=>wpAny_bind ?_)
   have I5':=I5.pinned (stat fr5) (T.obj _ _ st5)
   refine wpAny_assign_Name (uw (i:=0) I5' hnd rfl (Or.inl (lookup_relabel_local hx)) r5 (fun s6 I6=>?_) (Or.inr (lookup_relabel_local hx)))
   refine wpAny_bind (wpAny_tests_one (ynj (ht _ _ _ _ _ s6 (some y :: wl js σ) H5 _ I6 (step y H5 y5)) fun b s7 ⟨H6,I7,q7⟩=>?_))
   cases b with
   | false =>
    obtain ⟨m',hm,w'⟩:=q7
    have pin:∀ b∈fp,∀ o,s5.heap.get? b=some o->s7.heap.get? b=some o/\H6 b=none:=fun b hb o e =>
     ⟨(I7.pin (b,o) (List.mem_append_right _ (List.mem_append_right _ (wf hb e)))).1,(I7.pin (b,o) (List.mem_append_right _ (List.mem_append_right _ (wf hb e)))).2.1⟩
    refine wpAny_pure ⟨rfl,m',hm,i+1,some y,_,I7.unpinned,T.keep _ _ _ st5 fun b hb o e=>(pin b hb o e).1,fun b hb=>?_,w'⟩
    obtain ⟨o,e,d⟩:=T.obj _ _ st5 b hb
    exact (pin b hb o e).2
   | true =>
    refine wpAny_bind (wpAny_bind (ynj (he _ _ _ _ _ s7 (some y :: wl js σ) H6 _ I7 q7) fun u2 s7 ⟨y2,H7,I7,r7,zs,hD,hl,m',hm,w'⟩=>wpAny_bind ?_))
    refine ynj (xh _ s7 (some y :: wl js σ) H7 (.ref s2.heap.objs.size) [y2] (.ref s2.heap.objs.size) [u2] (fun _ H8=>H8=upd H7 s2.heap.objs.size (.lst (zs++[y2]))) I7 rfl (.cons r7 .nil) ⟨_,zs,y2,rfl,rfl,hD,hl,rfl⟩) fun _ s8 ⟨_,H8,I8,_,e8⟩=>?_
    subst e8
    have pin:∀ b∈fp,∀ o,s5.heap.get? b=some o->s8.heap.get? b=some o/\upd H7 s2.heap.objs.size (HO.lst (zs++[y2])) b=none:=fun b hb o e =>
     ⟨(I8.pin (b,o) (List.mem_append_right _ (List.mem_append_right _ (wf hb e)))).1,(I8.pin (b,o) (List.mem_append_right _ (List.mem_append_right _ (wf hb e)))).2.1⟩
    refine wpAny_pure (wpAny_pure ⟨rfl,m',hm,i+1,some y,_,I8.unpinned,T.keep _ _ _ st5 fun b hb o e=>(pin b hb o e).1,fun b hb=>?_,w'⟩)
    obtain ⟨o,e,d⟩:=T.obj _ _ st5 b hb
    exact (pin b hb o e).2
 exact codeAny_compStart_list (loop _) (T.self X.A 0 _ _ _ (T.keep 0 _ _ st2 (fun b hb o e=>old b o e)) (loop _))
theorem yoy {i:Nat} {y:Str} {py spos:Pos} (hN:X.N.Nodup) (hy:X.N[i]?=some y) (hl:X.env.scope.names.lookup y=some .local) (hc:X.calm=true) (hi:PI X (.Name x px) iter wi)
  (ht:∀ (C:Addr) (s2:Shared) (H2:Hp) (fp:List Addr),PT (X.compF scope ys C x s2 H2 fp) cnd tc) (he:∀ (C:Addr) (s2:Shared) (H2:Hp) (fp:List Addr),PE (X.compF scope ys C x s2 H2 fp) elt te) (hjs:js.map (fun j=>X.N[j]?)=ys.map some)
  (hclos:closureFor scope X.env=pure (jb ys X.env)) (hyc:∀ y∈ys,X.env.kindOf y=some .cell) (hrel:∀ y∈ys,(relabel scope X.env).names.lookup y=some .cell)
  (hsw:swapsWith (.ListComp elt [⟨.Name x px,iter,[cnd],0⟩] scope pos) (some (.Name y py)) spos.line X.env=pure true:=by rfl) (hnd:(x :: ys).Nodup:=by decide)
  (hfr:∀ y∈scope.names,y.2=.free->y.1∈ys:=by decide +kernel) (hcell:∀ y∈scope.names,y.2≠.cell:=by decide +kernel) (hkind:scope.kind=.function:=by rfl)
  (hnames:∀ y∈scope.names,y.2=.local->scope.names.lookup y.1=some .local:=by decide +kernel) (hx:scope.names.lookup x=some .local:=by rfl) (hs:∀ x,foldedSetIterable iter X.env x=pure x:=by intro _; rfl) :
  PS X (.Assign [.Name y py] (.ListComp elt [⟨.Name x px,iter,[cnd],0⟩] scope pos) spos) (yvz (ypp wi tc te js) (xk i)):=by
 intro pins s σ H D0 I h
 rw [exec_Assign_Name_used _ _ _ _ hsw]
 refine wpAny_bind (wpAny_standAt (wpAny_bind ?_))
 show wpAny _ X.A (do let _ <- comprehension (.ListComp elt [⟨.Name x px,iter,[cnd],0⟩] scope pos) scope X.env _ (newList []) false (eval iter X.env) (some (assign (.Name y py) X.env))) _ _ s
 refine wpAny_bind (wpAny_mono (wpAny_comprehension_free (use:=some (assign (.Name y py) X.env)) (Q:=fun _ s'=>SP X pins D0 .next s') rfl hs hclos hkind hnames (thn (hi pins s σ H _ I h) fun v s1 h1=>thn h1 fun itv s2 h2=>?_)) (fun _ s' hq=>wpAny_pure (wpAny_pure hq)) fun _ _ e=>e)
 obtain ⟨it,fp,tn,J,H2,e,I2,T,st2,f2,h⟩:=h2
 subst e
 refine yjf (R:=fun D H'=>xk i (.ref D) σ H' D0.nx) (RR:=compPost (model X.prog X.w) X.A X.xe (some (assign (.Name y py) X.env)) (fun _ s'=>SP X pins D0 .next s')) hc ht he hcell hkind hx hnd hfr hyc hrel hjs I2 T st2 f2 h ?_
 intro D C H' s' m f hn I' q
 refine wpAny_assign_Name (yac (v:=V.ref D) I' hN hy (Or.inl hl) rfl (fun s'' I'' k''=>?_) (Or.inr hl))
 refine ⟨m,?_,fun h' sb=>⟨_,H',?_,q⟩⟩
 ·obtain ⟨b,sb,hb⟩:=k''
  refine hn.sameBut sb fun z=>?_
  rcases hb with hb | hb
  ·exact f.2.1 (z.trans hb)
  ·exact f.2.2.2.2.1 y b hb z.symm
 ·exact I''.turned (t':=s''.toks) (fun b o hb e=>sb.extBut b o hb e) f.1 f.2.1 f.2.2.2.1 f.2.2.2.2.1 f.2.2.2.2.2
theorem yrw {H:Hp} {Q:VK} (h:wi σ H fun J H1=>∀ D,H1 D=none->ydz J tc te (wl js σ) D (fun H2=>Q (.ref D) H2) H1):ypp wi tc te js σ H Q:=h
theorem yfy {lo:Int} {n:Nat} {D:Addr} {tc:TT} {te:TE} {fr:St} {R:Hp->Prop} {H1:Hp} (Pv:Nat->Hp->Prop) (h0:Pv 0 (upd H1 D (.lst [])))
  (hs:∀ i H,i < n->Pv i H->tc (some (.int (lo+i)) :: fr) H fun b H4=>if b=true then te (some (.int (lo+i)) :: fr) H4 (fun y H5=>∃ ys,H5 D=some (.lst ys)/\ys.length < sizeLine/\∃ m',m' < n - i/\cW n Pv (i+1) m' (upd H5 D (.lst (ys++[y])))) else ∃ m',m' < n - i/\cW n Pv (i+1) m' H4)
  (hd:∀ H,Pv n H->R H):ydz (Itr lo n) tc te fr D R H1:=by
 refine ⟨cW n Pv,⟨n,by simp,Nat.zero_le _,h0⟩,?_⟩
 rintro i m H ⟨rfl,hi,p⟩
 by_cases hlt:i < n
 ·refine .inr ⟨hlt,fun x H' y=>?_⟩
  obtain ⟨e,y⟩:=y
  subst e y
  exact hs i _ hlt p
 ·have e:i=n:=by omega
  subst e
  exact .inl ⟨Nat.le_refl _,hd H p⟩
theorem ylm {n i:Nat} {Pv:Nat->Hp->Prop} {H4:Hp} (hi:i < n) (p:Pv (i+1) H4):∃ m',m' < n - i/\cW n Pv (i+1) m' H4:=⟨n - (i+1),by omega,rfl,hi,p⟩
end
end L2
namespace L2
open PySem PySem.Spec PyProof.Rows
structure yfs (K:W.Frag) (x qual:Str) (st:Stmt) (D:Addr) (f:Addr) (fd:FuncData):Prop where
 ex:∃ (oc:Value) (od:Option Addr) (kV doc pm:Value) (an:Option Addr) (cdv ct:Value) (osl:Array (Option Value)),
  fd=W.fnOf x qual (xb st) (wx st) (yj st) (.ref D) kV doc pm an cdv ct/\K.lookup f=some ⟨oc,od,.func fd,osl⟩/\W.codeIn K cdv qual=true
 kp:W.keepIn K (.ref f)=true
section
variable {P:Program} {w:World} {K:W.Frag} {mg:Str->Option Value} {base:Heap}
theorem yfs.okE {x qual:Str} {st:Stmt} {f D:Addr} {fd:FuncData} {N ps:List Str} {k:Nat} {sp:Sp} (F:yfs K x qual st D f fd) (S:ym N ps (yj st)) (len:∀ vs H Q E,sp vs H Q E->vs.length=ps.length)
  (hbody:∀ (cdv:Value) (A:Around) (outer:List Env) (s:Shared) (H:Hp) (vs:List V) (Q:VK) (E:XK),jv k (A.deeper (envOfC qual (yj st) s.heap.objs.size f cdv))->sp vs H Q E ->
   ∃ t,PSs (wk (CXe P w) P w K mg base N qual (yj st) f cdv A outer s H E) (wx st) t/\t { nx:=fun _ H'=>Q .non H',rt:=Q } (yba N vs) H):wv P w K mg base (CXe P w) (k+1) f fd ps sp:=by
 obtain ⟨oc,od,kV,doc,pm,an,cdv,ct,osl,rfl,lk,hcd⟩:=F.ex
 exact yty lk hcd S len fun A outer s H vs Q E hr hsp=>hbody cdv A outer s H vs Q E hr hsp
theorem yfs.binds {x qual:Str} {st:Stmt} {f D:Addr} {fd:FuncData} {ps:List Str} {ds:List Value} {o:Obj} {its:Array Value} {n j:Nat} (hj:j+ds.length=ps.length) (F:yfs K x qual st D f fd) (hD:K.lookup D=some o) (ho:o.data=.seq its n)
  (h:∀ (kV doc pm:Value) (an:Option Addr) (cdv ct:Value) (us:List Value),us.length=j ->
   ∃ k:Option (Array Value)->Sem (List (Str × Value)),bindArgs (W.fnOf x qual (xb st) (wx st) (yj st) (.ref D) kV doc pm an cdv ct) ⟨us,[]⟩=(seqItems? (.ref D) >>= k)/\k (some its)=pure (ps.zip (us++ds))):uk K fd ps ds:=by
 obtain ⟨oc,od,kV,doc,pm,an,cdv,ct,osl,rfl,lk,hcd⟩:=F.ex
 intro s us hK hl
 obtain ⟨k,h1,h2⟩:=h kV doc pm an cdv ct us (by rw [List.length_append] at hl; omega)
 exact BindsTo.of_defaults rfl (hK _ _ hD) ho h1 h2
theorem yg0 {x qual:Str} {st:Stmt} {f D:Addr} {oc:Value} {od an:Option Addr} {osl:Array (Option Value)} {kV doc pm cdv ct:Value} (l:K.lookup f=some ⟨oc,od,.func (W.fnOf x qual (xb st) (wx st) (yj st) (.ref D) kV doc pm an cdv ct),osl⟩)
  (c:W.codeIn K cdv qual=true) (k:W.keepIn K (.ref f)=true):yfs K x qual st D f (W.fnOf x qual (xb st) (wx st) (yj st) (.ref D) kV doc pm an cdv ct):=⟨⟨oc,od,kV,doc,pm,an,cdv,ct,osl,rfl,l,c⟩,k⟩
end
end L2
namespace L2
open PySem PySem.Spec PyProof.Rows
end L2
namespace L2
open PySem PySem.Spec PyProof.Rows
end L2
namespace L2
open PySem PySem.Spec PyProof.Rows
section
variable {X:Cx} {body suite:List Stmt} {b₀:Stmt} {tx n:Str} {np hpos pos:Pos} {D:Addr} {i:Nat} {tb:(St->XK)->TS} {ts:TS}
abbrev THs:=yc1->St->Addr->Addr->Hp->Prop
def PHs (X:Cx) (hs:List ExceptHandler) (th:THs):Prop:=∀ (pins:List (Addr × Obj)) (s:Shared) (σ:St) (H:Hp) (x T Ca:Addr) (En:yc1),Inv X pins σ H s->Fy X pins H x->Fy X pins H T->Trd s.heap x T (.ref Ca) .none->th En σ Ca x H ->
 wpAny (model X.prog X.w) X.A (handleBy (.ref x) X.env hs) (SP X pins En) X.xe s
def vbs:THs:=fun _ _ _ _ _=>False
theorem yxm:PHs X [] vbs:=fun _ _ _ _ _ _ _ _ _ _ _ _ h=>h.elim
theorem vp {K:W.Frag} {C D:Addr} {b:Bool} (h0:W.subIn K (.ref D) (.type "BaseException")=some true) (h1:W.hasDictIn K D=true) (h2:W.typeIn K (.ref D)=some (.type "type"))
  (h3:W.subIn K (.ref C) (.ref D)=some b):W.exmOne K (.ref C) (.ref D)=some b:=by
 obtain ⟨cd,h,_⟩:=W.any_some h1
 unfold W.exmOne W.kitCls
 rw [h0]
 dsimp only
 rw [h,h2,h3]
 cases b <;> rfl
def exH (th:THs) (En:yc1):St->XK:=fun σ' C _ H'=>∀ x,H' x=none->∃ Ca,C=.ref Ca/\th En σ' Ca x H'
def vad (tb:(St->XK)->TS) (th:THs):TS:=fun En σ H=>tb (exH th En) En σ H
theorem yr1 {h₀:ExceptHandler} {hs:List ExceptHandler} {th:THs} (hb:∀ pn Ex,PSs (X.tr pn Ex) body (tb Ex)) (hst:X.stack=X.env :: X.outer/\X.env.frame=some X.env.locals) (hh:PHs X (h₀ :: hs) th) :
  PS X (.Try body (h₀ :: hs) [] [] pos) (vad tb th):=by
 intro pins s σ H En I h
 have toX:∀ {f s'},SP (X.tr (X.pn++pins) (exH th En)) [] En f s'->SP X pins En f s':=fun {f s'} q=>by
  cases f with
  | next=>obtain ⟨σ',H',J,q⟩:=q; exact ⟨σ',H',J.unwish.unpnd,q⟩
  | brk=>obtain ⟨σ',H',J,q⟩:=q; exact ⟨σ',H',J.unwish.unpnd,q⟩
  | cont=>obtain ⟨σ',H',J,q⟩:=q; exact ⟨σ',H',J.unwish.unpnd,q⟩
  | ret u=>obtain ⟨v,σ',H',J,r,q⟩:=q; exact ⟨v,σ',H',J.unwish.unpnd,r,q⟩
 refine wpAny_Try_except (wpAny_mono (hb (X.pn++pins) (exH th En) [] s σ H En (I.pnd.wish _) h) (fun f s1 q=>?_) fun e s1 q=>?_)
 ·have q:=toX q
  cases f with
  | next=>exact wpAny_execs_nil q
  | brk=>exact q
  | cont=>exact q
  | ret u=>exact q
 ·obtain ⟨ps,σ',H',x,T,C,rfl,J,hx,hT,tr,q⟩:=q
  have J:Inv X pins σ' H' s1:=J.unpnd
  have hx:Fy X pins H' x:=⟨hx.1,hx.2.1,hx.2.2.1,hx.2.2.2.1,hx.2.2.2.2.1,fun p hp=>hx.2.2.2.2.2 p (List.mem_append_left _ hp)⟩
  have hT:Fy X pins H' T:=⟨hT.1,hT.2.1,hT.2.2.1,hT.2.2.2.1,hT.2.2.2.2.1,fun p hp=>hT.2.2.2.2.2 p (List.mem_append_left _ hp)⟩
  obtain ⟨Ca,rfl,q2⟩:=q x hx.1
  obtain ⟨a0,ta⟩:=jw (X:=X) tr
  have fr:=J.ok.frames
  rw [hst.1] at fr
  have lf:=jh (x:=x) (T:=T) J
  rw [hst.1] at lf
  refine wpAny_noteFrame_onW (base:=hid s1 X x T) fr lf hst.2 ta jg ynd fun h2 ⟨k1,k2,k3,k4⟩=>?_
  rw [<- hst.1] at k2
  obtain ⟨J,T2,hT,tr⟩:=xi J hx hT k1 k2 k3 k4
  obtain ⟨a0,ta⟩:=jw (s:={ s1 with heap:=h2 }) (X:=X) tr
  refine wpAny_setFlight_noneW (base:=hid { s1 with heap:=h2 } X x T2) jg (jh J) ta fun h3 k1 k2 k3 k4=>?_
  obtain ⟨J,T3,hT,tr⟩:=xi J hx hT k1 k2 k3 fun b o e nf=>⟨o.slots,k4 b o e nf⟩
  exact hh pins _ σ' H' x T3 Ca En J hx hT tr q2
end
section
variable {σ:St} {H:Hp} {nx:St->Hp->Prop} {rt:VK} {bk ct:St->Hp->Prop} {ts:TS}
theorem yyg {th:THs} {tb:(St->XK)->TS} (h:tb (exH th ⟨nx,rt,bk,ct⟩) ⟨nx,rt,bk,ct⟩ σ H):vad tb th ⟨nx,rt,bk,ct⟩ σ H:=h
end
end L2
namespace L2
open PySem PySem.Spec PyProof.Rows
section
variable {X:Cx} {pins:List (Addr × Obj)} {σ:St} {H:Hp} {s:Shared} {x T:Addr} {C:Value} {M:Model} {A:Around} {E:Value->Shared->Prop}
theorem ykx {base:Heap} {l:List Env} {e:Addr} {cl a0 fl:Value} {fm:Option Addr} {Q:Unit->Shared->Prop}
  (hk:base.StaysIn s.heap) (hl:s.heap.FunFrames base l) (tr:s.heap.TracedAtW base e cl a0 fl)
  (h:∀ h',base.StaysIn h'->h'.FunFrames base l->h'.TracedAtW base e cl a0 (fm.elim Value.none fun f=>rawInt f)->(∀ b o,s.heap.get? b=some o->(∀ vs,o.data≠.fields vs)->h'.get? b=some o)->Q () { s with heap:=h' }) :
  wpAny M A (setFlight (.ref e) fm) Q E s:=by
 obtain ⟨oe,us,U,oU,ws,q1,q2,q3,q4,q5,q6,q7,q8,q9⟩:=tr
 have q10:3 < ws.size:=(Array.getElem?_eq_some_iff.mp q9).1
 have oth:∀ b,b≠U->(s.heap.update U (Obj.mapFields (·.setIfInBounds 3 (fm.elim Value.none fun f=>rawInt f)))).get? b=s.heap.get? b:=fun b hb=>Heap.get?_update_other _ _ (Ne.symm hb)
 have nor:∀ b o,s.heap.get? b=some o->(∀ vs,o.data≠.fields vs)->b≠U:=fun b o hb hn z=>by
  rw [z,q7] at hb
  cases hb
  exact hn ws q8
 unfold setFlight
 refine wpAny_bind (wpAny_field q1 q3 q4 ?_)
 rw [if_pos (show (Value.ref U != Value.none)=true by simp)]
 refine wpAny_setField q7 q8 q10 (h _ (fun b o e=>(oth b fun z=>by rw [z,q5] at e; cases e).trans (hk b o e)) (hl.of_keeps fun b o e n=>⟨o,(oth b (nor b o e n)).trans e,rfl⟩) ?_ fun b o e n=>(oth b (nor b o e n)).trans e)
 exact ⟨oe,us,U,_,_,(oth e (Ne.symm q6)).trans q1,q2,q3,q4,q5,q6,Heap.get?_update_self _ q7 (Obj.isFreed_of_fields (Obj.data_mapFields q8 _)),Obj.data_mapFields q8 _,by simp [q10]⟩
theorem ytq {what:String} {α:Type} {env:Env} {L:Addr} {Q:α->Shared->Prop} (hL:env.frame=some L) (J:Inv X pins σ H s) (hx:Fy X pins H x) (hT:Fy X pins H T) (tr:Trd s.heap x T C (rawInt L))
  (k:∀ s' T',Inv X pins σ H s'->Fy X pins H T'->Trd s'.heap x T' C (rawInt L)->E (.ref x) s'):wpAny M A (passOn what (.ref x) env:Sem α) Q E s:=by
 obtain ⟨a0,ta⟩:=jw (X:=X) tr
 obtain ⟨oe,us,oU,ws,a1,q1,q2,q3,q4,q5,q6,q7,q8⟩:=id tr
 unfold PySem.passOn
 refine wpAny_bind (wpAny_field q1 q3 q4 ?_)
 rw [if_neg (show ¬ ((Value.ref T == Value.none)=true) by simp)]
 refine wpAny_bind (ykx (base:=hid s X x T) jg (jh J) ta fun h' k1 k2 k3 k4=>?_)
 rw [hL] at k3
 obtain ⟨J',T',hT',t'⟩:=xi J hx hT k1 k2 k3 fun b o e nf=>⟨o.slots,k4 b o e nf⟩
 exact wpAny_throw (k _ T' J' hT' t')
def yra (X:Cx) (Ex:XK):Prop:=∀ (pins:List (Addr × Obj)) (σ:St) (H:Hp) (s':Shared) (x T:Addr) (C:Value) (L:Addr),X.env.frame=some L->Inv X pins σ H s'->Fy X pins H x->Fy X pins H T->Trd s'.heap x T C (rawInt L)->Ex C none H->X.xe (.ref x) s'
theorem yab {P:Program} {w:World} {K:W.Frag} {mg:Str->Option Value} {base:Heap} {N:List Str} {qual:Str} {scope:Scope} {f:Addr} {cd:Value} {A:Around} {outer:List Env} {s:Shared} {H:Hp} {E:XK} :
  yra (wk (CXe P w) P w K mg base N qual scope f cd A outer s H E) E:=by
 intro pins σ H1 s' x T C L hL I hx hT tr q
 show wpAny _ _ (leaving _ _) _ _ _
 obtain ⟨a0,ta⟩:=jw (X:=wk (CXe P w) P w K mg base N qual scope f cd A outer s H E) tr
 unfold leaving
 refine wpAny_bind (wpAny_noteFrame_againW (base:=hid s' (wk (CXe P w) P w K mg base N qual scope f cd A outer s H E) x T) hL ta ?_)
 refine wpAny_setFlight_noneW (base:=hid s' (wk (CXe P w) P w K mg base N qual scope f cd A outer s H E) x T) jg (jh I) ta fun h' k1 k2 k3 k4=>?_
 obtain ⟨I',T',hT',t'⟩:=xi I hx hT k1 k2 k3 fun b o e nf=>⟨o.slots,k4 b o e nf⟩
 have nw:∀ {b},Fy (wk (CXe P w) P w K mg base N qual scope f cd A outer s H E) pins H1 b->H1 b=none/\s.heap.get? b=none:=fun hb=>⟨hb.1,hb.2.2.2.1.resolve_left (by intro z; cases z)⟩
 exact ⟨x,T',C,H1,rfl,I'.os,I'.bare,I'.base,I'.hok,nw hx,nw hT',t',q⟩
end
section
variable {X:Cx} {iter elt:Expr} {x:Str} {px pos:Pos} {scope:Scope} {te:TE} {wi:TI} {pins:List (Addr × Obj)} {σ:St}
theorem ypm {s2:Shared} {H2 H':Hp} {C b:Addr} {fp:List Addr} (I2:Inv X pins σ H2 s2) (f2:∀ b∈fp,ycg X pins H2 b) (hb:Fy (X.comp scope C x s2 H2 fp) [] H' b):Fy X pins H' b:=by
 obtain ⟨h1,h2,h3,h4,h5,h6⟩:=hb
 rcases h4 with h4 | h4
 ·obtain ⟨g1,g2,g3,g4,g5,g6⟩:=f2 b h4
  refine ⟨h1,g2,g3,g4.imp id fun z=>?_,g5,g6⟩
  cases e:X.s₀.heap.get? b with
  | none=>rfl
  | some o=>exact absurd (Nat.lt_of_lt_of_le (Heap.lt_size e) z) (Nat.lt_irrefl _)
 ·have h4:s2.heap.get? b=none:=h4
  refine ⟨h1,fun z=>?_,fun z=>h3 ?_,?_,fun y c e z=>?_,fun p hp z=>?_⟩
  ·obtain ⟨m,hn,_⟩:=I2.loc
   obtain ⟨oL,_,_,hoL,_⟩:=id hn
   rw [<- z,h4] at hoL
   cases hoL
  ·show b∈frs X.stack
   rcases I2.ok.stk with e | ⟨e,hf⟩
   ·rw [e]; exact z
   ·rw [e]
    obtain ⟨v,hv,hb⟩:=List.mem_filterMap.mp z
    exact List.mem_filterMap.mpr ⟨v,List.mem_cons_of_mem _ hv,hb⟩
  ·by_cases y:b∈X.ex
   ·exact .inl y
   ·refine .inr ?_
    cases e:X.s₀.heap.get? b with
    | none=>rfl
    | some o =>
     obtain ⟨o',e'⟩:=I2.base.there b o e y
     rw [h4] at e'
     cases e'
  ·obtain ⟨v,q⟩:=I2.cell y c e
   obtain ⟨o,e1,_⟩:=q
   rw [z,h4] at e1
   cases e1
  ·have e1:=(I2.pin p hp).1
   rw [z,h4] at e1
   cases e1
theorem yi3 {L:Addr} {Ex:XK} {te':(St->XK)->TE} {s2:Shared} {H2:Hp} {it:Addr} {fp:List Addr} {tn:Nat->Heap->Prop} {J:It} (hc:X.calm=true)
  (he:∀ (C:Addr) (s2:Shared) (H2:Hp) (fp:List Addr) (pn:List (Addr × Obj)) (Ex:St->XK),PE ((X.comp scope C x s2 H2 fp).tr pn Ex) elt (te' Ex)) (hst:X.stack=X.env :: X.outer/\X.env.frame=some L)
  (hfree:∀ y∈scope.names,y.2≠.free) (hcell:∀ y∈scope.names,y.2≠.cell) (hkind:scope.kind=.function) (hx:scope.names.lookup x=some .local)
  (I2:Inv X pins σ H2 s2) (T:ynh X.prog X.w X.K (.Name x px) J fp it tn) (st2:tn 0 s2.heap) (f2:∀ b∈fp,ycg X pins H2 b)
  {R:Addr->Hp->Prop} (h:∀ D,H2 D=none->yan J (te' fun _=>Ex) D (R D) H2) {RR:Value->Env->Result->Shared->Prop} {E:Value->Shared->Prop}
  (hR:∀ (D C:Addr) (H':Hp) (s':Shared) (m:Str->Option Value),ycg X pins H' C->s'.heap.Ns C m->Inv X pins σ H' s'->R D H'->RR (.ref D) (compEnv scope C X.env) (.ok .next) s')
  (hE:∀ (D C:Addr) (H':Hp) (s':Shared) (m:Str->Option Value) (y U:Addr) (Cl:Value),ycg X pins H' C->s'.heap.Ns C m->Inv X pins σ H' s'->Fy X pins H' y->Fy X pins H' U->y≠C->U≠C->Trd s'.heap y U Cl (rawInt L)->Ex Cl none H'->RR (.ref D) (compEnv scope C X.env) (.error (.ref y)) s') :
  wpAny (model X.prog X.w) X.A (newList []) (fun acc s₃=>wpAny (model X.prog X.w) X.A (newFunctionEnv scope X.env.globals [] [] X.env.qual none .none (some X.env)) (fun cenv s₄ =>
   codeAny (model X.prog X.w) X.A (.compStart (.ListComp elt [⟨.Name x px,iter,[],0⟩] scope pos) 0 (.ref it) acc { cenv with scope:=scope }) (RR acc { cenv with scope:=scope }) s₄) E s₃) E s2:=by
 refine wpAny_newObj_type (wpAny_newFunctionEnv hcell (by intro y hy; simp at hy) (fun h₁ hns₁ hsb₁=>?_) hkind)
 dsimp only at hns₁ hsb₁ ⊢
 generalize hH2:s2.heap.push { cls:=.type "list",dict:=none,data:=.seq ([]:List Value).toArray }=G at hns₁ hsb₁ ⊢
 have hC:G.objs.size=s2.heap.objs.size+1:=by rw [<- hH2,Heap.size_push]
 have hDC:s2.heap.objs.size≠G.objs.size:=by rw [hC]; exact Nat.ne_of_lt (Nat.lt_succ_self _)
 have hCle:s2.heap.objs.size <= G.objs.size:=by rw [hC]; exact Nat.le_succ _
 have below:∀ b,b < s2.heap.objs.size->b≠G.objs.size/\b≠s2.heap.objs.size:=fun b hb=>⟨by rw [hC]; exact Nat.ne_of_lt (Nat.lt_succ_of_lt hb),Nat.ne_of_lt hb⟩
 have old:∀ b o,s2.heap.get? b=some o->h₁.get? b=some o:=fun b o e=>hsb₁.extBut b o (below b (Heap.lt_size e)).1 (Heap.get?_push_of_some _ (hH2 ▸ Heap.get?_push_of_some _ e))
 have hacc:h₁.get? s2.heap.objs.size=some { cls:=.type "list",data:=.seq ([]:List Value).toArray }:=hsb₁.extBut _ _ hDC (Heap.get?_push_of_some _ (hH2 ▸ Heap.get?_push_size _ rfl))
 have fpl:∀ b∈fp,b < s2.heap.objs.size:=fun b hb=>let ⟨_,e,_⟩:=T.obj 0 _ st2 b hb; Heap.lt_size e
 have fpS:∀ b∈fp,b∉frs X.stack:=fun b hb z=>(List.mem_cons.mp (I2.stkSub b z)).elim (f2 b hb).2.1 (f2 b hb).2.2.1
 have nC:H2 G.objs.size=none:=I2.hok.fresh hCle
 have nD:H2 s2.heap.objs.size=none:=I2.hok.fresh (Nat.le_refl _)
 have okC:(X.comp scope G.objs.size x s2 H2 fp).Ok:=by
  refine ⟨I2.ok.mod,hkind,I2.ok.glob,I2.ok.blt,hCle,fun y z c e=>(by cases e),fun y e=>?_,fun y c _ e=>(by cases e),I2.ok.hd,I2.ok.frames,.inl rfl,fun b hb=>⟨(below b (fpl b hb)).1,fun y c e=>(by cases e)⟩,I2.bs,?_,fun b o e hb=>?_,fun b hb=>fpS b hb,I2.stack,I2.stkFree⟩
  ·exfalso
   have e':scope.names.lookup y=some .cell\/scope.names.lookup y=some .free:=e
   rcases e' with e' | e'
   ·exact hcell _ (PySem.mem_of_lookup e') rfl
   ·exact hfree _ (PySem.mem_of_lookup e') rfl
  ·exact Nat.le_trans I2.ok.bsz I2.sz
  ·rcases (f2 b hb).2.2.2.1 with z | z
   ·exact I2.ok.noex b o e z
   ·exact absurd (Nat.lt_of_lt_of_le (Heap.lt_size (I2.ok.bs b o e).1) z) (Nat.lt_irrefl _)
 have I3:∀ tk,Inv (X.comp scope G.objs.size x s2 H2 fp) [] [none] (upd H2 s2.heap.objs.size (.lst [])) { s2 with heap:=h₁,toks:=tk }:=fun tk =>
  ⟨okC,rfl,I2.bare,Un.laid old (Nat.le_refl _) nD,⟨_,hns₁,fun i y v _ e _=>by
    cases i with
    | zero=>cases e
    | succ i=>simp at e⟩,fun y c e=>(by cases e),(by show upd H2 s2.heap.objs.size _ G.objs.size=none; rw [yp hDC.symm]; exact nC),fun y c e=>(by cases e),fun p hp=>(by simp at hp),
   I2.hok.laid old (Nat.le_refl _) ⟨Nat.zero_le _,[],_,.nil,hacc⟩,rfl⟩
 have stat:∀ {H':Hp},(∀ b∈fp,H' b=none)->∀ b∈fp,ycg (X.comp scope G.objs.size x s2 H2 fp) [] H' b:=fun hn b hb=>⟨hn b hb,(below b (fpl b hb)).1,fpS b hb,.inl hb,fun y c e=>(by cases e),fun p hp=>(by simp at hp)⟩
 have loop:∀ tk,codeAny (model X.prog X.w) X.A (.compLoop (.ListComp elt [⟨.Name x px,iter,[],0⟩] scope pos) 0 (.ref it) (.ref s2.heap.objs.size) (compEnv scope G.objs.size X.env)) (RR (.ref s2.heap.objs.size) (compEnv scope G.objs.size X.env)) { s2 with heap:=h₁,toks:=tk }:=by
  intro tk
  obtain ⟨W,⟨m0,w0⟩,turn⟩:=h s2.heap.objs.size nD
  refine codeAny_loop rfl (fun n s'=>∃ i v H',Inv (X.comp scope G.objs.size x s2 H2 fp) [] [v] H' s'/\tn i s'.heap/\(∀ b∈fp,H' b=none)/\W i n H') (fun n s' hI=>?_) m0
   ⟨0,none,_,I3 tk,T.keep 0 _ _ st2 (fun b hb o e=>old b o e),fun b hb=>(by rw [yp (below b (fpl b hb)).2]; exact (f2 b hb).1),w0⟩
  obtain ⟨i,v,H',I,st,fr,w⟩:=hI
  show wpAny _ _ ((compTurn (.ListComp elt [⟨.Name x px,iter,[],0⟩] scope pos) 0 (.ref it) (.ref s2.heap.objs.size) (compEnv scope G.objs.size X.env)).onRaise (fun x=>do noteFrame x (compEnv scope G.objs.size X.env); theTreesLotGoes x)) _ _ s'
  refine wpAny_noted ?_
  rw [compTurn_list1]
  refine wpAny_bind (wpAny_standAt (wpAny_bind ?_))
  rcases turn i n H' w with ⟨stop,q⟩ | ⟨go,step⟩
  ·refine thn (T.done (X.comp scope G.objs.size x s2 H2 fp) rfl rfl rfl hc i [] s' [v] H' _ I (stat fr) st stop) fun r s4 ⟨hr,I4⟩=>?_
   subst hr
   refine wpAny_pure ?_
   obtain ⟨m,hn,_⟩:=I4.loc
   exact hR _ _ H' s4 m (I2.fpOk hCle I4.free) hn (I2.call' (ch:=fp) I4.os I4.base I4.hok I4.bare fun b hb=>⟨(f2 b hb).2.2.2.1,(f2 b hb).2.1,(f2 b hb).2.2.2.2.1,(f2 b hb).2.2.2.2.2⟩) q
  ·refine thn (T.item (X.comp scope G.objs.size x s2 H2 fp) rfl rfl rfl hc i [] s' [v] H' _ I (stat fr) st go) fun r s4 ⟨u,hr,h4⟩=>?_
   subst hr
   refine wpAny_bind (thn h4 fun _ s5 ⟨y,H5,I5,r5,y5,st5,fr5⟩=>wpAny_bind ?_)
   have I5':=I5.pinned (stat fr5) (T.obj _ _ st5)
   refine wpAny_assign_Name (uw (i:=0) I5' (by simp) rfl (Or.inl hx) r5 (fun s6 I6=>?_) (Or.inl rfl))
   refine wpAny_bind (wpAny_bind (wpAny_mono (he G.objs.size s2 H2 fp (ycc fp s5.heap) (fun _=>Ex) [] s6 [some y] H5 _ (I6.pnd.wish _) (step y H5 y5)) (fun u2 s7 ⟨y2,H7,I7,r7,ys,hD,hl,m',hm,w'⟩=>wpAny_bind ?_) fun e7 s7 q7=>?_))
   rotate_left
   ·obtain ⟨ps7,σ7,H7,xe,Te,Cl,rfl,J,hxe,hTe,tr,q⟩:=q7
    have J:Inv (X.comp scope G.objs.size x s2 H2 fp) (ycc fp s5.heap) σ7 H7 s7:=J.unpnd
    have hxe:Fy (X.comp scope G.objs.size x s2 H2 fp) [] H7 xe:=⟨hxe.1,hxe.2.1,hxe.2.2.1,hxe.2.2.2.1,hxe.2.2.2.2.1,fun p hp=>(by simp at hp)⟩
    have hTe:Fy (X.comp scope G.objs.size x s2 H2 fp) [] H7 Te:=⟨hTe.1,hTe.2.1,hTe.2.2.1,hTe.2.2.2.1,hTe.2.2.2.2.1,fun p hp=>(by simp at hp)⟩
    have J:Inv (X.comp scope G.objs.size x s2 H2 fp) [] σ7 H7 s7:=Inv.unpinned (pins:=[]) J
    obtain ⟨a0,ta⟩:=jw (X:=X.comp scope G.objs.size x s2 H2 fp) tr
    have fr7:=J.ok.frames
    have lf7:=jh (x:=xe) (T:=Te) J
    have es:(X.comp scope G.objs.size x s2 H2 fp).stack=X.env :: X.outer:=hst.1
    rw [es] at fr7 lf7
    show wpAny _ _ (noteFrame (.ref xe) X.env) _ _ _
    refine wpAny_noteFrame_onW (base:=hid s7 (X.comp scope G.objs.size x s2 H2 fp) xe Te) fr7 lf7 hst.2 ta jg ynd fun h8 ⟨k1,k2,k3,k4⟩=>?_
    rw [<- es] at k2
    obtain ⟨J8,T8,hT8,tr8⟩:=xi J hxe hTe k1 k2 k3 k4
    obtain ⟨m8,hn8,_⟩:=J8.loc
    exact hE _ _ H7 _ m8 xe T8 Cl (I2.fpOk hCle J8.free) hn8 (I2.call' (ch:=fp) J8.os J8.base J8.hok J8.bare fun b hb=>⟨(f2 b hb).2.2.2.1,(f2 b hb).2.1,(f2 b hb).2.2.2.2.1,(f2 b hb).2.2.2.2.2⟩) (ypm I2 f2 hxe) (ypm I2 f2 hT8) hxe.2.1 hT8.2.1 tr8 q
   have I7:Inv (X.comp scope G.objs.size x s2 H2 fp) ([]++ycc fp s5.heap) [_] H7 s7:=I7.unwish.unpnd
   refine ynj (xh _ s7 [some y] H7 (.ref s2.heap.objs.size) [y2] (.ref s2.heap.objs.size) [u2] (fun _ H8=>H8=upd H7 s2.heap.objs.size (.lst (ys++[y2]))) I7 rfl (.cons r7 .nil) ⟨_,ys,y2,rfl,rfl,hD,hl,rfl⟩) fun _ s8 ⟨_,H8,I8,_,e8⟩=>?_
   subst e8
   have pin:∀ b∈fp,∀ o,s5.heap.get? b=some o->s8.heap.get? b=some o/\upd H7 s2.heap.objs.size (HO.lst (ys++[y2])) b=none:=fun b hb o e =>
    ⟨(I8.pin (b,o) (List.mem_append_right _ (List.mem_append_right _ (wf hb e)))).1,(I8.pin (b,o) (List.mem_append_right _ (List.mem_append_right _ (wf hb e)))).2.1⟩
   refine wpAny_pure (wpAny_pure ⟨rfl,m',hm,i+1,some y,_,I8.unpinned,T.keep _ _ _ st5 fun b hb o e=>(pin b hb o e).1,fun b hb=>?_,w'⟩)
   obtain ⟨o,e,d⟩:=T.obj _ _ st5 b hb
   exact (pin b hb o e).2
 exact codeAny_compStart_list (loop _) (T.self X.A 0 _ _ _ (T.keep 0 _ _ st2 (fun b hb o e=>old b o e)) (loop _))
def yqw (wi:TI) (te:(St->XK)->TE) (Ex:XK):TE:=fun σ H Q=>wi σ H fun J H1=>∀ D,H1 D=none->yan J (te fun _=>Ex) D (fun H2=>Q (.ref D) H2) H1
theorem ybl {L:Addr} {Ex:XK} {te:(St->XK)->TE} (hc:X.calm=true) (hi:PI X (.Name x px) iter wi) (he:∀ (C:Addr) (s2:Shared) (H2:Hp) (fp:List Addr) (pn:List (Addr × Obj)) (Ex:St->XK),PE ((X.comp scope C x s2 H2 fp).tr pn Ex) elt (te Ex))
  (hst:X.stack=X.env :: X.outer/\X.env.frame=some L) (hca:yra X Ex)
  (hfree:∀ y∈scope.names,y.2≠.free:=by decide +kernel) (hcell:∀ y∈scope.names,y.2≠.cell:=by decide +kernel) (hkind:scope.kind=.function:=by rfl)
  (hnames:∀ y∈scope.names,y.2=.local->scope.names.lookup y.1=some .local:=by decide +kernel) (hx:scope.names.lookup x=some .local:=by rfl) (hs:∀ x,foldedSetIterable iter X.env x=pure x:=by intro _; rfl) :
  PE X (.ListComp elt [⟨.Name x px,iter,[],0⟩] scope pos) (yqw wi te Ex):=by
 intro pins s σ H Q I h
 refine wpAny_ListComp hfree hkind hnames (thn (hi pins s σ H _ I h) fun v s1 h1=>thn h1 fun itv s2 h2=>?_) hs
 obtain ⟨it,fp,tn,J,H2,e,I2,T,st2,f2,h⟩:=h2
 subst e
 refine yi3 (L:=L) (Ex:=Ex) (R:=fun D H'=>Q (.ref D) H') (RR:=fun acc cenv r s'=>∃ m,s'.heap.Ns cenv.locals m/\∀ h',Heap.SameBut cenv.locals s'.heap h' ->
  match r with | .ok _=>EP X pins σ Q acc { s' with heap:=h' } | .error x=>wpAny (model X.prog X.w) X.A (passOn "comprehension.variables-let-go" x cenv) (EP X pins σ Q) X.xe { s' with heap:=h' }) hc he hst hfree hcell hkind hx I2 T st2 f2 h ?_ ?_
 ·intro D C H' s' m f hn I' q
  refine ⟨m,hn,fun h' sb=>⟨.ref D,H',?_,rfl,q⟩⟩
  exact I'.turned (t':=s'.toks) (fun b o hb e=>sb.extBut b o hb e) f.1 f.2.1 f.2.2.2.1 f.2.2.2.2.1 f.2.2.2.2.2
 ·intro D C H' s' m y U Cl f hn I' hy hU ny nU tr q
  refine ⟨m,hn,fun h' sb=>?_⟩
  have I'':=I'.turned (t':=s'.toks) (h':=h') (fun b o hb e=>sb.extBut b o hb e) f.1 f.2.1 f.2.2.2.1 f.2.2.2.2.1 f.2.2.2.2.2
  have tr':Trd h' y U Cl (rawInt L):=by
   obtain ⟨oe,us,oU,ws,a1,q1,q2,q3,q4,q5,q6,q7,q8⟩:=tr
   exact ⟨oe,us,oU,ws,a1,sb.extBut _ _ ny q1,q2,q3,q4,q5,sb.extBut _ _ nU q6,q7,q8⟩
  exact ytq (X:=X) (env:=compEnv scope C X.env) (L:=L) hst.2 I'' hy hU tr' fun s3 T3 I3 hT3 t3=>hca pins σ H' s3 y T3 Cl L hst.2 I3 hy hT3 t3 q
end
section
variable {σ:St} {H:Hp} {Q:VK} {wi:TI} {te:(St->XK)->TE} {Ex:XK}
theorem yma (h:wi σ H fun J H1=>∀ D,H1 D=none->yan J (te fun _=>Ex) D (fun H2=>Q (.ref D) H2) H1):yqw wi te Ex σ H Q:=h
end
end L2
namespace L2
open PySem PySem.Spec PyProof.Rows
section
variable {M:Model} {h:Heap} {K:W.Frag}
theorem yfe {β:Type} {g:Value->β->Sem (ForInStep β)} {b0:β} {cs:List Value} (hg:∀ c∈cs,W.Looks M h (g c b0) (.yield b0)):W.Looks M h (forIn cs b0 g) b0:=by
 induction cs with
 | nil =>
  intro A Q E s k q
  rw [List.forIn_nil]
  exact wpAny_pure q
 | cons c r ih =>
  intro A Q E s k q
  rw [List.forIn_cons]
  exact wpAny_bind (hg c (by simp) A _ E s k (ih (fun d hd=>hg d (by simp [hd])) A Q E s k q))
theorem ysh {cs:List Value} {cls:Value} {tp e:Addr} {m:Nat} {ob:Obj} (X:K.In h) (LT:W.Looks M h (typeOf (.ref e)) cls) {h2:Heap} (hk:∀ b o,h.get? b=some o->h2.get? b=some o) (hp:h2.get? tp=some ob) (hc:ob.cls=.type "tuple") (hd:ob.data=.seq cs.toArray m) (hx:∀ c∈cs,W.exmOne K cls c=some false):W.Looks M h2 (excMatches (.ref e) (.ref tp)) false:=by
 have it:W.Looks M h2 (isInstance (.ref tp) (.type "tuple")) true:=by
  have e:W.Looks M h2 (typeOf (.ref tp)) ob.cls:=(W.Looks.ld hp).andThen .now
  rw [hc] at e
  exact e.andThen (W.Looks.of_pure isSubtype_tuple_tuple)
 intro A Q E s k q
 have kk:∀ b o,h.get? b=some o->s.heap.get? b=some o:=fun b o z=>k b o (hk b o z)
 unfold excMatches
 refine wpAny_bind (it A _ E s k ?_)
 dsimp only
 rw [if_pos rfl]
 refine wpAny_bind (wpAny_seqItems (k _ _ hp) hd ?_)
 dsimp only [Option.getD_some,Option.getD]
 refine wpAny_bind (wpAny_pure ?_)
 refine wpAny_bind (yfe (M:=M) (h:=h) (cs:=cs) (fun c hc=>?_) A _ E s kk ?_)
 ·intro A Q E s k q
  obtain ⟨e1,_⟩:=W.exm_cls (M:=M) X (hx c hc)
  refine wpAny_bind (e1 A _ E s k ?_)
  rw [if_neg (by decide)]
  exact wpAny_pure q
 ·refine wpAny_bind (LT A _ E s kk ?_)
  refine wpAny_bind (yfe (M:=M) (h:=h) (b0:=((none:Option Bool),())) (cs:=cs) (fun c hc=>?_) A _ E s kk ?_)
  ·intro A Q E s k q
   obtain ⟨_,e1⟩:=W.exm_cls (M:=M) X (hx c hc)
   refine wpAny_bind (e1 A _ E s k ?_)
   rw [if_neg (by decide)]
   exact wpAny_pure q
  ·exact wpAny_pure q
end
section
variable {X:Cx} {suite:List Stmt} {b₀:Stmt} {tx n:Str} {np hpos pos:Pos} {D:Addr} {i:Nat} {ts:TS}
def thN (K:W.Frag) (D:Addr) (i:Nat) (ts:TS) (tr:THs):THs:=fun En σ Ca x H=>(W.exmOne K (.ref Ca) (.ref D)=some true/\ts (En.un i) (σ.set i (some (.ref x))) (upd H x (.ext (ybe x Ca))))\/(W.exmOne K (.ref Ca) (.ref D)=some false/\tr En σ Ca x H)
theorem ydp {zb:List ExceptHandler} {tr:THs} (hg:Gl X tx) (hm:X.mg tx=some (.ref D)) (hs:∀ pn x,PSs (X.su pn x) (b₀ :: suite) ts) (hN:X.N.Nodup) (hi:X.N[i]?=some n) (hl:X.env.scope.names.lookup n=some .local) (hr:PHs X zb tr) (hdb:(tx == ("__debug__":Str))=false:=by decide) :
  PHs X (.ExceptHandler (some (.Name tx np)) (some n) (b₀ :: suite) hpos :: zb) (thN X.K D i ts tr):=by
 intro pins s σ H x T Ca En J hx hT tr' q
 refine wpAny_handleBy_cons (codeAny_handlers_test (zv (J.su x) hg hm ?_ hdb)) (by intro z; cases z)
 have at3:ybe x Ca s.heap:=by
  obtain ⟨oe,_,_,_,_,e1,e2,_⟩:=id tr'
  exact ⟨oe,e1,e2.1⟩
 have ok:=J.ok
 rcases q with ⟨hex,q⟩ | ⟨hex,q⟩
 ·refine W.exm_one (M:=model X.prog X.w) (h:=s.heap) J.kIn at3.type hex _ _ _ _ (fun _ _ z=>z) ?_
  dsimp only [if_true]
  refine codeAny_handlers_suite_as ?_
  obtain ⟨a0,ta⟩:=jw (s:=s) (X:=X) tr'
  refine wpAny_setFlight_noneW (base:=hid s X x T) jg (jh J) ta fun h4 k1 k2 k3 k4=>?_
  obtain ⟨J,T4,hT,tr'⟩:=xi J hx hT k1 k2 k3 fun b o e nf=>⟨o.slots,k4 b o e nf⟩
  have at4:ybe x Ca h4:=by
   obtain ⟨oe,_,_,_,_,e1,e2,_⟩:=id tr'
   exact ⟨oe,e1,e2.1⟩
  have J:=J.track (o:=.ext (ybe x Ca)) hx ⟨at4,let ⟨ox,z,_⟩:=at4; ⟨ox,z⟩,fun h1 h2 ⟨ox,z1,z2⟩ k=>⟨ox,k _ z1,z2⟩⟩
  refine uw (X:=X.su (X.pn++pins) x) (i:=i) (v:=V.ref x) (J.su x) hN hi (Or.inl hl) rfl (fun s5 J5=>?_) (Or.inr hl)
  refine wpAny_mono (hs (X.pn++pins) x [] s5 _ _ (En.un i) J5 q) (fun f s6 q=>?_) fun _ _ z=>False.elim z
  cases f with
  | next=>obtain ⟨σ6,H6,J6,q⟩:=q; exact (J6.unsu ok).unbind hN hi hl fun s7 J7=>⟨_,H6,J7,q⟩
  | brk=>obtain ⟨σ6,H6,J6,q⟩:=q; exact (J6.unsu ok).unbind hN hi hl fun s7 J7=>⟨_,H6,J7,q⟩
  | cont=>obtain ⟨σ6,H6,J6,q⟩:=q; exact (J6.unsu ok).unbind hN hi hl fun s7 J7=>⟨_,H6,J7,q⟩
  | ret u=>obtain ⟨v,σ6,H6,J6,r,q⟩:=q; exact (J6.unsu ok).unbind hN hi hl fun s7 J7=>⟨v,_,H6,J7,r,q⟩
 ·refine W.exm_one (M:=model X.prog X.w) (h:=s.heap) J.kIn at3.type hex _ _ _ _ (fun _ _ z=>z) ?_
  exact hr pins _ σ H x T Ca En J hx hT tr' q
def thT (K:W.Frag) (cs:List Addr) (tr:THs):THs:=fun En σ Ca x H=>(∀ D∈cs,W.exmOne K (.ref Ca) (.ref D)=some false)/\∀ p,H p=none->p≠x->tr En σ Ca x (upd H p (.tup (cs.map V.ref)))
theorem ypn {es:List Expr} {px2:Pos} {ctx:Nat} {cs:List Addr} {t:TE} {zb:List ExceptHandler} {tr:THs} (ht:∀ pn x,PE (X.su pn x) (.Tuple es ctx px2) t) (hte:∀ σ H (Q:VK),(∀ p,H p=none->Q (.ref p) (upd H p (.tup (cs.map V.ref))))->t σ H Q) (hr:PHs X zb tr) :
  PHs X (.ExceptHandler (some (.Tuple es ctx px2)) none (b₀ :: suite) hpos :: zb) (thT X.K cs tr):=by
 intro pins s σ H x T Ca En J hx hT tr' q
 obtain ⟨hcl,q⟩:=q
 obtain ⟨oe,us,oU,ws,a1,q1,q2,q3,q4,q5,q6,q7,q8⟩:=id tr'
 have ok:=J.ok
 have J2:Inv X (pins++[(x,oe),(T,oU)]) σ H s:=J.pins_of fun p hp=>by
  rcases List.mem_append.mp hp with z | z
  ·exact J.pin p (List.mem_append_right _ z)
  ·simp only [List.mem_cons,List.not_mem_nil,or_false] at z
   rcases z with rfl | rfl
   ·exact ⟨q1,hx.1,hx.2.1,hx.2.2.1,fun v e=>by rw [q3] at e; cases e⟩
   ·exact ⟨q6,hT.1,hT.2.1,hT.2.2.1,fun v e=>by rw [q7] at e; cases e⟩
 have at3:ybe x Ca s.heap:=⟨oe,q1,q2.1⟩
 refine wpAny_handleBy_cons (codeAny_handlers_test ?_) (by intro z; cases z)
 refine wpAny_mono (ht (X.pn++(pins++[(x,oe),(T,oU)])) x [] s σ H (fun v H1=>∃ p,v=.ref p/\H p=none/\H1=upd H p (.tup (cs.map V.ref))) (J2.su x) (hte σ H _ fun p hp=>⟨p,rfl,hp,rfl⟩)) (fun c s1 hc=>?_) fun _ _ z=>False.elim z
 obtain ⟨v,H1,I1,r1,p,rfl,hp,rfl⟩:=hc
 obtain rfl:c=.ref p:=r1
 have I1:=I1.unsu ok
 have px:=I1.pin (x,oe) (by simp)
 have pT:=I1.pin (T,oU) (by simp)
 have hx1:Fy X pins (upd H p (.tup (cs.map V.ref))) x:=⟨px.2.1,hx.2⟩
 have hT1:Fy X pins (upd H p (.tup (cs.map V.ref))) T:=⟨pT.2.1,hT.2⟩
 have tr1:Trd s1.heap x T (.ref Ca) .none:=⟨oe,us,oU,ws,a1,px.1,q2,q3,q4,q5,pT.1,q7,q8⟩
 have I1:Inv X pins σ (upd H p (.tup (cs.map V.ref))) s1:=Inv.unpinned I1
 have at1:ybe x Ca s1.heap:=⟨oe,px.1,q2.1⟩
 obtain ⟨_,its,hv,ho⟩:=I1.hok p (.tup (cs.map V.ref)) yc
 have ev:=yb6 hv
 subst ev
 have nx:=q p hp fun z=>by have e:=px.2.1; rw [z] at e; exact absurd (yc.symm.trans e) (by intro w; cases w)
 obtain ⟨ob,o1,o2,m,o3⟩:=ho
 refine ysh (M:=model X.prog X.w) (h:=s1.heap) I1.kIn at1.type (fun _ _ z=>z) o1 o2 o3 (fun c hc=>?_) _ _ _ _ (fun _ _ z=>z) ?_
 ·obtain ⟨D,hD,rfl⟩:=List.mem_map.mp hc
  exact hcl D hD
 ·exact hr pins _ σ _ x T Ca En I1 hx1 hT1 tr1 nx
end
section
variable {σ:St} {H:Hp} {ts:TS} {K:W.Frag} {Ca D:Addr} {tr:THs} {En:yc1} {i:Nat} {cs:List Addr}
theorem yvr (hex:W.exmOne K (.ref Ca) (.ref D)=some true) (h:∀ x,H x=none->ts (En.un i) (σ.set i (some (.ref x))) (upd H x (.ext (ybe x Ca)))):exH (thN K D i ts tr) En σ (.ref Ca) none H:=fun x hx=>⟨Ca,rfl,.inl ⟨hex,h x hx⟩⟩
theorem ym7 (hex:W.exmOne K (.ref Ca) (.ref D)=some false) (h:exH tr En σ (.ref Ca) none H):exH (thN K D i ts tr) En σ (.ref Ca) none H:=fun x hx=>by
 obtain ⟨C',e,q⟩:=h x hx
 cases e
 exact ⟨Ca,rfl,.inr ⟨hex,q⟩⟩
theorem yc0 (hex:∀ D∈cs,W.exmOne K (.ref Ca) (.ref D)=some false) (h:∀ p,H p=none->exH tr En σ (.ref Ca) none (upd H p (.tup (cs.map V.ref)))):exH (thT K cs tr) En σ (.ref Ca) none H:=fun x hx=>by
 refine ⟨Ca,rfl,hex,fun p hp hne=>?_⟩
 obtain ⟨C',e,q⟩:=h p hp x (by rw [yp hne.symm]; exact hx)
 cases e
 exact q
end
end L2
namespace L2
open PySem PySem.Spec PyProof.Rows
structure Dg (K:W.Frag) (x q:Str) (st:Stmt) (f:Addr) (fd:FuncData) (M:Prop):Prop where
 F:Fun K x q st f fd
 m:M
structure Df (K:W.Frag) (x q:Str) (st:Stmt) (ps:List Str) (f:Addr) (fd:FuncData) (M:Prop):Prop where
 F:Fun K x q st f fd
 B:uk K fd ps []
 m:M
abbrev Dgf (K:W.Frag) (mg:Str->Option Value) (x:Str) (st:Stmt) (f:Addr) (fd:FuncData):Prop:=Dg K x x st f fd (mg x=some (.ref f))
abbrev Dgm (K:W.Frag) (C:Addr) (x q:Str) (st:Stmt) (f:Addr) (fd:FuncData):Prop:=Dg K x q st f fd (yv4 K C x f)
abbrev Dff (K:W.Frag) (mg:Str->Option Value) (x:Str) (st:Stmt) (ps:List Str) (f:Addr) (fd:FuncData):Prop:=Df K x x st ps f fd (mg x=some (.ref f))
abbrev Dfm (K:W.Frag) (C:Addr) (x q:Str) (st:Stmt) (ps:List Str) (f:Addr) (fd:FuncData):Prop:=Df K x q st ps f fd (yv4 K C x f)
section
variable {K:W.Frag} {mg:Str->Option Value} {h:Heap} {x q:Str} {st:Stmt} {f C:Addr} {fd:FuncData} {M:Prop} {oc kV doc pm cdv ct:Value} {od an:Option Addr} {osl:Array (Option Value)}
theorem dgf_mk (X:K.In h) (G:h.Ns mainGlobals mg) (a:W.nsIn K mainGlobals x=some (some (.ref f))) (l:K.lookup f=some ⟨oc,od,.func (W.fnOf x x (xb st) (wx st) (yj st) .none kV doc pm an cdv ct),osl⟩)
  (c:W.codeIn K cdv x=true) (k:W.keepIn K (.ref f)=true):Dgf K mg x st f (W.fnOf x x (xb st) (wx st) (yj st) .none kV doc pm an cdv ct):=⟨yrg l c k,W.mg_of X G a⟩
theorem dgm_mk (a:W.findIn K (.ref C) x=some (some (.ref f))) (i:W.isFn K (.ref f)=true) (l:K.lookup f=some ⟨oc,od,.func (W.fnOf x q (xb st) (wx st) (yj st) .none kV doc pm an cdv ct),osl⟩)
  (c:W.codeIn K cdv q=true) (k:W.keepIn K (.ref f)=true):Dgm K C x q st f (W.fnOf x q (xb st) (wx st) (yj st) .none kV doc pm an cdv ct):=⟨yrg l c k,a,i,k⟩
theorem Dg.d1 {p0:Str} (D:Dg K x q st f fd M) (h:∀ (kV doc pm:Value) (an:Option Addr) (cdv ct:Value) (u0:Value),bindArgs (W.fnOf x q (xb st) (wx st) (yj st) .none kV doc pm an cdv ct) ⟨[u0],[]⟩=pure [(p0,u0)]):Df K x q st [p0] f fd M :=
 ⟨D.F,D.F.binds fun kV doc pm an cdv ct us hl=>match us,hl with | [u0],_=>h kV doc pm an cdv ct u0,D.m⟩
theorem Dg.d2 {p0 p1:Str} (D:Dg K x q st f fd M) (h:∀ (kV doc pm:Value) (an:Option Addr) (cdv ct:Value) (u0 u1:Value),bindArgs (W.fnOf x q (xb st) (wx st) (yj st) .none kV doc pm an cdv ct) ⟨[u0,u1],[]⟩=pure [(p0,u0),(p1,u1)]):Df K x q st [p0,p1] f fd M :=
 ⟨D.F,D.F.binds fun kV doc pm an cdv ct us hl=>match us,hl with | [u0,u1],_=>h kV doc pm an cdv ct u0 u1,D.m⟩
theorem Dg.d3 {p0 p1 p2:Str} (D:Dg K x q st f fd M) (h:∀ (kV doc pm:Value) (an:Option Addr) (cdv ct:Value) (u0 u1 u2:Value),bindArgs (W.fnOf x q (xb st) (wx st) (yj st) .none kV doc pm an cdv ct) ⟨[u0,u1,u2],[]⟩=pure [(p0,u0),(p1,u1),(p2,u2)]):Df K x q st [p0,p1,p2] f fd M :=
 ⟨D.F,D.F.binds fun kV doc pm an cdv ct us hl=>match us,hl with | [u0,u1,u2],_=>h kV doc pm an cdv ct u0 u1 u2,D.m⟩
theorem Dg.d4 {p0 p1 p2 p3:Str} (D:Dg K x q st f fd M) (h:∀ (kV doc pm:Value) (an:Option Addr) (cdv ct:Value) (u0 u1 u2 u3:Value),bindArgs (W.fnOf x q (xb st) (wx st) (yj st) .none kV doc pm an cdv ct) ⟨[u0,u1,u2,u3],[]⟩=pure [(p0,u0),(p1,u1),(p2,u2),(p3,u3)]):Df K x q st [p0,p1,p2,p3] f fd M :=
 ⟨D.F,D.F.binds fun kV doc pm an cdv ct us hl=>match us,hl with | [u0,u1,u2,u3],_=>h kV doc pm an cdv ct u0 u1 u2 u3,D.m⟩
end
end L2
namespace MixI
def giv (c b:Int):Int:=if b=1 then c else 16777216 - c
def yo9 (x:Int):Nat:=if x == 0 then 0 else x.natAbs.log2+1
def shL (ws cs:List Int) (b:Int):List Int:=List.zipWith (fun w c=>w * giv c b) ws cs
def grL (sh:List Int):List Int:=sh.map fun s=>31 * (sh.length:Int) * s+sh.sum
def tOf (s:Int):Nat:=yo9 s - 48
def lrn (ws cs:List Int) (b:Int):List Int:=(grL (shL ws cs b)).map fun v=>v / 2 ^ tOf (grL (shL ws cs b)).sum
def vdq (ws cs:List Int):Int:=(List.zipWith (fun w c=>w * c) ws cs).sum
def yrk (ws cs:List Int):Int:=vdq ws cs / ws.sum
structure WOk (k:Nat) (ws:List Int):Prop where
 len:ws.length=k
 one:∀ w∈ws,1 <= w
 top:∀ w∈ws,w < 281474976710656
structure COk (k:Nat) (cs:List Int):Prop where
 len:cs.length=k
 lo:∀ c∈cs,32768 <= c
 hi:∀ c∈cs,c <= 16744448
theorem yxp {c b:Int} (h1:32768 <= c) (h2:c <= 16744448):32768 <= giv c b:=by unfold giv; split <;> omega
theorem ygz {ws cs:List Int} {b:Int} (h:ws.length=cs.length):(shL ws cs b).length=ws.length:=by
 unfold shL; rw [List.length_zipWith,<- h]; omega
theorem yl9 {sh:List Int}:(grL sh).length=sh.length:=by unfold grL; rw [List.length_map]
theorem yrt {k:Nat} {ws cs:List Int} {b:Int} (hw:WOk k ws) (hc:COk k cs):(lrn ws cs b).length=k:=by
 unfold lrn; rw [List.length_map,yl9,ygz (by rw [hw.len,hc.len]),hw.len]
theorem yco (m d:Int):∀ sh:List Int,(sh.map fun s=>m * s+d).sum=m * sh.sum+sh.length * d
 | []=>by simp
 | s :: r=>by
  simp only [List.map_cons,List.sum_cons,yco m d r,List.length_cons,Int.natCast_add,Int.natCast_one,Int.mul_add,Int.add_mul]
  omega
theorem yr6 (sh:List Int):(grL sh).sum=32 * (sh.length:Int) * sh.sum:=by
 unfold grL
 rw [yco,Int.mul_assoc,Int.mul_assoc]
 generalize (sh.length:Int) * sh.sum=x
 omega
theorem ym8:∀ {l:List Int},(∀ x∈l,0 <= x)->0 <= l.sum
 | [],_=>by simp
 | a :: r,h=>by
  have h1:=h a (by simp)
  have h2:=ym8 (l:=r) fun x hx=>h x (by simp [hx])
  rw [List.sum_cons]; omega
theorem yq5:∀ {l:List Int} {y:Int},(∀ x∈l,0 <= x)->y∈l->y <= l.sum
 | a :: r,y,h,hy=>by
  have h1:=h a (by simp)
  have hr:∀ x∈r,0 <= x:=fun x hx=>h x (by simp [hx])
  have h2:=ym8 hr
  rw [List.sum_cons]
  rcases List.mem_cons.mp hy with e | hy
  ·omega
  ·have:=yq5 hr hy; omega
theorem ymp {c:Int}:∀ {l:List Int},(∀ x∈l,c <= x)->c * l.length <= l.sum
 | [],_=>by simp
 | a :: r,h=>by
  have h1:=h a (by simp)
  have h2:=ymp (l:=r) fun x hx=>h x (by simp [hx])
  rw [List.sum_cons,List.length_cons,Int.natCast_add,Int.natCast_one,Int.mul_add]; omega
theorem yq4 {c:Int}:∀ {l:List Int},(∀ x∈l,x <= c)->l.sum <= c * l.length
 | [],_=>by simp
 | a :: r,h=>by
  have h1:=h a (by simp)
  have h2:=yq4 (l:=r) fun x hx=>h x (by simp [hx])
  rw [List.sum_cons,List.length_cons,Int.natCast_add,Int.natCast_one,Int.mul_add]; omega
theorem yrb {f:Int->Int} {m:Int}:∀ {ws cs:List Int},ws.length=cs.length->(∀ w∈ws,0 <= w)->(∀ c∈cs,m <= f c)->m * ws.sum <= (List.zipWith (fun w c=>w * f c) ws cs).sum
 | [],[],_,_,_=>by simp
 | w :: r,c :: t,h,h1,h2=>by
  have i:=yrb (f:=f) (m:=m) (ws:=r) (cs:=t) (by simpa using h) (fun x hx=>h1 x (by simp [hx])) fun x hx=>h2 x (by simp [hx])
  have a:=Int.mul_le_mul_of_nonneg_left (h2 c (by simp)) (h1 w (by simp))
  rw [List.zipWith_cons_cons,List.sum_cons,List.sum_cons,Int.mul_add,Int.mul_comm m w]; omega
theorem ypz {f:Int->Int} {m:Int}:∀ {ws cs:List Int},ws.length=cs.length->(∀ w∈ws,0 <= w)->(∀ c∈cs,f c <= m)->(List.zipWith (fun w c=>w * f c) ws cs).sum <= m * ws.sum
 | [],[],_,_,_=>by simp
 | w :: r,c :: t,h,h1,h2=>by
  have i:=ypz (f:=f) (m:=m) (ws:=r) (cs:=t) (by simpa using h) (fun x hx=>h1 x (by simp [hx])) fun x hx=>h2 x (by simp [hx])
  have a:=Int.mul_le_mul_of_nonneg_left (h2 c (by simp)) (h1 w (by simp))
  rw [List.zipWith_cons_cons,List.sum_cons,List.sum_cons,Int.mul_add,Int.mul_comm m w]; omega
theorem WOk.pos {k:Nat} {ws:List Int} (h:WOk k ws) (hk:1 <= k):1 <= ws.sum:=by
 have:=ymp (c:=1) h.one
 rw [h.len] at this; omega
theorem WOk.small {k:Nat} {ws:List Int} (h:WOk k ws) (hk:k <= 6):ws.sum <= 1688849860263936:=by
 have:=yq4 (c:=281474976710656) fun x hx=>Int.le_of_lt (h.top x hx)
 rw [h.len] at this; omega
theorem ym1 {k:Nat} {ws cs:List Int} (hk:1 <= k) (hw:WOk k ws) (hc:COk k cs):32768 <= yrk ws cs/\yrk ws cs <= 16744448:=by
 have e:ws.length=cs.length:=by rw [hw.len,hc.len]
 have h0:∀ w∈ws,0 <= w:=fun w h=>by have:=hw.one w h; omega
 have p:=hw.pos hk
 have a:=yrb (f:=fun c=>c) e h0 hc.lo
 have b:=ypz (f:=fun c=>c) e h0 hc.hi
 unfold yrk vdq
 exact ⟨(Int.le_ediv_iff_mul_le (by omega)).mpr a,Int.le_of_lt_add_one ((Int.ediv_lt_iff_lt_mul (by omega)).mpr (by rw [Int.add_mul]; omega))⟩
theorem yhu (t:Nat):(2:Int) ^ t=((2 ^ t:Nat):Int):=by rw [Int.natCast_pow]; rfl
theorem ytl (t:Nat):(0:Int) < 2 ^ t:=by rw [yhu]; exact Int.natCast_pos.mpr (Nat.pow_pos (by decide))
theorem yze {s:Int} (h:1 <= s):s < 281474976710656 * 2 ^ tOf s/\(tOf s=0\/140737488355328 * 2 ^ tOf s <= s):=by
 have hn:s.natAbs≠0:=by omega
 have e:(s.natAbs:Int)=s:=by omega
 have a:=Nat.log2_self_le hn
 have b:=@Nat.lt_log2_self s.natAbs
 unfold tOf yo9
 rw [if_neg (by simp; omega)]
 generalize s.natAbs.log2=L at a b ⊢
 rcases Nat.lt_or_ge L 48 with q | q
 ·have z:L+1 - 48=0:=by omega
  rw [z]
  refine ⟨?_,.inl rfl⟩
  have:2 ^ (L+1) <= 2 ^ 48:=Nat.pow_le_pow_right (by decide) (by omega)
  have e48:(2:Nat) ^ 48=281474976710656:=by decide
  rw [e48] at this
  rw [<- e,Int.pow_zero,Int.mul_one]
  omega
 ·obtain ⟨t,rfl⟩:∃ t,L=47+t:=⟨L - 47,by omega⟩
  have z:47+t+1 - 48=t:=by omega
  rw [z,yhu]
  have e47:(2:Nat) ^ (47+t)=140737488355328 * 2 ^ t:=by rw [Nat.pow_add]
  have e48:(2:Nat) ^ (47+t+1)=281474976710656 * 2 ^ t:=by rw [show 47+t+1=48+t by omega,Nat.pow_add]
  rw [e47] at a
  rw [e48] at b
  generalize 2 ^ t=T at a b ⊢
  exact ⟨by omega,.inr (by omega)⟩
section
variable {k:Nat} {ws cs:List Int} {b:Int}
theorem ysj (hw:WOk k ws) (hc:COk k cs):∀ s∈shL ws cs b,1 <= s:=by
 intro s hs
 unfold shL at hs
 rw [List.mem_iff_getElem] at hs
 obtain ⟨i,hi,rfl⟩:=hs
 rw [List.length_zipWith] at hi
 rw [List.getElem_zipWith]
 have h1:=hw.one ws[i] (List.getElem_mem _)
 have h2:=yxp (b:=b) (hc.lo cs[i] (List.getElem_mem _)) (hc.hi cs[i] (List.getElem_mem _))
 have:=Int.mul_le_mul h1 h2 (by decide) (by omega)
 omega
theorem yxe {sh:List Int} (h:∀ s∈sh,1 <= s):∀ v∈grL sh,sh.sum <= v/\v <= (grL sh).sum/\0 <= v:=by
 have hs:=ym8 (l:=sh) fun x hx=>by have:=h x hx; omega
 have hv:∀ v∈grL sh,sh.sum <= v:=fun v hv=>by
  unfold grL at hv
  obtain ⟨s,hs',rfl⟩:=List.mem_map.mp hv
  have:=h s hs'
  have:0 <= 31 * (sh.length:Int) * s:=Int.mul_nonneg (Int.mul_nonneg (by decide) (Int.natCast_nonneg _)) (by omega)
  omega
 exact fun v h1=>⟨hv v h1,yq5 (fun x hx=>by have:=hv x hx; omega) h1,by have:=hv v h1; omega⟩
theorem yqv (hk:1 <= k) (hk6:k <= 6) (hw:WOk k ws) (hc:COk k cs):WOk k (lrn ws cs b):=by
 have hl:(shL ws cs b).length=k:=by rw [ygz (by rw [hw.len,hc.len]),hw.len]
 have hp:=ysj (b:=b) hw hc
 have ha:1 <= (shL ws cs b).sum:=by
  have:=ymp (c:=1) hp
  rw [hl] at this; omega
 have hg:=yxe hp
 have hs:=yr6 (shL ws cs b)
 rw [hl] at hs
 have h1:1 <= (grL (shL ws cs b)).sum:=by
  rw [hs]
  have:32 * (k:Int) * 1 <= 32 * (k:Int) * (shL ws cs b).sum:=Int.mul_le_mul_of_nonneg_left ha (by omega)
  omega
 have hsv:(grL (shL ws cs b)).sum <= 192 * (shL ws cs b).sum:=by
  rw [hs]; exact Int.mul_le_mul_of_nonneg_right (by omega) (by omega)
 obtain ⟨t1,t2⟩:=yze h1
 have tp:=ytl (tOf (grL (shL ws cs b)).sum)
 refine ⟨yrt hw hc,fun w h=>?_,fun w h=>?_⟩
 ·obtain ⟨v,hv,rfl⟩:=List.mem_map.mp h
  obtain ⟨v1,v2,v3⟩:=hg v hv
  refine (Int.le_ediv_iff_mul_le tp).mpr ?_
  rcases t2 with t2 | t2
  ·rw [t2,Int.pow_zero]; omega
  ·generalize (2:Int) ^ tOf (grL (shL ws cs b)).sum=T at *
   omega
 ·obtain ⟨v,hv,rfl⟩:=List.mem_map.mp h
  obtain ⟨v1,v2,v3⟩:=hg v hv
  exact (Int.ediv_lt_iff_lt_mul tp).mpr (by omega)
theorem yky {g:Int->Int->Int} {ws cs:List Int} (h:cs.length=ws.length):(List.range ws.length).map (fun i=>g ((ws[i]?).getD 0) ((cs[i]?).getD 0))=List.zipWith g ws cs:=by
 apply List.ext_getElem
 ·rw [List.length_map,List.length_range,List.length_zipWith]; omega
 ·intro i h1 h2
  rw [List.length_map,List.length_range] at h1
  rw [List.getElem_map,List.getElem_range,List.getElem_zipWith,List.getElem?_eq_getElem h1,List.getElem?_eq_getElem (by omega)]
  rfl
end
end MixI
namespace SpanMath
def rn (d:List Int):Nat->Int
 | 0=>0
 | k+1=>rn d k * 256+(d[k]?).getD 0
def Byt (d:List Int):Prop:=∀ x∈d,0 <= x/\x <= 255
theorem yyt {d:List Int} (h:Byt d) (k:Nat):0 <= (d[k]?).getD 0/\(d[k]?).getD 0 <= 255:=by
 cases e:d[k]? with
 | none=>exact ⟨by decide,by decide⟩
 | some x=>exact h x (List.mem_of_getElem? e)
theorem ymo {d:List Int} (h:Byt d) (k:Nat):∀ r,∃ q,rn d (k+r)=rn d k * pw r+q/\0 <= q/\q < pw r
 | 0=>⟨0,by show rn d k=rn d k * 1+0; omega,by decide,by decide⟩
 | r+1=>by
  obtain ⟨q,e,h1,h2⟩:=ymo h k r
  obtain ⟨h3,h4⟩:=yyt h (k+r)
  refine ⟨q * 256+(d[k+r]?).getD 0,?_,by omega,?_⟩
  ·show rn d (k+r) * 256+(d[k+r]?).getD 0=rn d k * (pw r * 256)+_
   rw [e,<- Int.mul_assoc,Int.add_mul,Int.add_assoc]
  ·show _ < pw r * 256
   omega
theorem yor {d:List Int} (h:Byt d) (k r:Nat) (l w':Int):(l * pw r <= rn d (k+r)/\rn d (k+r) < l * pw r+w' * pw r) ↔ (l <= rn d k/\rn d k < l+w'):=by
 obtain ⟨q,e,h1,h2⟩:=ymo h k r
 have hp:=uy r
 rw [e,<- Int.add_mul]
 generalize rn d k=v
 generalize pw r=p at hp h1 h2 ⊢
 constructor
 ·rintro ⟨a,b⟩
  constructor
  ·refine Int.le_of_lt_add_one (Int.lt_of_mul_lt_mul_right (a:=p) ?_ (Int.le_of_lt hp))
   rw [Int.add_mul,Int.one_mul]
   omega
  ·refine Int.lt_of_mul_lt_mul_right (a:=p) ?_ (Int.le_of_lt hp)
   omega
 ·rintro ⟨a,b⟩
  have a':=Int.mul_le_mul_of_nonneg_right a (Int.le_of_lt hp)
  have b':=Int.mul_le_mul_of_nonneg_right (show v+1 <= l+w' by omega) (Int.le_of_lt hp)
  rw [Int.add_mul v 1 p,Int.one_mul] at b'
  omega
structure InS (d:List Int) (x:Sn):Prop where
 lo:x.1 <= rn d (sz x)
 hi:rn d (sz x) < x.1+x.2.1
theorem vas (l w' s':Int):∃ r:Nat,ren l w' s'=(l * pw r,w' * pw r,s'+r):=by
 unfold ren
 split
 ·split
  ·exact ⟨2,rfl⟩
  ·exact ⟨1,rfl⟩
 ·refine ⟨0,?_⟩
  show (l,w',s')=(l * 1,w' * 1,s'+0)
  rw [Int.mul_one,Int.mul_one,Int.add_zero]
theorem yps {d:List Int} (h:Byt d) {l w' s':Int} (hs:0 <= s'):InS d (ren l w' s') ↔ (l <= rn d s'.toNat/\rn d s'.toNat < l+w'):=by
 obtain ⟨r,e⟩:=vas l w' s'
 rw [e]
 have hz:sz (l * pw r,w' * pw r,s'+r)=s'.toNat+r:=by
  show (s'+(r:Int)).toNat=s'.toNat+r
  omega
 rw [<- yor h s'.toNat r l w']
 constructor
 ·rintro ⟨a,b⟩
  rw [hz] at a b
  exact ⟨a,b⟩
 ·rintro ⟨a,b⟩
  exact ⟨by rw [hz]; exact a,by rw [hz]; exact b⟩
def ybf (d:List Int) (x:Sn) (c:Int):Int:=if rn d (sz x) < x.1+cut x.2.1 c then 1 else 0
theorem ydy (d:List Int) (x:Sn) (c:Int):ybf d x c=0\/ybf d x c=1:=by
 unfold ybf
 split
 ·exact .inr rfl
 ·exact .inl rfl
theorem ytf {d:List Int} (hd:Byt d) {x:Sn} {c b:Int} (h:OkS x) (hc:Ch c) (hb:b=0\/b=1) (i:InS d (nar x c b)):InS d x/\b=ybf d x c:=by
 have hz:=h.ok.z
 obtain ⟨a1,a2,a3⟩:=yig h.ok.w0 h.ok.w1 hc
 unfold nar at i
 rcases hb with rfl | rfl
 ·rw [if_neg (by decide)] at i
  obtain ⟨i1,i2⟩:=(yps hd (by omega)).mp i
  have i1:x.1+cut x.2.1 c <= rn d (sz x):=i1
  have i2:rn d (sz x) < x.1+cut x.2.1 c+(x.2.1 - cut x.2.1 c):=i2
  refine ⟨⟨by omega,by omega⟩,?_⟩
  unfold ybf
  rw [if_neg (by omega)]
 ·rw [if_pos rfl] at i
  obtain ⟨i1,i2⟩:=(yps hd (by omega)).mp i
  have i1:x.1 <= rn d (sz x):=i1
  have i2:rn d (sz x) < x.1+cut x.2.1 c:=i2
  refine ⟨⟨by omega,by omega⟩,?_⟩
  unfold ybf
  rw [if_pos i2]
theorem yqo:∀ (k:Nat) (d:List Int),k <= d.length->rn d k=val (d.take k)
 | 0,_,_=>rfl
 | k+1,d,h=>by
  have hk:k < d.length:=by omega
  have e:d.take (k+1)=d.take k++[d[k]]:=by rw [List.take_succ,List.getElem?_eq_getElem hk]; rfl
  rw [e,yhp,<- yqo k d (by omega)]
  show rn d k * 256+_=_
  rw [List.getElem?_eq_getElem hk]
  rfl
theorem ysc {d:List Int} (hd:Byt d) {x:Sn} (h:OkS x) (hl:(tL x).length <= d.length) (hp:d.take (tL x).length=tL x):InS d x:=by
 have hk:=yvn h
 have e1:rn d (sz x - tK x)=tCn x:=by
  rw [<- yrh x,yqo _ _ hl,hp,ywn h]
 obtain ⟨q,e2,q0,q1⟩:=ymo hd (sz x - tK x) (tK x)
 have e3:sz x - tK x+tK x=sz x:=by omega
 rw [e3,e1] at e2
 have hh:=ygw h.ok
 have hb:=(yp4 x.1 (uy (tK x))).1
 unfold yj4 at hh
 have hh:(tCn x+1) * pw (tK x) <= x.1+x.2.1:=hh
 have hb:x.1 <= tCn x * pw (tK x):=hb
 rw [Int.add_mul,Int.one_mul] at hh
 exact ⟨by rw [e2]; omega,by rw [e2]; omega⟩
end SpanMath
namespace Law
open PySem L2
local macro_rules | `(tactic| walk_at "side")=>`(tactic| first | exact ⟨by decide,by decide⟩ | (show (0:Int) < _; first | decide | omega) | exact Or.inl ⟨by omega,by omega⟩ | exact Or.inr ⟨by omega,by omega⟩ | exact ⟨by omega,by omega⟩ | exact ⟨by decide,by decide,by decide⟩)
local macro_rules | `(tactic| walk_at "len")=>`(tactic| first | decide | (simp only [List.length_cons,List.length_nil]; decide))
local macro_rules | `(tactic| walk_at "rd1")=>`(tactic| with_reducible first
 | refine vcd ?_
 | (refine' va0 ?rdv ?_; (case rdv=>with_unfolding_all rfl))
 | refine i_c ?_
 | refine vec ?_
 | refine veg ?_
 | refine ywb ?_
 | refine vee ?_
 | refine vd9 ?_
 | refine vdw ?_
 | refine vcc ?_
 | refine vb8 ?_
 | refine yxs ?_
 | refine yxy ?_
 | refine yxf ?_
 | refine yro ?_
 | refine yd4 ?_
 | refine ysp ?_
 | refine ys7 ?_
 | refine vco ?_
 | refine yw5 ?_
 | refine vch ?_
 | refine veb ?_
 | refine vbx ?_
 | refine i_neI ?_
 | refine ys1 ?_
 | refine yyx ?_
 | refine i_orV ?_
 | refine yzl ?_
 | refine vbm ?_
 | refine vd5 ?_
 | refine vbh ?_
 | refine vca ?_
 | refine i_retN ?_
 | refine vb4 ?_
 | refine vbi ?_
 | refine yil ?_
 | refine yxg ?_
 | refine i_make0 ?_
 | refine vd2 ?_
 | refine vbl ?_
 | refine vcn ?_
 | refine yxc ?_
 | refine vea ?_
 | refine yow ?_
 | refine yzk ?_
 | refine vbq ?_
 | refine vdz ?_
 | refine i_U ?_
 | refine g0 ?_ | refine g1 ?_ | refine g2 ?_ | refine g3 ?_ | refine g4 ?_ | refine g5 ?_ | refine g6 ?_ | refine g7 ?_ | refine g8 ?_ | refine g9 ?_ | refine g10 ?_ | refine g11 ?_ | refine g12 ?_ | refine g13 ?_ | refine g14 ?_ | refine g15 ?_ | refine g16 ?_ | refine g17 ?_ | refine g18 ?_ | refine g19 ?_ | refine g20 ?_ | refine g21 ?_ | refine g22 ?_ | refine g23 ?_
 | refine ysq ?_
 | refine yw4 ?_
 | refine ypd ?_
 | refine ynl ?_
 | refine vb6 ?_
 | refine vbv ?_
 | refine vcl ?_
 | refine yr0 ?_
 | refine ywv ?_
 | refine i_iEnum ?_
 | refine yst ?_
 | refine yr7 ?_
 | refine yr2 ?_
 | refine i_iRng3 ?_
 | refine i_iEnumT ?_
 | refine yyh ?_
 | refine yrx ?_
 | refine yy8 ?_
 | refine yxr ?_
 | refine yts ?_
 | refine yrw ?_
 | refine yx7 ?_
 | refine i_dget1 ?_
 | refine i_dget2 ?_
 | refine i_din ?_
 | refine yos ?_
 | refine yyo ?_
 | refine ytm ?_
 | refine yxq ?_
 | refine ysf ?_
 | (refine' i_shlC ?rdp ?rdq ?_; (case rdp=>with_unfolding_all exact ⟨by decide,by decide,by decide⟩); (case rdq=>with_unfolding_all decide))
 | (refine' yx1 ?rdp ?rdq ?_; (case rdp=>with_unfolding_all exact ⟨by decide,by decide,by decide⟩); (case rdq=>with_unfolding_all decide))
 | refine ywg ?_
 | (refine i_I ?rdc ?_; (case rdc=>with_unfolding_all walk_at "side")))
local macro_rules | `(tactic| walk_at "rd")=>`(tactic| repeat walk_at "rd1")
def top (i:Nat):Stmt:=PySem.Challenge.pw_foretell_k36_pressing_refused.main.body.getD i (.Pass ⟨0,0,0,0⟩)
abbrev vcr:Stmt:=top 23
abbrev vc1:Stmt:=top 24
abbrev vcv:Stmt:=top 25
abbrev vc0:Stmt:=top 26
abbrev vcy:Stmt:=top 27
abbrev vcu:Stmt:=top 28
abbrev vc2:Stmt:=top 29
abbrev vcs:Stmt:=top 30
abbrev vcq:Stmt:=top 31
abbrev yus:Stmt:=top 32
abbrev yvf:Stmt:=top 33
abbrev yvx:Stmt:=top 36
abbrev yt9:Stmt:=top 37
abbrev yud:Stmt:=v8 (top 42) 0
abbrev yvg:Stmt:=v8 (top 42) 1
abbrev yvp:Stmt:=v8 (top 42) 2
abbrev yvl:Stmt:=v8 (top 43) 0
abbrev yt0:Stmt:=v8 (top 43) 1
abbrev yt6:Stmt:=v8 (top 43) 2
abbrev yt3:Stmt:=v8 (top 44) 0
abbrev yu5:Stmt:=v8 (top 44) 1
abbrev yvt:Stmt:=v8 (top 44) 2
abbrev yuu:Stmt:=top 45
abbrev yub:Stmt:=top 51
abbrev yu1:Stmt:=top 52
abbrev yuo:Stmt:=top 53
abbrev yvu:Stmt:=top 54
abbrev yum:Stmt:=top 55
abbrev yvc:Stmt:=top 56
abbrev yvs:Stmt:=top 57
abbrev ytt:Stmt:=v8 (top 58) 0
abbrev yvj:Stmt:=v8 (top 58) 2
abbrev ytu:Stmt:=v8 (top 63) 0
abbrev yu4:Stmt:=v8 (top 63) 2
abbrev yuf:Stmt:=v8 (top 63) 3
abbrev ytv:Stmt:=v8 (top 66) 0
abbrev ytw:Stmt:=v8 (top 66) 1
abbrev yvo:Stmt:=v8 (top 66) 2
abbrev yu2:Stmt:=v8 (top 66) 3
abbrev yvk:Stmt:=v8 (top 66) 7
abbrev yu7:Stmt:=v8 (top 66) 8
abbrev yup:Stmt:=v8 (top 66) 9
abbrev yul:Stmt:=top 71
abbrev yut:Stmt:=top 72
abbrev yvm:Stmt:=v8 (top 73) 0
abbrev yvv:Stmt:=v8 (top 73) 2
abbrev yvw:Stmt:=v8 (top 73) 3
abbrev yvd:Stmt:=v8 (top 73) 5
abbrev yu8:Stmt:=v8 (top 73) 6
abbrev yt7:Stmt:=v8 (top 75) 0
abbrev ytx:Stmt:=v8 (top 75) 1
abbrev yvi:Stmt:=v8 (top 75) 2
abbrev yu6:Stmt:=v8 (top 75) 3
abbrev yvb:Stmt:=v8 (top 75) 5
abbrev yui:Stmt:=top 77
abbrev yur:Stmt:=top 78
abbrev yva:Stmt:=top 80
abbrev yj3:Stmt:=top 81
abbrev yu0:Stmt:=top 82
abbrev yuv:Stmt:=top 83
abbrev yuk:Stmt:=top 84
abbrev yuc:Stmt:=top 85
abbrev yj2:Stmt:=top 86
abbrev yj0:Stmt:=top 87
abbrev yux:Stmt:=top 89
abbrev yvq:Stmt:=top 90
abbrev yuz:Stmt:=top 91
abbrev yt4:Stmt:=top 92
abbrev yuh:Stmt:=top 93
abbrev yue:Stmt:=top 94
abbrev yuy:Stmt:=top 95
abbrev yt8:Stmt:=top 96
abbrev yuq:Stmt:=top 97
set_option genInjectivity false in
set_option genSizeOfSpec false in
structure Ads where
 f_q1:Addr
 d_q1:FuncData
 f_q2:Addr
 d_q2:FuncData
 f_q3:Addr
 d_q3:FuncData
 f_q4:Addr
 d_q4:FuncData
 f_q5:Addr
 d_q5:FuncData
 f_q6:Addr
 d_q6:FuncData
 f_q7:Addr
 d_q7:FuncData
 f_q8:Addr
 d_q8:FuncData
 f_q9:Addr
 d_q9:FuncData
 f_q10:Addr
 d_q10:FuncData
 f_q11:Addr
 d_q11:FuncData
 f_q12:Addr
 d_q12:FuncData
 f_q13:Addr
 d_q13:FuncData
 f_q14:Addr
 d_q14:FuncData
 f_q15:Addr
 d_q15:FuncData
 f_q16:Addr
 d_q16:FuncData
 f_q17:Addr
 d_q17:FuncData
 f_q18:Addr
 d_q18:FuncData
 f_q19:Addr
 d_q19:FuncData
 f_q20:Addr
 d_q20:FuncData
 f_q21:Addr
 d_q21:FuncData
 f_q22:Addr
 d_q22:FuncData
 f_q23:Addr
 d_q23:FuncData
 f_q24:Addr
 d_q24:FuncData
 f_q25:Addr
 d_q25:FuncData
 f_q26:Addr
 d_q26:FuncData
 f_q27:Addr
 d_q27:FuncData
 f_q28:Addr
 d_q28:FuncData
 f_q29:Addr
 d_q29:FuncData
 f_q30:Addr
 d_q30:FuncData
 f_q31:Addr
 d_q31:FuncData
 f_q32:Addr
 d_q32:FuncData
 f_q33:Addr
 d_q33:FuncData
 f_q34:Addr
 d_q34:FuncData
 f_q35:Addr
 d_q35:FuncData
 f_q36:Addr
 d_q36:FuncData
 f_q37:Addr
 d_q37:FuncData
 f_q38:Addr
 d_q38:FuncData
 f_q39:Addr
 d_q39:FuncData
 f_q40:Addr
 d_q40:FuncData
 f_q41:Addr
 d_q41:FuncData
 f_q42:Addr
 d_q42:FuncData
 f_q43:Addr
 d_q43:FuncData
 f_q44:Addr
 d_q44:FuncData
 f_q45:Addr
 d_q45:FuncData
 f_q46:Addr
 d_q46:FuncData
 f_q47:Addr
 d_q47:FuncData
 f_q48:Addr
 d_q48:FuncData
 f_q49:Addr
 d_q49:FuncData
 f_q50:Addr
 d_q50:FuncData
 f_q51:Addr
 d_q51:FuncData
 f_q52:Addr
 d_q52:FuncData
 f_q53:Addr
 d_q53:FuncData
 f_q54:Addr
 d_q54:FuncData
 f_q55:Addr
 d_q55:FuncData
 f_q56:Addr
 d_q56:FuncData
 f_q57:Addr
 d_q57:FuncData
 f_q58:Addr
 d_q58:FuncData
 D_q58:Addr
 f_q59:Addr
 d_q59:FuncData
 f_q60:Addr
 d_q60:FuncData
 f_q61:Addr
 d_q61:FuncData
 f_q62:Addr
 d_q62:FuncData
 f_q63:Addr
 d_q63:FuncData
 D_q63:Addr
 Dt_q63_0:Tok
 f_q64:Addr
 d_q64:FuncData
 D_q64:Addr
 Dt_q64_0:Tok
 f_q65:Addr
 d_q65:FuncData
 f_q66:Addr
 d_q66:FuncData
 f_q67:Addr
 d_q67:FuncData
 f_q68:Addr
 d_q68:FuncData
 f_q69:Addr
 d_q69:FuncData
 f_q70:Addr
 d_q70:FuncData
 f_q71:Addr
 d_q71:FuncData
 f_q72:Addr
 d_q72:FuncData
 f_law:Addr
 d_law:FuncData
 C_Even:Addr
 C_Quick:Addr
 C_Run:Addr
 C_Mx:Addr
 C_Book:Addr
 C_Span:Addr
 C_Ft:Addr
 C_Sk:Addr
 C_NT:Addr
 C_NY:Addr
 C_NoMost:Addr
 C_NC:Addr
 C_NB:Addr
 C_NL:Addr
 C_NP:Addr
 C_Full:Addr
 C_InUse:Addr
 C_NoName:Addr
 C_NoPiece:Addr
 C_NoShelf:Addr
 C_NoWords:Addr
 C_Taken:Addr
 C_TooLong:Addr
 C_ForetellError:Addr
 t_LEAST:Tok
 t_ONE:Tok
 t_MOST_SIGNS:Tok
 t_MOST_BYTES:Tok
 t_MOST_COUNTED:Tok
 t_FARTHEST:Tok
 t_MOST_PLACES:Tok
 t_MOST_LOOKS:Tok
 t_NO_SIGN:Tok
 t_FIRST_WEIGHT:Tok
 t_OWN_PARTS:Tok
 t_MOST_FIGURES:Tok
 t_NODES_END:Tok
 t_FIRST_WIDTH:Tok
 t_FIRST_SIZE:Tok
 t_LEAST_WIDTH:Tok
 W_WORTHS:Addr
 W_KINDS:Addr
structure Txt (K:W.Frag) (mg:Str->Option Value) (a:Ads):Prop where
 y_q1:Dff K mg "is_whole" vcr ["thing"] a.f_q1 a.d_q1
 y_q2:Dff K mg "is_bit" vc1 ["thing"] a.f_q2 a.d_q2
 y_q3:Dff K mg "is_chance" vcv ["thing"] a.f_q3 a.d_q3
 y_q4:Dff K mg "is_sign" vc0 ["thing"] a.f_q4 a.d_q4
 y_q5:Dff K mg "is_list_of_signs" vcy ["thing","most"] a.f_q5 a.d_q5
 y_q6:Dff K mg "checked_text" vcu ["thing"] a.f_q6 a.d_q6
 y_q7:Dff K mg "checked_bytes" vc2 ["thing"] a.f_q7 a.d_q7
 y_q8:Dff K mg "check_most" vcs ["thing"] a.f_q8 a.d_q8
 y_q9:Dff K mg "check_chance" vcq ["thing"] a.f_q9 a.d_q9
 y_q10:Dff K mg "check_bit" yus ["thing"] a.f_q10 a.d_q10
 y_q11:Dff K mg "gives" yvf ["chance","bit"] a.f_q11 a.d_q11
 y_q12:Dff K mg "bits_of" yvx ["sign"] a.f_q12 a.d_q12
 y_q13:Dff K mg "decisions_of" yt9 ["text"] a.f_q13 a.d_q13
 y_q14:Dfm K a.C_Even "__init__" "Even.__init__" yud ["self"] a.f_q14 a.d_q14
 y_q15:Dfm K a.C_Even "chance" "Even.chance" yvg ["self"] a.f_q15 a.d_q15
 y_q16:Dfm K a.C_Even "seen" "Even.seen" yvp ["self","bit"] a.f_q16 a.d_q16
 y_q17:Dfm K a.C_Quick "__init__" "Quick.__init__" yvl ["self"] a.f_q17 a.d_q17
 y_q18:Dfm K a.C_Quick "chance" "Quick.chance" yt0 ["self"] a.f_q18 a.d_q18
 y_q19:Dfm K a.C_Quick "seen" "Quick.seen" yt6 ["self","bit"] a.f_q19 a.d_q19
 y_q20:Dfm K a.C_Run "__init__" "Run.__init__" yt3 ["self"] a.f_q20 a.d_q20
 y_q21:Dfm K a.C_Run "chance" "Run.chance" yu5 ["self"] a.f_q21 a.d_q21
 y_q22:Dfm K a.C_Run "seen" "Run.seen" yvt ["self","bit"] a.f_q22 a.d_q22
 y_q23:Dff K mg "slot_of" yuu ["kind"] a.f_q23 a.d_q23
 y_q24:Dff K mg "is_kind" yub ["thing"] a.f_q24 a.d_q24
 y_q25:Dff K mg "is_place" yu1 ["thing"] a.f_q25 a.d_q25
 y_q26:Dff K mg "are_places" yuo ["thing"] a.f_q26 a.d_q26
 y_q27:Dff K mg "is_look" yvu ["thing"] a.f_q27 a.d_q27
 y_q28:Dff K mg "checked_looks" yum ["thing"] a.f_q28 a.d_q28
 y_q29:Dff K mg "sign_back" yvc ["signs","place"] a.f_q29 a.d_q29
 y_q30:Dff K mg "context_of" yvs ["look","signs","node"] a.f_q30 a.d_q30
 y_q31:Dfm K a.C_Book "__init__" "Book.__init__" ytt ["self","look"] a.f_q31 a.d_q31
 y_q32:Dfm K a.C_Book "slot_at" "Book.slot_at" yvj ["self","signs","node"] a.f_q32 a.d_q32
 y_q33:Dfm K a.C_Mx "__init__" "Mixer.__init__" ytu ["self","many"] a.f_q33 a.d_q33
 y_q34:Dfm K a.C_Mx "mixed" "Mixer.mixed" yu4 ["self","chances"] a.f_q34 a.d_q34
 y_q35:Dfm K a.C_Mx "learn" "Mixer.learn" yuf ["self","chances","bit"] a.f_q35 a.d_q35
 y_q36:Dfm K a.C_Ft "__init__" "Foreteller.__init__" ytv ["self","looks"] a.f_q36 a.d_q36
 y_q37:Dfm K a.C_Ft "arrive" "Foreteller.arrive" ytw ["self"] a.f_q37 a.d_q37
 y_q38:Dfm K a.C_Ft "chances" "Foreteller.chances" yvo ["self"] a.f_q38 a.d_q38
 y_q39:Dfm K a.C_Ft "chance" "Foreteller.chance" yu2 ["self"] a.f_q39 a.d_q39
 y_q40:Dfm K a.C_Ft "see" "Foreteller.see" yvk ["self","bit"] a.f_q40 a.d_q40
 y_q41:Dfm K a.C_Ft "step" "Foreteller.step" yu7 ["self","bit"] a.f_q41 a.d_q41
 y_q42:Dfm K a.C_Ft "step_in_sign" "Foreteller.step_in_sign" yup ["self","bit"] a.f_q42 a.d_q42
 y_q43:Dff K mg "written" yul ["number","size"] a.f_q43 a.d_q43
 y_q44:Dff K mg "first_block" yut ["low","unit"] a.f_q44 a.d_q44
 y_q45:Dfm K a.C_Span "__init__" "Span.__init__" yvm ["self"] a.f_q45 a.d_q45
 y_q46:Dfm K a.C_Span "cut" "Span.cut" yvv ["self","chance"] a.f_q46 a.d_q46
 y_q47:Dfm K a.C_Span "narrow" "Span.narrow" yvw ["self","chance","bit"] a.f_q47 a.d_q47
 y_q48:Dfm K a.C_Span "holds_block" "Span.holds_block" yvd ["self","unit"] a.f_q48 a.d_q48
 y_q49:Dfm K a.C_Span "told" "Span.told" yu8 ["self"] a.f_q49 a.d_q49
 y_q50:Dfm K a.C_Sk "__init__" "Seeker.__init__" yt7 ["self","data"] a.f_q50 a.d_q50
 y_q51:Dfm K a.C_Sk "follow" "Seeker.follow" ytx ["self"] a.f_q51 a.d_q51
 y_q52:Dfm K a.C_Sk "byte_at" "Seeker.byte_at" yvi ["self","place"] a.f_q52 a.d_q52
 y_q53:Dfm K a.C_Sk "bit" "Seeker.bit" yu6 ["self","chance"] a.f_q53 a.d_q53
 y_q54:Dfm K a.C_Sk "told" "Seeker.told" yvb ["self"] a.f_q54 a.d_q54
 y_q55:Dff K mg "checked_learned" yui ["thing"] a.f_q55 a.d_q55
 y_q56:Dff K mg "teach" yur ["foreteller","texts"] a.f_q56 a.d_q56
 y_q57:Dff K mg "press_by" yva ["foreteller","text"] a.f_q57 a.d_q57
 F_q58:yfs K "pressed" "pressed" yj3 a.D_q58 a.f_q58 a.d_q58
 B1_q58:uk K a.d_q58 ["looks","text","learned"] [.none]
 B_q58:uk K a.d_q58 ["looks","text","learned"] []
 m_q58:mg "pressed"=some (.ref a.f_q58)
 y_q59:Dff K mg "bit_by" yu0 ["foreteller","seeker"] a.f_q59 a.d_q59
 y_q60:Dff K mg "sign_by" yuv ["foreteller","seeker"] a.f_q60 a.d_q60
 y_q61:Dff K mg "text_by" yuk ["foreteller","seeker","most"] a.f_q61 a.d_q61
 y_q62:Dff K mg "read_by" yuc ["foreteller","data","most"] a.f_q62 a.d_q62
 F_q63:yfs K "read_first" "read_first" yj2 a.D_q63 a.f_q63 a.d_q63
 B1_q63:uk K a.d_q63 ["looks","data","most","learned"] [.none]
 B2_q63:uk K a.d_q63 ["looks","data","most","learned"] [.int 1000 a.Dt_q63_0,.none]
 B_q63:uk K a.d_q63 ["looks","data","most","learned"] []
 m_q63:mg "read_first"=some (.ref a.f_q63)
 F_q64:yfs K "read" "read" yj0 a.D_q64 a.f_q64 a.d_q64
 B1_q64:uk K a.d_q64 ["looks","data","most","learned"] [.none]
 B2_q64:uk K a.d_q64 ["looks","data","most","learned"] [.int 1000 a.Dt_q64_0,.none]
 B_q64:uk K a.d_q64 ["looks","data","most","learned"] []
 m_q64:mg "read"=some (.ref a.f_q64)
 y_q65:Dff K mg "_law_mixed" yux ["_law_script","_law_k"] a.f_q65 a.d_q65
 y_q66:Dff K mg "_law_looks" yvq ["_law_cell","_law_most"] a.f_q66 a.d_q66
 y_q67:Dff K mg "_law_text" yuz ["_law_cells","_law_size","_law_way"] a.f_q67 a.d_q67
 y_q68:Dff K mg "_law_odd_looks" yt4 ["_law_cell"] a.f_q68 a.d_q68
 y_q69:Dff K mg "_law_odd_text" yuh ["_law_cell"] a.f_q69 a.d_q69
 y_q70:Dff K mg "_law_call" yue ["_law_kind","_law_looks_here","_law_thing","_law_learned"] a.f_q70 a.d_q70
 y_q71:Dff K mg "_law_word" yuy ["_law_kind","_law_looks_here","_law_thing","_law_learned"] a.f_q71 a.d_q71
 y_q72:Dff K mg "_law_any" yt8 ["_law_kind","_law_looks_here","_law_thing","_law_learned"] a.f_q72 a.d_q72
 y_law:Dff K mg "law" yuq ["_law_script"] a.f_law a.d_law
 cl_Even:Cls K a.C_Even
 m_Even:mg "Even"=some (.ref a.C_Even)
 k_Even:Mk K a.C_Even a.f_q14
 n_Even_noughts:yr K a.C_Even "noughts"
 n_Even_ones:yr K a.C_Even "ones"
 cl_Quick:Cls K a.C_Quick
 m_Quick:mg "Quick"=some (.ref a.C_Quick)
 k_Quick:Mk K a.C_Quick a.f_q17
 n_Quick_held:yr K a.C_Quick "held"
 cl_Run:Cls K a.C_Run
 m_Run:mg "Run"=some (.ref a.C_Run)
 k_Run:Mk K a.C_Run a.f_q20
 n_Run_last:yr K a.C_Run "last"
 n_Run_length:yr K a.C_Run "length"
 cl_Mx:Cls K a.C_Mx
 m_Mx:mg "Mixer"=some (.ref a.C_Mx)
 k_Mx:Mk K a.C_Mx a.f_q33
 n_Mx_kept:yr K a.C_Mx "kept"
 cl_Book:Cls K a.C_Book
 m_Book:mg "Book"=some (.ref a.C_Book)
 k_Book:Mk K a.C_Book a.f_q31
 n_Book_look:yr K a.C_Book "look"
 n_Book_slots:yr K a.C_Book "slots"
 cl_Span:Cls K a.C_Span
 m_Span:mg "Span"=some (.ref a.C_Span)
 k_Span:Mk K a.C_Span a.f_q45
 n_Span_low:yr K a.C_Span "low"
 n_Span_width:yr K a.C_Span "width"
 n_Span_size:yr K a.C_Span "size"
 cl_Ft:Cls K a.C_Ft
 m_Ft:mg "Foreteller"=some (.ref a.C_Ft)
 k_Ft:Mk K a.C_Ft a.f_q36
 n_Ft_looks:yr K a.C_Ft "looks"
 n_Ft_books:yr K a.C_Ft "books"
 n_Ft_mixer:yr K a.C_Ft "mixer"
 n_Ft_ended:yr K a.C_Ft "ended"
 n_Ft_place:yr K a.C_Ft "place"
 n_Ft_present:yr K a.C_Ft "present"
 cl_Sk:Cls K a.C_Sk
 m_Sk:mg "Seeker"=some (.ref a.C_Sk)
 k_Sk:Mk K a.C_Sk a.f_q50
 n_Sk_data:yr K a.C_Sk "data"
 n_Sk_span:yr K a.C_Sk "span"
 n_Sk_number:yr K a.C_Sk "number"
 n_Sk_reached:yr K a.C_Sk "reached"
 m_NT:mg "NoText"=some (.ref a.C_NT)
 m_NY:mg "NoBytes"=some (.ref a.C_NY)
 m_NoMost:mg "NoMost"=some (.ref a.C_NoMost)
 m_NC:mg "NoChance"=some (.ref a.C_NC)
 m_NB:mg "NoBit"=some (.ref a.C_NB)
 m_NL:mg "NoLooks"=some (.ref a.C_NL)
 m_NP:mg "NoPress"=some (.ref a.C_NP)
 m_Full:mg "Full"=some (.ref a.C_Full)
 m_InUse:mg "InUse"=some (.ref a.C_InUse)
 m_NoName:mg "NoName"=some (.ref a.C_NoName)
 m_NoPiece:mg "NoPiece"=some (.ref a.C_NoPiece)
 m_NoShelf:mg "NoShelf"=some (.ref a.C_NoShelf)
 m_NoWords:mg "NoWords"=some (.ref a.C_NoWords)
 m_Taken:mg "Taken"=some (.ref a.C_Taken)
 m_TooLong:mg "TooLong"=some (.ref a.C_TooLong)
 m_ForetellError:mg "ForetellError"=some (.ref a.C_ForetellError)
 x_NT:XCls K a.C_NT
 r_NT:XMk K a.C_NT
 x_NY:XCls K a.C_NY
 r_NY:XMk K a.C_NY
 x_NoMost:XCls K a.C_NoMost
 r_NoMost:XMk K a.C_NoMost
 x_NC:XCls K a.C_NC
 r_NC:XMk K a.C_NC
 x_NB:XCls K a.C_NB
 r_NB:XMk K a.C_NB
 x_NL:XCls K a.C_NL
 r_NL:XMk K a.C_NL
 x_NP:XCls K a.C_NP
 r_NP:XMk K a.C_NP
 ki_NT_ValueError:W.kitOne K (.ref a.C_NT) (.type "ValueError")=some true
 ka_NT_0:W.kitAny K (.ref a.C_NT) [.ref a.C_NL,.ref a.C_NT]=some true
 ka_NT_1:W.kitAny K (.ref a.C_NT) [.ref a.C_NL,.ref a.C_NY]=some false
 em_NT_ForetellError:W.exmOne K (.ref a.C_NT) (.ref a.C_ForetellError)=some true
 em_NT_Full:W.exmOne K (.ref a.C_NT) (.ref a.C_Full)=some false
 em_NT_InUse:W.exmOne K (.ref a.C_NT) (.ref a.C_InUse)=some false
 em_NT_NB:W.exmOne K (.ref a.C_NT) (.ref a.C_NB)=some false
 em_NT_NC:W.exmOne K (.ref a.C_NT) (.ref a.C_NC)=some false
 em_NT_NL:W.exmOne K (.ref a.C_NT) (.ref a.C_NL)=some false
 em_NT_NoMost:W.exmOne K (.ref a.C_NT) (.ref a.C_NoMost)=some false
 em_NT_NoName:W.exmOne K (.ref a.C_NT) (.ref a.C_NoName)=some false
 em_NT_NoPiece:W.exmOne K (.ref a.C_NT) (.ref a.C_NoPiece)=some false
 em_NT_NP:W.exmOne K (.ref a.C_NT) (.ref a.C_NP)=some false
 em_NT_NoShelf:W.exmOne K (.ref a.C_NT) (.ref a.C_NoShelf)=some false
 em_NT_NT:W.exmOne K (.ref a.C_NT) (.ref a.C_NT)=some true
 em_NT_NoWords:W.exmOne K (.ref a.C_NT) (.ref a.C_NoWords)=some false
 em_NT_Taken:W.exmOne K (.ref a.C_NT) (.ref a.C_Taken)=some false
 em_NT_TooLong:W.exmOne K (.ref a.C_NT) (.ref a.C_TooLong)=some false
 ki_NY_ValueError:W.kitOne K (.ref a.C_NY) (.type "ValueError")=some true
 ka_NY_0:W.kitAny K (.ref a.C_NY) [.ref a.C_NL,.ref a.C_NT]=some false
 em_NY_ForetellError:W.exmOne K (.ref a.C_NY) (.ref a.C_ForetellError)=some true
 em_NY_Full:W.exmOne K (.ref a.C_NY) (.ref a.C_Full)=some false
 em_NY_InUse:W.exmOne K (.ref a.C_NY) (.ref a.C_InUse)=some false
 em_NY_NB:W.exmOne K (.ref a.C_NY) (.ref a.C_NB)=some false
 em_NY_NY:W.exmOne K (.ref a.C_NY) (.ref a.C_NY)=some true
 em_NY_NC:W.exmOne K (.ref a.C_NY) (.ref a.C_NC)=some false
 em_NY_NL:W.exmOne K (.ref a.C_NY) (.ref a.C_NL)=some false
 em_NY_NoMost:W.exmOne K (.ref a.C_NY) (.ref a.C_NoMost)=some false
 em_NY_NoName:W.exmOne K (.ref a.C_NY) (.ref a.C_NoName)=some false
 em_NY_NoPiece:W.exmOne K (.ref a.C_NY) (.ref a.C_NoPiece)=some false
 em_NY_NP:W.exmOne K (.ref a.C_NY) (.ref a.C_NP)=some false
 em_NY_NoShelf:W.exmOne K (.ref a.C_NY) (.ref a.C_NoShelf)=some false
 em_NY_NT:W.exmOne K (.ref a.C_NY) (.ref a.C_NT)=some false
 em_NY_NoWords:W.exmOne K (.ref a.C_NY) (.ref a.C_NoWords)=some false
 em_NY_Taken:W.exmOne K (.ref a.C_NY) (.ref a.C_Taken)=some false
 em_NY_TooLong:W.exmOne K (.ref a.C_NY) (.ref a.C_TooLong)=some false
 ki_NB_ValueError:W.kitOne K (.ref a.C_NB) (.type "ValueError")=some true
 em_NB_ForetellError:W.exmOne K (.ref a.C_NB) (.ref a.C_ForetellError)=some true
 ki_NL_ValueError:W.kitOne K (.ref a.C_NL) (.type "ValueError")=some true
 ka_NL_2:W.kitAny K (.ref a.C_NL) [.ref a.C_NT,.ref a.C_NY]=some false
 em_NL_ForetellError:W.exmOne K (.ref a.C_NL) (.ref a.C_ForetellError)=some true
 em_NL_Full:W.exmOne K (.ref a.C_NL) (.ref a.C_Full)=some false
 em_NL_InUse:W.exmOne K (.ref a.C_NL) (.ref a.C_InUse)=some false
 em_NL_NB:W.exmOne K (.ref a.C_NL) (.ref a.C_NB)=some false
 em_NL_NC:W.exmOne K (.ref a.C_NL) (.ref a.C_NC)=some false
 em_NL_NL:W.exmOne K (.ref a.C_NL) (.ref a.C_NL)=some true
 em_NL_NoMost:W.exmOne K (.ref a.C_NL) (.ref a.C_NoMost)=some false
 em_NL_NoName:W.exmOne K (.ref a.C_NL) (.ref a.C_NoName)=some false
 em_NL_NoPiece:W.exmOne K (.ref a.C_NL) (.ref a.C_NoPiece)=some false
 em_NL_NP:W.exmOne K (.ref a.C_NL) (.ref a.C_NP)=some false
 em_NL_NoShelf:W.exmOne K (.ref a.C_NL) (.ref a.C_NoShelf)=some false
 em_NL_NoWords:W.exmOne K (.ref a.C_NL) (.ref a.C_NoWords)=some false
 em_NL_Taken:W.exmOne K (.ref a.C_NL) (.ref a.C_Taken)=some false
 em_NL_TooLong:W.exmOne K (.ref a.C_NL) (.ref a.C_TooLong)=some false
 z_isinstance:mg "isinstance"=none
 z_int:mg "int"=none
 z_bool:mg "bool"=none
 z_list:mg "list"=none
 z_all:mg "all"=none
 z_len:mg "len"=none
 z_min:mg "min"=none
 z_max:mg "max"=none
 z_str:mg "str"=none
 z_tuple:mg "tuple"=none
 z_zip:mg "zip"=none
 z_sum:mg "sum"=none
 z_range:mg "range"=none
 z_ValueError:mg "ValueError"=none
 c_LEAST:mg "LEAST"=some (.int 32768 a.t_LEAST)
 c_ONE:mg "ONE"=some (.int 16777216 a.t_ONE)
 c_MOST_SIGNS:mg "MOST_SIGNS"=some (.int 1000 a.t_MOST_SIGNS)
 c_MOST_BYTES:mg "MOST_BYTES"=some (.int 12000 a.t_MOST_BYTES)
 c_MOST_COUNTED:mg "MOST_COUNTED"=some (.int 255 a.t_MOST_COUNTED)
 c_FARTHEST:mg "FARTHEST"=some (.int 8 a.t_FARTHEST)
 c_MOST_PLACES:mg "MOST_PLACES"=some (.int 4 a.t_MOST_PLACES)
 c_MOST_LOOKS:mg "MOST_LOOKS"=some (.int 6 a.t_MOST_LOOKS)
 c_NO_SIGN:mg "NO_SIGN"=some (.int 256 a.t_NO_SIGN)
 c_FIRST_WEIGHT:mg "FIRST_WEIGHT"=some (.int 1099511627776 a.t_FIRST_WEIGHT)
 c_OWN_PARTS:mg "OWN_PARTS"=some (.int 31 a.t_OWN_PARTS)
 c_MOST_FIGURES:mg "MOST_FIGURES"=some (.int 48 a.t_MOST_FIGURES)
 c_NODES_END:mg "NODES_END"=some (.int 256 a.t_NODES_END)
 c_FIRST_WIDTH:mg "FIRST_WIDTH"=some (.int 1099511627776 a.t_FIRST_WIDTH)
 c_FIRST_SIZE:mg "FIRST_SIZE"=some (.int 5 a.t_FIRST_SIZE)
 c_LEAST_WIDTH:mg "LEAST_WIDTH"=some (.int 4294967296 a.t_LEAST_WIDTH)
 m_WORTHS:mg "WORTHS"=some (.ref a.W_WORTHS)
 w_WORTHS:∀ H,SqT K H a.W_WORTHS [V.int 128,V.int 64,V.int 32,V.int 16,V.int 8,V.int 4,V.int 2,V.int 1]
 m_KINDS:mg "KINDS"=some (.ref a.W_KINDS)
 w_KINDS:∀ H,SqT K H a.W_KINDS [V.str "even",V.str "quick",V.str "run"]
section
variable {P:Program} {w:World} {K:W.Frag} {mg:Str->Option Value} {base:Heap} {a:Ads}
def xt (v0 v1:V):List (Str × V):=[("noughts",v0),("ones",v1)]
section
variable {H:Hp} {p dx:Addr} {v0 v1 v:V} {P:V->Prop} {R:Prop} {nx:St->Hp->Prop} {σ:St}
theorem ybq (T:Txt K mg a) (hp:H p=some (.ins a.C_Even dx (xt v0 v1))) (h:P v0):∃ a' C dx fs v,V.ref p=.ref a'/\H a'=some (.ins C dx fs)/\Cls K C/\yr K C "noughts"/\fs.lookup ("noughts":Str)=some v/\P v:=⟨p,_,dx,_,_,rfl,hp,T.cl_Even,T.n_Even_noughts,zk,h⟩
theorem ybt (T:Txt K mg a) (hp:H p=some (.ins a.C_Even dx (xt v0 v1))) (h:vw nx σ (upd H p (.ins a.C_Even dx (xt v v1)))):∃ a' C dx fs,V.ref p=.ref a'/\H a'=some (.ins C dx fs)/\Cls K C/\yr K C "noughts"/\fs.length < 1000/\vw nx σ (upd H a' (.ins C dx (wo "noughts" v fs))):=⟨p,_,dx,xt v0 v1,rfl,hp,T.cl_Even,T.n_Even_noughts,by show 2 < 1000; decide,by rw [show wo "noughts" v (xt v0 v1)=xt v v1 from ja]; exact h⟩
theorem ybs (T:Txt K mg a) (hp:H p=some (.ins a.C_Even dx [])) (h:vw nx σ (upd H p (.ins a.C_Even dx (([("noughts",v)]:List (Str × V)))))):∃ a' C dx fs,V.ref p=.ref a'/\H a'=some (.ins C dx fs)/\Cls K C/\yr K C "noughts"/\fs.length < 1000/\vw nx σ (upd H a' (.ins C dx (wo "noughts" v fs))):=⟨p,_,dx,[],rfl,hp,T.cl_Even,T.n_Even_noughts,by show 0 < 1000; decide,by rw [show wo "noughts" v []=([("noughts",v)]:List (Str × V)) from xo]; exact h⟩
theorem yef (T:Txt K mg a) (hp:H p=some (.ins a.C_Even dx (xt v0 v1))) (h:P v1):∃ a' C dx fs v,V.ref p=.ref a'/\H a'=some (.ins C dx fs)/\Cls K C/\yr K C "ones"/\fs.lookup ("ones":Str)=some v/\P v:=⟨p,_,dx,_,_,rfl,hp,T.cl_Even,T.n_Even_ones,(yx (by decide +kernel) zk),h⟩
theorem yel (T:Txt K mg a) (hp:H p=some (.ins a.C_Even dx (xt v0 v1))) (h:vw nx σ (upd H p (.ins a.C_Even dx (xt v0 v)))):∃ a' C dx fs,V.ref p=.ref a'/\H a'=some (.ins C dx fs)/\Cls K C/\yr K C "ones"/\fs.length < 1000/\vw nx σ (upd H a' (.ins C dx (wo "ones" v fs))):=⟨p,_,dx,xt v0 v1,rfl,hp,T.cl_Even,T.n_Even_ones,by show 2 < 1000; decide,by rw [show wo "ones" v (xt v0 v1)=xt v0 v from (we (by decide +kernel) ja)]; exact h⟩
theorem yem (T:Txt K mg a) (hp:H p=some (.ins a.C_Even dx [("noughts",v0)])) (h:vw nx σ (upd H p (.ins a.C_Even dx (xt v0 v)))):∃ a' C dx fs,V.ref p=.ref a'/\H a'=some (.ins C dx fs)/\Cls K C/\yr K C "ones"/\fs.length < 1000/\vw nx σ (upd H a' (.ins C dx (wo "ones" v fs))):=⟨p,_,dx,[("noughts",v0)],rfl,hp,T.cl_Even,T.n_Even_ones,by show 1 < 1000; decide,by rw [show wo "ones" v [("noughts",v0)]=xt v0 v from (we (by decide +kernel) xo)]; exact h⟩
theorem yci:(xt v0 v1).lookup ("chance":Str)=none:=(yx (by decide +kernel) (yx (by decide +kernel) xu))
theorem yea:(xt v0 v1).lookup ("seen":Str)=none:=(yx (by decide +kernel) (yx (by decide +kernel) xu))
end
local macro_rules | `(tactic| walk_at "rd1")=>`(tactic| first
 | (with_reducible refine' ybq (by assumption) ?rdh ?_; (case rdh=>first | assumption | exact yc))
 | (with_reducible refine' ybt (by assumption) ?rdh ?_; (case rdh=>first | assumption | exact yc))
 | (with_reducible refine' ybs (by assumption) ?rdh ?_; (case rdh=>first | assumption | exact yc))
 | (with_reducible refine' yef (by assumption) ?rdh ?_; (case rdh=>first | assumption | exact yc))
 | (with_reducible refine' yel (by assumption) ?rdh ?_; (case rdh=>first | assumption | exact yc))
 | (with_reducible refine' yem (by assumption) ?rdh ?_; (case rdh=>first | assumption | exact yc))
 | (with_reducible refine' mt_Even___init__ ?rdh ?_; (case rdh=>first | assumption | exact yc))
 | (with_reducible refine' mt_Even_chance ?rdh ?_; (case rdh=>first | assumption | exact yc))
 | (with_reducible refine' mt_Even_seen ?rdh ?_; (case rdh=>first | assumption | exact yc))
)
def uc (v0:V):List (Str × V):=[("held",v0)]
section
variable {H:Hp} {p dx:Addr} {v0 v:V} {P:V->Prop} {R:Prop} {nx:St->Hp->Prop} {σ:St}
theorem ydg (T:Txt K mg a) (hp:H p=some (.ins a.C_Quick dx (uc v0))) (h:P v0):∃ a' C dx fs v,V.ref p=.ref a'/\H a'=some (.ins C dx fs)/\Cls K C/\yr K C "held"/\fs.lookup ("held":Str)=some v/\P v:=⟨p,_,dx,_,_,rfl,hp,T.cl_Quick,T.n_Quick_held,zk,h⟩
theorem ydk (T:Txt K mg a) (hp:H p=some (.ins a.C_Quick dx (uc v0))) (h:vw nx σ (upd H p (.ins a.C_Quick dx (uc v)))):∃ a' C dx fs,V.ref p=.ref a'/\H a'=some (.ins C dx fs)/\Cls K C/\yr K C "held"/\fs.length < 1000/\vw nx σ (upd H a' (.ins C dx (wo "held" v fs))):=⟨p,_,dx,uc v0,rfl,hp,T.cl_Quick,T.n_Quick_held,by show 1 < 1000; decide,by rw [show wo "held" v (uc v0)=uc v from ja]; exact h⟩
theorem yde (T:Txt K mg a) (hp:H p=some (.ins a.C_Quick dx [])) (h:vw nx σ (upd H p (.ins a.C_Quick dx (uc v)))):∃ a' C dx fs,V.ref p=.ref a'/\H a'=some (.ins C dx fs)/\Cls K C/\yr K C "held"/\fs.length < 1000/\vw nx σ (upd H a' (.ins C dx (wo "held" v fs))):=⟨p,_,dx,[],rfl,hp,T.cl_Quick,T.n_Quick_held,by show 0 < 1000; decide,by rw [show wo "held" v []=uc v from xo]; exact h⟩
theorem ybr:(uc v0).lookup ("chance":Str)=none:=(yx (by decide +kernel) xu)
theorem ydl:(uc v0).lookup ("seen":Str)=none:=(yx (by decide +kernel) xu)
end
local macro_rules | `(tactic| walk_at "rd1")=>`(tactic| first
 | (with_reducible refine' ydg (by assumption) ?rdh ?_; (case rdh=>first | assumption | exact yc))
 | (with_reducible refine' ydk (by assumption) ?rdh ?_; (case rdh=>first | assumption | exact yc))
 | (with_reducible refine' yde (by assumption) ?rdh ?_; (case rdh=>first | assumption | exact yc))
 | (with_reducible refine' mt_Quick___init__ ?rdh ?_; (case rdh=>first | assumption | exact yc))
 | (with_reducible refine' mt_Quick_chance ?rdh ?_; (case rdh=>first | assumption | exact yc))
 | (with_reducible refine' mt_Quick_seen ?rdh ?_; (case rdh=>first | assumption | exact yc))
)
def zl (v0 v1:V):List (Str × V):=[("last",v0),("length",v1)]
section
variable {H:Hp} {p dx:Addr} {v0 v1 v:V} {P:V->Prop} {R:Prop} {nx:St->Hp->Prop} {σ:St}
theorem yge (T:Txt K mg a) (hp:H p=some (.ins a.C_Run dx (zl v0 v1))) (h:P v0):∃ a' C dx fs v,V.ref p=.ref a'/\H a'=some (.ins C dx fs)/\Cls K C/\yr K C "last"/\fs.lookup ("last":Str)=some v/\P v:=⟨p,_,dx,_,_,rfl,hp,T.cl_Run,T.n_Run_last,zk,h⟩
theorem yf3 (T:Txt K mg a) (hp:H p=some (.ins a.C_Run dx (zl v0 v1))) (h:vw nx σ (upd H p (.ins a.C_Run dx (zl v v1)))):∃ a' C dx fs,V.ref p=.ref a'/\H a'=some (.ins C dx fs)/\Cls K C/\yr K C "last"/\fs.length < 1000/\vw nx σ (upd H a' (.ins C dx (wo "last" v fs))):=⟨p,_,dx,zl v0 v1,rfl,hp,T.cl_Run,T.n_Run_last,by show 2 < 1000; decide,by rw [show wo "last" v (zl v0 v1)=zl v v1 from ja]; exact h⟩
theorem yf6 (T:Txt K mg a) (hp:H p=some (.ins a.C_Run dx [])) (h:vw nx σ (upd H p (.ins a.C_Run dx (([("last",v)]:List (Str × V)))))):∃ a' C dx fs,V.ref p=.ref a'/\H a'=some (.ins C dx fs)/\Cls K C/\yr K C "last"/\fs.length < 1000/\vw nx σ (upd H a' (.ins C dx (wo "last" v fs))):=⟨p,_,dx,[],rfl,hp,T.cl_Run,T.n_Run_last,by show 0 < 1000; decide,by rw [show wo "last" v []=([("last",v)]:List (Str × V)) from xo]; exact h⟩
theorem yc8 (T:Txt K mg a) (hp:H p=some (.ins a.C_Run dx (zl v0 v1))) (h:P v1):∃ a' C dx fs v,V.ref p=.ref a'/\H a'=some (.ins C dx fs)/\Cls K C/\yr K C "length"/\fs.lookup ("length":Str)=some v/\P v:=⟨p,_,dx,_,_,rfl,hp,T.cl_Run,T.n_Run_length,(yx (by decide +kernel) zk),h⟩
theorem ydo (T:Txt K mg a) (hp:H p=some (.ins a.C_Run dx (zl v0 v1))) (h:vw nx σ (upd H p (.ins a.C_Run dx (zl v0 v)))):∃ a' C dx fs,V.ref p=.ref a'/\H a'=some (.ins C dx fs)/\Cls K C/\yr K C "length"/\fs.length < 1000/\vw nx σ (upd H a' (.ins C dx (wo "length" v fs))):=⟨p,_,dx,zl v0 v1,rfl,hp,T.cl_Run,T.n_Run_length,by show 2 < 1000; decide,by rw [show wo "length" v (zl v0 v1)=zl v0 v from (we (by decide +kernel) ja)]; exact h⟩
theorem yda (T:Txt K mg a) (hp:H p=some (.ins a.C_Run dx [("last",v0)])) (h:vw nx σ (upd H p (.ins a.C_Run dx (zl v0 v)))):∃ a' C dx fs,V.ref p=.ref a'/\H a'=some (.ins C dx fs)/\Cls K C/\yr K C "length"/\fs.length < 1000/\vw nx σ (upd H a' (.ins C dx (wo "length" v fs))):=⟨p,_,dx,[("last",v0)],rfl,hp,T.cl_Run,T.n_Run_length,by show 1 < 1000; decide,by rw [show wo "length" v [("last",v0)]=zl v0 v from (we (by decide +kernel) xo)]; exact h⟩
theorem ydh:(zl v0 v1).lookup ("chance":Str)=none:=(yx (by decide +kernel) (yx (by decide +kernel) xu))
theorem ygm:(zl v0 v1).lookup ("seen":Str)=none:=(yx (by decide +kernel) (yx (by decide +kernel) xu))
end
local macro_rules | `(tactic| walk_at "rd1")=>`(tactic| first
 | (with_reducible refine' yge (by assumption) ?rdh ?_; (case rdh=>first | assumption | exact yc))
 | (with_reducible refine' yf3 (by assumption) ?rdh ?_; (case rdh=>first | assumption | exact yc))
 | (with_reducible refine' yf6 (by assumption) ?rdh ?_; (case rdh=>first | assumption | exact yc))
 | (with_reducible refine' yc8 (by assumption) ?rdh ?_; (case rdh=>first | assumption | exact yc))
 | (with_reducible refine' ydo (by assumption) ?rdh ?_; (case rdh=>first | assumption | exact yc))
 | (with_reducible refine' yda (by assumption) ?rdh ?_; (case rdh=>first | assumption | exact yc))
 | (with_reducible refine' mt_Run___init__ ?rdh ?_; (case rdh=>first | assumption | exact yc))
 | (with_reducible refine' mt_Run_chance ?rdh ?_; (case rdh=>first | assumption | exact yc))
 | (with_reducible refine' mt_Run_seen ?rdh ?_; (case rdh=>first | assumption | exact yc))
)
def yj6 (v0:V):List (Str × V):=[("kept",v0)]
section
variable {H:Hp} {p dx:Addr} {v0 v:V} {P:V->Prop} {R:Prop} {nx:St->Hp->Prop} {σ:St}
theorem yjk (T:Txt K mg a) (hp:H p=some (.ins a.C_Mx dx (yj6 v0))) (h:P v0):∃ a' C dx fs v,V.ref p=.ref a'/\H a'=some (.ins C dx fs)/\Cls K C/\yr K C "kept"/\fs.lookup ("kept":Str)=some v/\P v:=⟨p,_,dx,_,_,rfl,hp,T.cl_Mx,T.n_Mx_kept,zk,h⟩
theorem yje (T:Txt K mg a) (hp:H p=some (.ins a.C_Mx dx (yj6 v0))) (h:vw nx σ (upd H p (.ins a.C_Mx dx (yj6 v)))):∃ a' C dx fs,V.ref p=.ref a'/\H a'=some (.ins C dx fs)/\Cls K C/\yr K C "kept"/\fs.length < 1000/\vw nx σ (upd H a' (.ins C dx (wo "kept" v fs))):=⟨p,_,dx,yj6 v0,rfl,hp,T.cl_Mx,T.n_Mx_kept,by show 1 < 1000; decide,by rw [show wo "kept" v (yj6 v0)=yj6 v from ja]; exact h⟩
theorem yju (T:Txt K mg a) (hp:H p=some (.ins a.C_Mx dx [])) (h:vw nx σ (upd H p (.ins a.C_Mx dx (yj6 v)))):∃ a' C dx fs,V.ref p=.ref a'/\H a'=some (.ins C dx fs)/\Cls K C/\yr K C "kept"/\fs.length < 1000/\vw nx σ (upd H a' (.ins C dx (wo "kept" v fs))):=⟨p,_,dx,[],rfl,hp,T.cl_Mx,T.n_Mx_kept,by show 0 < 1000; decide,by rw [show wo "kept" v []=yj6 v from xo]; exact h⟩
theorem yf2:(yj6 v0).lookup ("mixed":Str)=none:=(yx (by decide +kernel) xu)
theorem yf9 {C:Addr} (hp:H p=some (.ins C dx (yj6 v0))) (h:R):∃ a dx fs,V.ref p=.ref a/\H a=some (.ins C dx fs)/\fs.lookup ("mixed":Str)=none/\R:=⟨p,dx,_,rfl,hp,yf2,h⟩
theorem ygh:(yj6 v0).lookup ("learn":Str)=none:=(yx (by decide +kernel) xu)
theorem yfw {C:Addr} (hp:H p=some (.ins C dx (yj6 v0))) (h:R):∃ a dx fs,V.ref p=.ref a/\H a=some (.ins C dx fs)/\fs.lookup ("learn":Str)=none/\R:=⟨p,dx,_,rfl,hp,ygh,h⟩
end
local macro_rules | `(tactic| walk_at "rd1")=>`(tactic| first
 | (with_reducible refine' yjk (by assumption) ?rdh ?_; (case rdh=>first | assumption | exact yc))
 | (with_reducible refine' yje (by assumption) ?rdh ?_; (case rdh=>first | assumption | exact yc))
 | (with_reducible refine' yju (by assumption) ?rdh ?_; (case rdh=>first | assumption | exact yc))
 | (with_reducible refine' mt_Mx___init__ ?rdh ?_; (case rdh=>first | assumption | exact yc))
 | (with_reducible refine' yf9 ?rdh ?_; (case rdh=>first | assumption | exact yc))
 | (with_reducible refine' yfw ?rdh ?_; (case rdh=>first | assumption | exact yc))
)
def zy (v0 v1:V):List (Str × V):=[("look",v0),("slots",v1)]
section
variable {H:Hp} {p dx:Addr} {v0 v1 v:V} {P:V->Prop} {R:Prop} {nx:St->Hp->Prop} {σ:St}
theorem yeh (T:Txt K mg a) (hp:H p=some (.ins a.C_Book dx (zy v0 v1))) (h:P v0):∃ a' C dx fs v,V.ref p=.ref a'/\H a'=some (.ins C dx fs)/\Cls K C/\yr K C "look"/\fs.lookup ("look":Str)=some v/\P v:=⟨p,_,dx,_,_,rfl,hp,T.cl_Book,T.n_Book_look,zk,h⟩
theorem yep (T:Txt K mg a) (hp:H p=some (.ins a.C_Book dx [])) (h:vw nx σ (upd H p (.ins a.C_Book dx (([("look",v)]:List (Str × V)))))):∃ a' C dx fs,V.ref p=.ref a'/\H a'=some (.ins C dx fs)/\Cls K C/\yr K C "look"/\fs.length < 1000/\vw nx σ (upd H a' (.ins C dx (wo "look" v fs))):=⟨p,_,dx,[],rfl,hp,T.cl_Book,T.n_Book_look,by show 0 < 1000; decide,by rw [show wo "look" v []=([("look",v)]:List (Str × V)) from xo]; exact h⟩
theorem yc2 (T:Txt K mg a) (hp:H p=some (.ins a.C_Book dx (zy v0 v1))) (h:P v1):∃ a' C dx fs v,V.ref p=.ref a'/\H a'=some (.ins C dx fs)/\Cls K C/\yr K C "slots"/\fs.lookup ("slots":Str)=some v/\P v:=⟨p,_,dx,_,_,rfl,hp,T.cl_Book,T.n_Book_slots,(yx (by decide +kernel) zk),h⟩
theorem ydj (T:Txt K mg a) (hp:H p=some (.ins a.C_Book dx (zy v0 v1))) (h:vw nx σ (upd H p (.ins a.C_Book dx (zy v0 v)))):∃ a' C dx fs,V.ref p=.ref a'/\H a'=some (.ins C dx fs)/\Cls K C/\yr K C "slots"/\fs.length < 1000/\vw nx σ (upd H a' (.ins C dx (wo "slots" v fs))):=⟨p,_,dx,zy v0 v1,rfl,hp,T.cl_Book,T.n_Book_slots,by show 2 < 1000; decide,by rw [show wo "slots" v (zy v0 v1)=zy v0 v from (we (by decide +kernel) ja)]; exact h⟩
theorem ydn (T:Txt K mg a) (hp:H p=some (.ins a.C_Book dx [("look",v0)])) (h:vw nx σ (upd H p (.ins a.C_Book dx (zy v0 v)))):∃ a' C dx fs,V.ref p=.ref a'/\H a'=some (.ins C dx fs)/\Cls K C/\yr K C "slots"/\fs.length < 1000/\vw nx σ (upd H a' (.ins C dx (wo "slots" v fs))):=⟨p,_,dx,[("look",v0)],rfl,hp,T.cl_Book,T.n_Book_slots,by show 1 < 1000; decide,by rw [show wo "slots" v [("look",v0)]=zy v0 v from (we (by decide +kernel) xo)]; exact h⟩
theorem ybp:(zy v0 v1).lookup ("slot_at":Str)=none:=(yx (by decide +kernel) (yx (by decide +kernel) xu))
theorem ybu {C:Addr} (hp:H p=some (.ins C dx (zy v0 v1))) (h:R):∃ a dx fs,V.ref p=.ref a/\H a=some (.ins C dx fs)/\fs.lookup ("slot_at":Str)=none/\R:=⟨p,dx,_,rfl,hp,ybp,h⟩
end
local macro_rules | `(tactic| walk_at "rd1")=>`(tactic| first
 | (with_reducible refine' yeh (by assumption) ?rdh ?_; (case rdh=>first | assumption | exact yc))
 | (with_reducible refine' st_Book_look (by assumption) ?rdh ?_; (case rdh=>first | assumption | exact yc))
 | (with_reducible refine' yep (by assumption) ?rdh ?_; (case rdh=>first | assumption | exact yc))
 | (with_reducible refine' yc2 (by assumption) ?rdh ?_; (case rdh=>first | assumption | exact yc))
 | (with_reducible refine' ydj (by assumption) ?rdh ?_; (case rdh=>first | assumption | exact yc))
 | (with_reducible refine' ydn (by assumption) ?rdh ?_; (case rdh=>first | assumption | exact yc))
 | (with_reducible refine' mt_Book___init__ ?rdh ?_; (case rdh=>first | assumption | exact yc))
 | (with_reducible refine' ybu ?rdh ?_; (case rdh=>first | assumption | exact yc))
)
def xx (v0 v1 v2 v3 v4 v5:V):List (Str × V):=[("looks",v0),("books",v1),("mixer",v2),("ended",v3),("place",v4),("present",v5)]
section
variable {H:Hp} {p dx:Addr} {v0 v1 v2 v3 v4 v5 v:V} {P:V->Prop} {R:Prop} {nx:St->Hp->Prop} {σ:St}
theorem ygp (T:Txt K mg a) (hp:H p=some (.ins a.C_Ft dx [])) (h:vw nx σ (upd H p (.ins a.C_Ft dx (([("looks",v)]:List (Str × V)))))):∃ a' C dx fs,V.ref p=.ref a'/\H a'=some (.ins C dx fs)/\Cls K C/\yr K C "looks"/\fs.length < 1000/\vw nx σ (upd H a' (.ins C dx (wo "looks" v fs))):=⟨p,_,dx,[],rfl,hp,T.cl_Ft,T.n_Ft_looks,by show 0 < 1000; decide,by rw [show wo "looks" v []=([("looks",v)]:List (Str × V)) from xo]; exact h⟩
theorem yfz (T:Txt K mg a) (hp:H p=some (.ins a.C_Ft dx (xx v0 v1 v2 v3 v4 v5))) (h:P v1):∃ a' C dx fs v,V.ref p=.ref a'/\H a'=some (.ins C dx fs)/\Cls K C/\yr K C "books"/\fs.lookup ("books":Str)=some v/\P v:=⟨p,_,dx,_,_,rfl,hp,T.cl_Ft,T.n_Ft_books,(yx (by decide +kernel) zk),h⟩
theorem ygo (T:Txt K mg a) (hp:H p=some (.ins a.C_Ft dx (xx v0 v1 v2 v3 v4 v5))) (h:vw nx σ (upd H p (.ins a.C_Ft dx (xx v0 v v2 v3 v4 v5)))):∃ a' C dx fs,V.ref p=.ref a'/\H a'=some (.ins C dx fs)/\Cls K C/\yr K C "books"/\fs.length < 1000/\vw nx σ (upd H a' (.ins C dx (wo "books" v fs))):=⟨p,_,dx,xx v0 v1 v2 v3 v4 v5,rfl,hp,T.cl_Ft,T.n_Ft_books,by show 6 < 1000; decide,by rw [show wo "books" v (xx v0 v1 v2 v3 v4 v5)=xx v0 v v2 v3 v4 v5 from (we (by decide +kernel) ja)]; exact h⟩
theorem yga (T:Txt K mg a) (hp:H p=some (.ins a.C_Ft dx [("looks",v0)])) (h:vw nx σ (upd H p (.ins a.C_Ft dx (([("looks",v0),("books",v)]:List (Str × V)))))):∃ a' C dx fs,V.ref p=.ref a'/\H a'=some (.ins C dx fs)/\Cls K C/\yr K C "books"/\fs.length < 1000/\vw nx σ (upd H a' (.ins C dx (wo "books" v fs))):=⟨p,_,dx,[("looks",v0)],rfl,hp,T.cl_Ft,T.n_Ft_books,by show 1 < 1000; decide,by rw [show wo "books" v [("looks",v0)]=([("looks",v0),("books",v)]:List (Str × V)) from (we (by decide +kernel) xo)]; exact h⟩
theorem ygj (T:Txt K mg a) (hp:H p=some (.ins a.C_Ft dx (xx v0 v1 v2 v3 v4 v5))) (h:P v2):∃ a' C dx fs v,V.ref p=.ref a'/\H a'=some (.ins C dx fs)/\Cls K C/\yr K C "mixer"/\fs.lookup ("mixer":Str)=some v/\P v:=⟨p,_,dx,_,_,rfl,hp,T.cl_Ft,T.n_Ft_mixer,(yx (by decide +kernel) (yx (by decide +kernel) zk)),h⟩
theorem yf1 (T:Txt K mg a) (hp:H p=some (.ins a.C_Ft dx (xx v0 v1 v2 v3 v4 v5))) (h:vw nx σ (upd H p (.ins a.C_Ft dx (xx v0 v1 v v3 v4 v5)))):∃ a' C dx fs,V.ref p=.ref a'/\H a'=some (.ins C dx fs)/\Cls K C/\yr K C "mixer"/\fs.length < 1000/\vw nx σ (upd H a' (.ins C dx (wo "mixer" v fs))):=⟨p,_,dx,xx v0 v1 v2 v3 v4 v5,rfl,hp,T.cl_Ft,T.n_Ft_mixer,by show 6 < 1000; decide,by rw [show wo "mixer" v (xx v0 v1 v2 v3 v4 v5)=xx v0 v1 v v3 v4 v5 from (we (by decide +kernel) (we (by decide +kernel) ja))]; exact h⟩
theorem yfx (T:Txt K mg a) (hp:H p=some (.ins a.C_Ft dx [("looks",v0),("books",v1)])) (h:vw nx σ (upd H p (.ins a.C_Ft dx (([("looks",v0),("books",v1),("mixer",v)]:List (Str × V)))))):∃ a' C dx fs,V.ref p=.ref a'/\H a'=some (.ins C dx fs)/\Cls K C/\yr K C "mixer"/\fs.length < 1000/\vw nx σ (upd H a' (.ins C dx (wo "mixer" v fs))):=⟨p,_,dx,[("looks",v0),("books",v1)],rfl,hp,T.cl_Ft,T.n_Ft_mixer,by show 2 < 1000; decide,by rw [show wo "mixer" v [("looks",v0),("books",v1)]=([("looks",v0),("books",v1),("mixer",v)]:List (Str × V)) from (we (by decide +kernel) (we (by decide +kernel) xo))]; exact h⟩
theorem ygl (T:Txt K mg a) (hp:H p=some (.ins a.C_Ft dx (xx v0 v1 v2 v3 v4 v5))) (h:P v3):∃ a' C dx fs v,V.ref p=.ref a'/\H a'=some (.ins C dx fs)/\Cls K C/\yr K C "ended"/\fs.lookup ("ended":Str)=some v/\P v:=⟨p,_,dx,_,_,rfl,hp,T.cl_Ft,T.n_Ft_ended,(yx (by decide +kernel) (yx (by decide +kernel) (yx (by decide +kernel) zk))),h⟩
theorem ygc (T:Txt K mg a) (hp:H p=some (.ins a.C_Ft dx (xx v0 v1 v2 v3 v4 v5))) (h:vw nx σ (upd H p (.ins a.C_Ft dx (xx v0 v1 v2 v v4 v5)))):∃ a' C dx fs,V.ref p=.ref a'/\H a'=some (.ins C dx fs)/\Cls K C/\yr K C "ended"/\fs.length < 1000/\vw nx σ (upd H a' (.ins C dx (wo "ended" v fs))):=⟨p,_,dx,xx v0 v1 v2 v3 v4 v5,rfl,hp,T.cl_Ft,T.n_Ft_ended,by show 6 < 1000; decide,by rw [show wo "ended" v (xx v0 v1 v2 v3 v4 v5)=xx v0 v1 v2 v v4 v5 from (we (by decide +kernel) (we (by decide +kernel) (we (by decide +kernel) ja)))]; exact h⟩
theorem ygf (T:Txt K mg a) (hp:H p=some (.ins a.C_Ft dx [("looks",v0),("books",v1),("mixer",v2)])) (h:vw nx σ (upd H p (.ins a.C_Ft dx (([("looks",v0),("books",v1),("mixer",v2),("ended",v)]:List (Str × V)))))):∃ a' C dx fs,V.ref p=.ref a'/\H a'=some (.ins C dx fs)/\Cls K C/\yr K C "ended"/\fs.length < 1000/\vw nx σ (upd H a' (.ins C dx (wo "ended" v fs))):=⟨p,_,dx,[("looks",v0),("books",v1),("mixer",v2)],rfl,hp,T.cl_Ft,T.n_Ft_ended,by show 3 < 1000; decide,by rw [show wo "ended" v [("looks",v0),("books",v1),("mixer",v2)]=([("looks",v0),("books",v1),("mixer",v2),("ended",v)]:List (Str × V)) from (we (by decide +kernel) (we (by decide +kernel) (we (by decide +kernel) xo)))]; exact h⟩
theorem yf0 (T:Txt K mg a) (hp:H p=some (.ins a.C_Ft dx (xx v0 v1 v2 v3 v4 v5))) (h:P v4):∃ a' C dx fs v,V.ref p=.ref a'/\H a'=some (.ins C dx fs)/\Cls K C/\yr K C "place"/\fs.lookup ("place":Str)=some v/\P v:=⟨p,_,dx,_,_,rfl,hp,T.cl_Ft,T.n_Ft_place,(yx (by decide +kernel) (yx (by decide +kernel) (yx (by decide +kernel) (yx (by decide +kernel) zk)))),h⟩
theorem ygd (T:Txt K mg a) (hp:H p=some (.ins a.C_Ft dx (xx v0 v1 v2 v3 v4 v5))) (h:vw nx σ (upd H p (.ins a.C_Ft dx (xx v0 v1 v2 v3 v v5)))):∃ a' C dx fs,V.ref p=.ref a'/\H a'=some (.ins C dx fs)/\Cls K C/\yr K C "place"/\fs.length < 1000/\vw nx σ (upd H a' (.ins C dx (wo "place" v fs))):=⟨p,_,dx,xx v0 v1 v2 v3 v4 v5,rfl,hp,T.cl_Ft,T.n_Ft_place,by show 6 < 1000; decide,by rw [show wo "place" v (xx v0 v1 v2 v3 v4 v5)=xx v0 v1 v2 v3 v v5 from (we (by decide +kernel) (we (by decide +kernel) (we (by decide +kernel) (we (by decide +kernel) ja))))]; exact h⟩
theorem ygb (T:Txt K mg a) (hp:H p=some (.ins a.C_Ft dx [("looks",v0),("books",v1),("mixer",v2),("ended",v3)])) (h:vw nx σ (upd H p (.ins a.C_Ft dx (([("looks",v0),("books",v1),("mixer",v2),("ended",v3),("place",v)]:List (Str × V)))))):∃ a' C dx fs,V.ref p=.ref a'/\H a'=some (.ins C dx fs)/\Cls K C/\yr K C "place"/\fs.length < 1000/\vw nx σ (upd H a' (.ins C dx (wo "place" v fs))):=⟨p,_,dx,[("looks",v0),("books",v1),("mixer",v2),("ended",v3)],rfl,hp,T.cl_Ft,T.n_Ft_place,by show 4 < 1000; decide,by rw [show wo "place" v [("looks",v0),("books",v1),("mixer",v2),("ended",v3)]=([("looks",v0),("books",v1),("mixer",v2),("ended",v3),("place",v)]:List (Str × V)) from (we (by decide +kernel) (we (by decide +kernel) (we (by decide +kernel) (we (by decide +kernel) xo))))]; exact h⟩
theorem ydf (T:Txt K mg a) (hp:H p=some (.ins a.C_Ft dx (xx v0 v1 v2 v3 v4 v5))) (h:P v5):∃ a' C dx fs v,V.ref p=.ref a'/\H a'=some (.ins C dx fs)/\Cls K C/\yr K C "present"/\fs.lookup ("present":Str)=some v/\P v:=⟨p,_,dx,_,_,rfl,hp,T.cl_Ft,T.n_Ft_present,(yx (by decide +kernel) (yx (by decide +kernel) (yx (by decide +kernel) (yx (by decide +kernel) (yx (by decide +kernel) zk))))),h⟩
theorem ydi (T:Txt K mg a) (hp:H p=some (.ins a.C_Ft dx (xx v0 v1 v2 v3 v4 v5))) (h:vw nx σ (upd H p (.ins a.C_Ft dx (xx v0 v1 v2 v3 v4 v)))):∃ a' C dx fs,V.ref p=.ref a'/\H a'=some (.ins C dx fs)/\Cls K C/\yr K C "present"/\fs.length < 1000/\vw nx σ (upd H a' (.ins C dx (wo "present" v fs))):=⟨p,_,dx,xx v0 v1 v2 v3 v4 v5,rfl,hp,T.cl_Ft,T.n_Ft_present,by show 6 < 1000; decide,by rw [show wo "present" v (xx v0 v1 v2 v3 v4 v5)=xx v0 v1 v2 v3 v4 v from (we (by decide +kernel) (we (by decide +kernel) (we (by decide +kernel) (we (by decide +kernel) (we (by decide +kernel) ja)))))]; exact h⟩
theorem ydc (T:Txt K mg a) (hp:H p=some (.ins a.C_Ft dx [("looks",v0),("books",v1),("mixer",v2),("ended",v3),("place",v4)])) (h:vw nx σ (upd H p (.ins a.C_Ft dx (xx v0 v1 v2 v3 v4 v)))):∃ a' C dx fs,V.ref p=.ref a'/\H a'=some (.ins C dx fs)/\Cls K C/\yr K C "present"/\fs.length < 1000/\vw nx σ (upd H a' (.ins C dx (wo "present" v fs))):=⟨p,_,dx,[("looks",v0),("books",v1),("mixer",v2),("ended",v3),("place",v4)],rfl,hp,T.cl_Ft,T.n_Ft_present,by show 5 < 1000; decide,by rw [show wo "present" v [("looks",v0),("books",v1),("mixer",v2),("ended",v3),("place",v4)]=xx v0 v1 v2 v3 v4 v from (we (by decide +kernel) (we (by decide +kernel) (we (by decide +kernel) (we (by decide +kernel) (we (by decide +kernel) xo)))))]; exact h⟩
theorem yei:(xx v0 v1 v2 v3 v4 v5).lookup ("arrive":Str)=none:=(yx (by decide +kernel) (yx (by decide +kernel) (yx (by decide +kernel) (yx (by decide +kernel) (yx (by decide +kernel) (yx (by decide +kernel) xu))))))
theorem yeq {C:Addr} (hp:H p=some (.ins C dx (xx v0 v1 v2 v3 v4 v5))) (h:R):∃ a dx fs,V.ref p=.ref a/\H a=some (.ins C dx fs)/\fs.lookup ("arrive":Str)=none/\R:=⟨p,dx,_,rfl,hp,yei,h⟩
theorem yc5:(xx v0 v1 v2 v3 v4 v5).lookup ("chances":Str)=none:=(yx (by decide +kernel) (yx (by decide +kernel) (yx (by decide +kernel) (yx (by decide +kernel) (yx (by decide +kernel) (yx (by decide +kernel) xu))))))
theorem yc4 {C:Addr} (hp:H p=some (.ins C dx (xx v0 v1 v2 v3 v4 v5))) (h:R):∃ a dx fs,V.ref p=.ref a/\H a=some (.ins C dx fs)/\fs.lookup ("chances":Str)=none/\R:=⟨p,dx,_,rfl,hp,yc5,h⟩
theorem yed:(xx v0 v1 v2 v3 v4 v5).lookup ("chance":Str)=none:=(yx (by decide +kernel) (yx (by decide +kernel) (yx (by decide +kernel) (yx (by decide +kernel) (yx (by decide +kernel) (yx (by decide +kernel) xu))))))
theorem yee {C:Addr} (hp:H p=some (.ins C dx (xx v0 v1 v2 v3 v4 v5))) (h:R):∃ a dx fs,V.ref p=.ref a/\H a=some (.ins C dx fs)/\fs.lookup ("chance":Str)=none/\R:=⟨p,dx,_,rfl,hp,yed,h⟩
theorem ykq:(xx v0 v1 v2 v3 v4 v5).lookup ("see":Str)=none:=(yx (by decide +kernel) (yx (by decide +kernel) (yx (by decide +kernel) (yx (by decide +kernel) (yx (by decide +kernel) (yx (by decide +kernel) xu))))))
theorem yks {C:Addr} (hp:H p=some (.ins C dx (xx v0 v1 v2 v3 v4 v5))) (h:R):∃ a dx fs,V.ref p=.ref a/\H a=some (.ins C dx fs)/\fs.lookup ("see":Str)=none/\R:=⟨p,dx,_,rfl,hp,ykq,h⟩
theorem yiy:(xx v0 v1 v2 v3 v4 v5).lookup ("step":Str)=none:=(yx (by decide +kernel) (yx (by decide +kernel) (yx (by decide +kernel) (yx (by decide +kernel) (yx (by decide +kernel) (yx (by decide +kernel) xu))))))
theorem yiw {C:Addr} (hp:H p=some (.ins C dx (xx v0 v1 v2 v3 v4 v5))) (h:R):∃ a dx fs,V.ref p=.ref a/\H a=some (.ins C dx fs)/\fs.lookup ("step":Str)=none/\R:=⟨p,dx,_,rfl,hp,yiy,h⟩
theorem j9:(xx v0 v1 v2 v3 v4 v5).lookup ("step_in_sign":Str)=none:=(yx (by decide +kernel) (yx (by decide +kernel) (yx (by decide +kernel) (yx (by decide +kernel) (yx (by decide +kernel) (yx (by decide +kernel) xu))))))
theorem j8 {C:Addr} (hp:H p=some (.ins C dx (xx v0 v1 v2 v3 v4 v5))) (h:R):∃ a dx fs,V.ref p=.ref a/\H a=some (.ins C dx fs)/\fs.lookup ("step_in_sign":Str)=none/\R:=⟨p,dx,_,rfl,hp,j9,h⟩
end
local macro_rules | `(tactic| walk_at "rd1")=>`(tactic| first
 | (with_reducible refine' rd_Ft_looks (by assumption) ?rdh ?_; (case rdh=>first | assumption | exact yc))
 | (with_reducible refine' st_Ft_looks (by assumption) ?rdh ?_; (case rdh=>first | assumption | exact yc))
 | (with_reducible refine' ygp (by assumption) ?rdh ?_; (case rdh=>first | assumption | exact yc))
 | (with_reducible refine' yfz (by assumption) ?rdh ?_; (case rdh=>first | assumption | exact yc))
 | (with_reducible refine' ygo (by assumption) ?rdh ?_; (case rdh=>first | assumption | exact yc))
 | (with_reducible refine' yga (by assumption) ?rdh ?_; (case rdh=>first | assumption | exact yc))
 | (with_reducible refine' ygj (by assumption) ?rdh ?_; (case rdh=>first | assumption | exact yc))
 | (with_reducible refine' yf1 (by assumption) ?rdh ?_; (case rdh=>first | assumption | exact yc))
 | (with_reducible refine' yfx (by assumption) ?rdh ?_; (case rdh=>first | assumption | exact yc))
 | (with_reducible refine' ygl (by assumption) ?rdh ?_; (case rdh=>first | assumption | exact yc))
 | (with_reducible refine' ygc (by assumption) ?rdh ?_; (case rdh=>first | assumption | exact yc))
 | (with_reducible refine' ygf (by assumption) ?rdh ?_; (case rdh=>first | assumption | exact yc))
 | (with_reducible refine' yf0 (by assumption) ?rdh ?_; (case rdh=>first | assumption | exact yc))
 | (with_reducible refine' ygd (by assumption) ?rdh ?_; (case rdh=>first | assumption | exact yc))
 | (with_reducible refine' ygb (by assumption) ?rdh ?_; (case rdh=>first | assumption | exact yc))
 | (with_reducible refine' ydf (by assumption) ?rdh ?_; (case rdh=>first | assumption | exact yc))
 | (with_reducible refine' ydi (by assumption) ?rdh ?_; (case rdh=>first | assumption | exact yc))
 | (with_reducible refine' ydc (by assumption) ?rdh ?_; (case rdh=>first | assumption | exact yc))
 | (with_reducible refine' mt_Ft___init__ ?rdh ?_; (case rdh=>first | assumption | exact yc))
 | (with_reducible refine' yeq ?rdh ?_; (case rdh=>first | assumption | exact yc))
 | (with_reducible refine' yc4 ?rdh ?_; (case rdh=>first | assumption | exact yc))
 | (with_reducible refine' yee ?rdh ?_; (case rdh=>first | assumption | exact yc))
 | (with_reducible refine' yks ?rdh ?_; (case rdh=>first | assumption | exact yc))
 | (with_reducible refine' yiw ?rdh ?_; (case rdh=>first | assumption | exact yc))
 | (with_reducible refine' j8 ?rdh ?_; (case rdh=>first | assumption | exact yc))
)
def jk (v0 v1 v2 v3:V):List (Str × V):=[("data",v0),("span",v1),("number",v2),("reached",v3)]
section
variable {H:Hp} {p dx:Addr} {v0 v1 v2 v3 v:V} {P:V->Prop} {R:Prop} {nx:St->Hp->Prop} {σ:St}
theorem yji (T:Txt K mg a) (hp:H p=some (.ins a.C_Sk dx (jk v0 v1 v2 v3))) (h:P v0):∃ a' C dx fs v,V.ref p=.ref a'/\H a'=some (.ins C dx fs)/\Cls K C/\yr K C "data"/\fs.lookup ("data":Str)=some v/\P v:=⟨p,_,dx,_,_,rfl,hp,T.cl_Sk,T.n_Sk_data,zk,h⟩
theorem yjs (T:Txt K mg a) (hp:H p=some (.ins a.C_Sk dx [])) (h:vw nx σ (upd H p (.ins a.C_Sk dx (([("data",v)]:List (Str × V)))))):∃ a' C dx fs,V.ref p=.ref a'/\H a'=some (.ins C dx fs)/\Cls K C/\yr K C "data"/\fs.length < 1000/\vw nx σ (upd H a' (.ins C dx (wo "data" v fs))):=⟨p,_,dx,[],rfl,hp,T.cl_Sk,T.n_Sk_data,by show 0 < 1000; decide,by rw [show wo "data" v []=([("data",v)]:List (Str × V)) from xo]; exact h⟩
theorem yi9 (T:Txt K mg a) (hp:H p=some (.ins a.C_Sk dx (jk v0 v1 v2 v3))) (h:P v1):∃ a' C dx fs v,V.ref p=.ref a'/\H a'=some (.ins C dx fs)/\Cls K C/\yr K C "span"/\fs.lookup ("span":Str)=some v/\P v:=⟨p,_,dx,_,_,rfl,hp,T.cl_Sk,T.n_Sk_span,(yx (by decide +kernel) zk),h⟩
theorem yjn (T:Txt K mg a) (hp:H p=some (.ins a.C_Sk dx (jk v0 v1 v2 v3))) (h:vw nx σ (upd H p (.ins a.C_Sk dx (jk v0 v v2 v3)))):∃ a' C dx fs,V.ref p=.ref a'/\H a'=some (.ins C dx fs)/\Cls K C/\yr K C "span"/\fs.length < 1000/\vw nx σ (upd H a' (.ins C dx (wo "span" v fs))):=⟨p,_,dx,jk v0 v1 v2 v3,rfl,hp,T.cl_Sk,T.n_Sk_span,by show 4 < 1000; decide,by rw [show wo "span" v (jk v0 v1 v2 v3)=jk v0 v v2 v3 from (we (by decide +kernel) ja)]; exact h⟩
theorem yi4 (T:Txt K mg a) (hp:H p=some (.ins a.C_Sk dx [("data",v0)])) (h:vw nx σ (upd H p (.ins a.C_Sk dx (([("data",v0),("span",v)]:List (Str × V)))))):∃ a' C dx fs,V.ref p=.ref a'/\H a'=some (.ins C dx fs)/\Cls K C/\yr K C "span"/\fs.length < 1000/\vw nx σ (upd H a' (.ins C dx (wo "span" v fs))):=⟨p,_,dx,[("data",v0)],rfl,hp,T.cl_Sk,T.n_Sk_span,by show 1 < 1000; decide,by rw [show wo "span" v [("data",v0)]=([("data",v0),("span",v)]:List (Str × V)) from (we (by decide +kernel) xo)]; exact h⟩
theorem yej (T:Txt K mg a) (hp:H p=some (.ins a.C_Sk dx (jk v0 v1 v2 v3))) (h:P v2):∃ a' C dx fs v,V.ref p=.ref a'/\H a'=some (.ins C dx fs)/\Cls K C/\yr K C "number"/\fs.lookup ("number":Str)=some v/\P v:=⟨p,_,dx,_,_,rfl,hp,T.cl_Sk,T.n_Sk_number,(yx (by decide +kernel) (yx (by decide +kernel) zk)),h⟩
theorem yeb (T:Txt K mg a) (hp:H p=some (.ins a.C_Sk dx (jk v0 v1 v2 v3))) (h:vw nx σ (upd H p (.ins a.C_Sk dx (jk v0 v1 v v3)))):∃ a' C dx fs,V.ref p=.ref a'/\H a'=some (.ins C dx fs)/\Cls K C/\yr K C "number"/\fs.length < 1000/\vw nx σ (upd H a' (.ins C dx (wo "number" v fs))):=⟨p,_,dx,jk v0 v1 v2 v3,rfl,hp,T.cl_Sk,T.n_Sk_number,by show 4 < 1000; decide,by rw [show wo "number" v (jk v0 v1 v2 v3)=jk v0 v1 v v3 from (we (by decide +kernel) (we (by decide +kernel) ja))]; exact h⟩
theorem yek (T:Txt K mg a) (hp:H p=some (.ins a.C_Sk dx [("data",v0),("span",v1)])) (h:vw nx σ (upd H p (.ins a.C_Sk dx (([("data",v0),("span",v1),("number",v)]:List (Str × V)))))):∃ a' C dx fs,V.ref p=.ref a'/\H a'=some (.ins C dx fs)/\Cls K C/\yr K C "number"/\fs.length < 1000/\vw nx σ (upd H a' (.ins C dx (wo "number" v fs))):=⟨p,_,dx,[("data",v0),("span",v1)],rfl,hp,T.cl_Sk,T.n_Sk_number,by show 2 < 1000; decide,by rw [show wo "number" v [("data",v0),("span",v1)]=([("data",v0),("span",v1),("number",v)]:List (Str × V)) from (we (by decide +kernel) (we (by decide +kernel) xo))]; exact h⟩
theorem yc7 (T:Txt K mg a) (hp:H p=some (.ins a.C_Sk dx (jk v0 v1 v2 v3))) (h:P v3):∃ a' C dx fs v,V.ref p=.ref a'/\H a'=some (.ins C dx fs)/\Cls K C/\yr K C "reached"/\fs.lookup ("reached":Str)=some v/\P v:=⟨p,_,dx,_,_,rfl,hp,T.cl_Sk,T.n_Sk_reached,(yx (by decide +kernel) (yx (by decide +kernel) (yx (by decide +kernel) zk))),h⟩
theorem yc6 (T:Txt K mg a) (hp:H p=some (.ins a.C_Sk dx (jk v0 v1 v2 v3))) (h:vw nx σ (upd H p (.ins a.C_Sk dx (jk v0 v1 v2 v)))):∃ a' C dx fs,V.ref p=.ref a'/\H a'=some (.ins C dx fs)/\Cls K C/\yr K C "reached"/\fs.length < 1000/\vw nx σ (upd H a' (.ins C dx (wo "reached" v fs))):=⟨p,_,dx,jk v0 v1 v2 v3,rfl,hp,T.cl_Sk,T.n_Sk_reached,by show 4 < 1000; decide,by rw [show wo "reached" v (jk v0 v1 v2 v3)=jk v0 v1 v2 v from (we (by decide +kernel) (we (by decide +kernel) (we (by decide +kernel) ja)))]; exact h⟩
theorem ydb (T:Txt K mg a) (hp:H p=some (.ins a.C_Sk dx [("data",v0),("span",v1),("number",v2)])) (h:vw nx σ (upd H p (.ins a.C_Sk dx (jk v0 v1 v2 v)))):∃ a' C dx fs,V.ref p=.ref a'/\H a'=some (.ins C dx fs)/\Cls K C/\yr K C "reached"/\fs.length < 1000/\vw nx σ (upd H a' (.ins C dx (wo "reached" v fs))):=⟨p,_,dx,[("data",v0),("span",v1),("number",v2)],rfl,hp,T.cl_Sk,T.n_Sk_reached,by show 3 < 1000; decide,by rw [show wo "reached" v [("data",v0),("span",v1),("number",v2)]=jk v0 v1 v2 v from (we (by decide +kernel) (we (by decide +kernel) (we (by decide +kernel) xo)))]; exact h⟩
theorem yen:(jk v0 v1 v2 v3).lookup ("follow":Str)=none:=(yx (by decide +kernel) (yx (by decide +kernel) (yx (by decide +kernel) (yx (by decide +kernel) xu))))
theorem yeo {C:Addr} (hp:H p=some (.ins C dx (jk v0 v1 v2 v3))) (h:R):∃ a dx fs,V.ref p=.ref a/\H a=some (.ins C dx fs)/\fs.lookup ("follow":Str)=none/\R:=⟨p,dx,_,rfl,hp,yen,h⟩
theorem yc9:(jk v0 v1 v2 v3).lookup ("byte_at":Str)=none:=(yx (by decide +kernel) (yx (by decide +kernel) (yx (by decide +kernel) (yx (by decide +kernel) xu))))
theorem ydd {C:Addr} (hp:H p=some (.ins C dx (jk v0 v1 v2 v3))) (h:R):∃ a dx fs,V.ref p=.ref a/\H a=some (.ins C dx fs)/\fs.lookup ("byte_at":Str)=none/\R:=⟨p,dx,_,rfl,hp,yc9,h⟩
theorem yk6:(jk v0 v1 v2 v3).lookup ("bit":Str)=none:=(yx (by decide +kernel) (yx (by decide +kernel) (yx (by decide +kernel) (yx (by decide +kernel) xu))))
theorem yle {C:Addr} (hp:H p=some (.ins C dx (jk v0 v1 v2 v3))) (h:R):∃ a dx fs,V.ref p=.ref a/\H a=some (.ins C dx fs)/\fs.lookup ("bit":Str)=none/\R:=⟨p,dx,_,rfl,hp,yk6,h⟩
theorem yi5:(jk v0 v1 v2 v3).lookup ("told":Str)=none:=(yx (by decide +kernel) (yx (by decide +kernel) (yx (by decide +kernel) (yx (by decide +kernel) xu))))
theorem yjh {C:Addr} (hp:H p=some (.ins C dx (jk v0 v1 v2 v3))) (h:R):∃ a dx fs,V.ref p=.ref a/\H a=some (.ins C dx fs)/\fs.lookup ("told":Str)=none/\R:=⟨p,dx,_,rfl,hp,yi5,h⟩
end
local macro_rules | `(tactic| walk_at "rd1")=>`(tactic| first
 | (with_reducible refine' yji (by assumption) ?rdh ?_; (case rdh=>first | assumption | exact yc))
 | (with_reducible refine' st_Sk_data (by assumption) ?rdh ?_; (case rdh=>first | assumption | exact yc))
 | (with_reducible refine' yjs (by assumption) ?rdh ?_; (case rdh=>first | assumption | exact yc))
 | (with_reducible refine' yi9 (by assumption) ?rdh ?_; (case rdh=>first | assumption | exact yc))
 | (with_reducible refine' yjn (by assumption) ?rdh ?_; (case rdh=>first | assumption | exact yc))
 | (with_reducible refine' yi4 (by assumption) ?rdh ?_; (case rdh=>first | assumption | exact yc))
 | (with_reducible refine' yej (by assumption) ?rdh ?_; (case rdh=>first | assumption | exact yc))
 | (with_reducible refine' yeb (by assumption) ?rdh ?_; (case rdh=>first | assumption | exact yc))
 | (with_reducible refine' yek (by assumption) ?rdh ?_; (case rdh=>first | assumption | exact yc))
 | (with_reducible refine' yc7 (by assumption) ?rdh ?_; (case rdh=>first | assumption | exact yc))
 | (with_reducible refine' yc6 (by assumption) ?rdh ?_; (case rdh=>first | assumption | exact yc))
 | (with_reducible refine' ydb (by assumption) ?rdh ?_; (case rdh=>first | assumption | exact yc))
 | (with_reducible refine' mt_Sk___init__ ?rdh ?_; (case rdh=>first | assumption | exact yc))
 | (with_reducible refine' yeo ?rdh ?_; (case rdh=>first | assumption | exact yc))
 | (with_reducible refine' ydd ?rdh ?_; (case rdh=>first | assumption | exact yc))
 | (with_reducible refine' yle ?rdh ?_; (case rdh=>first | assumption | exact yc))
 | (with_reducible refine' yjh ?rdh ?_; (case rdh=>first | assumption | exact yc))
)
open SpanMath
def But (p:Addr) (H H':Hp):Prop:=∀ b o,H b=some o->b≠p->H' b=some o
theorem But.refl {p:Addr} {H:Hp}:But p H H:=fun _ _ h _=>h
theorem But.of {p:Addr} {H H':Hp} (s:vi H H'):But p H H':=fun b o h _=>s b o h
theorem But.trans {p:Addr} {H H1 H2:Hp} (x:But p H H1) (y:But p H1 H2):But p H H2:=fun b o h n=>y b o (x b o h n) n
theorem But.upd {p:Addr} {H:Hp} {o:HO}:But p H (L2.upd H p o):=fun b u h n=>by rw [yp n]; exact h
theorem But.lst {p l C dx:Addr} {fs:List (Str × V)} {H H':Hp} {xs:List V} (e:But p H H') (hp:H p=some (.ins C dx fs)) (h:H l=some (.lst xs)):H' l=some (.lst xs):=e _ _ h (uh h hp (by intro z; cases z))
theorem zh {x:V} (h:yao x=true):∃ i,x=.int i:=by
 cases x with
 | int i=>exact ⟨i,rfl⟩
 | _=>cases h
def ybg:V->Bool
 | .int i=>decide (0 <= i) && decide (i <= 1)
 | _=>false
def chV:V->Bool
 | .int i=>decide (32768 <= i) && decide (i <= 16744448)
 | _=>false
def jl (x:Sn):List (Str × V):=[("low",.int x.1),("width",.int x.2.1),("size",.int x.2.2)]
theorem nWL:¬ (("width":Str)="low"):=by decide +kernel
theorem nLW:¬ (("low":Str)="width"):=by decide +kernel
theorem nSL:¬ (("size":Str)="low"):=by decide +kernel
theorem nLS:¬ (("low":Str)="size"):=by decide +kernel
theorem nSW:¬ (("size":Str)="width"):=by decide +kernel
theorem nWS:¬ (("width":Str)="size"):=by decide +kernel
theorem lkL (x:Sn):(jl x).lookup ("low":Str)=some (.int x.1):=zk
theorem lkW (x:Sn):(jl x).lookup ("width":Str)=some (.int x.2.1):=yx nWL zk
theorem lkS (x:Sn):(jl x).lookup ("size":Str)=some (.int x.2.2):=yx nSL (yx nSW zk)
theorem lkN (x:Sn) {m:Str} (h1:¬ m="low") (h2:¬ m="width") (h3:¬ m="size"):(jl x).lookup m=none:=yx h1 (yx h2 (yx h3 xu))
theorem pfL (x:Sn) (v:Int):wo "low" (.int v) (jl x)=jl (v,x.2.1,x.2.2):=ja
theorem pfW (x:Sn) (v:Int):wo "width" (.int v) (jl x)=jl (x.1,v,x.2.2):=we nLW ja
theorem pfS (x:Sn) (v:Int):wo "size" (.int v) (jl x)=jl (x.1,x.2.1,v):=we nLS (we nWS ja)
section
variable {H:Hp} {p dx:Addr} {x:Sn} {P:V->Prop} {nx:St->Hp->Prop} {σ:St} {v:Int}
theorem rdL (T:Txt K mg a) (hp:H p=some (.ins a.C_Span dx (jl x))) (h:P (.int x.1)) :
  ∃ a' C dx fs v,V.ref p=.ref a'/\H a'=some (.ins C dx fs)/\Cls K C/\yr K C "low"/\fs.lookup ("low":Str)=some v/\P v:=⟨p,_,dx,_,_,rfl,hp,T.cl_Span,T.n_Span_low,lkL x,h⟩
theorem rdW (T:Txt K mg a) (hp:H p=some (.ins a.C_Span dx (jl x))) (h:P (.int x.2.1)) :
  ∃ a' C dx fs v,V.ref p=.ref a'/\H a'=some (.ins C dx fs)/\Cls K C/\yr K C "width"/\fs.lookup ("width":Str)=some v/\P v:=⟨p,_,dx,_,_,rfl,hp,T.cl_Span,T.n_Span_width,lkW x,h⟩
theorem rdS (T:Txt K mg a) (hp:H p=some (.ins a.C_Span dx (jl x))) (h:P (.int x.2.2)) :
  ∃ a' C dx fs v,V.ref p=.ref a'/\H a'=some (.ins C dx fs)/\Cls K C/\yr K C "size"/\fs.lookup ("size":Str)=some v/\P v:=⟨p,_,dx,_,_,rfl,hp,T.cl_Span,T.n_Span_size,lkS x,h⟩
theorem vd7 (T:Txt K mg a) (hp:H p=some (.ins a.C_Span dx (jl x))) (h:vw nx σ (upd H p (.ins a.C_Span dx (jl (v,x.2.1,x.2.2))))) :
  ∃ a' C dx fs,V.ref p=.ref a'/\H a'=some (.ins C dx fs)/\Cls K C/\yr K C "low"/\fs.length < 1000/\vw nx σ (upd H a' (.ins C dx (wo "low" (.int v) fs))):=⟨p,_,dx,jl x,rfl,hp,T.cl_Span,T.n_Span_low,by show 3 < 1000; decide,by rw [pfL]; exact h⟩
theorem vdx (T:Txt K mg a) (hp:H p=some (.ins a.C_Span dx (jl x))) (h:vw nx σ (upd H p (.ins a.C_Span dx (jl (x.1,v,x.2.2))))) :
  ∃ a' C dx fs,V.ref p=.ref a'/\H a'=some (.ins C dx fs)/\Cls K C/\yr K C "width"/\fs.length < 1000/\vw nx σ (upd H a' (.ins C dx (wo "width" (.int v) fs))):=⟨p,_,dx,jl x,rfl,hp,T.cl_Span,T.n_Span_width,by show 3 < 1000; decide,by rw [pfW]; exact h⟩
theorem vdy (T:Txt K mg a) (hp:H p=some (.ins a.C_Span dx (jl x))) (h:vw nx σ (upd H p (.ins a.C_Span dx (jl (x.1,x.2.1,v))))) :
  ∃ a' C dx fs,V.ref p=.ref a'/\H a'=some (.ins C dx fs)/\Cls K C/\yr K C "size"/\fs.length < 1000/\vw nx σ (upd H a' (.ins C dx (wo "size" (.int v) fs))):=⟨p,_,dx,jl x,rfl,hp,T.cl_Span,T.n_Span_size,by show 3 < 1000; decide,by rw [pfS]; exact h⟩
end
local macro_rules | `(tactic| walk_at "rd1")=>`(tactic| first
 | (with_reducible refine' rdL (by assumption) ?rdh ?_; (case rdh=>first | assumption | exact yc))
 | (with_reducible refine' rdW (by assumption) ?rdh ?_; (case rdh=>first | assumption | exact yc))
 | (with_reducible refine' rdS (by assumption) ?rdh ?_; (case rdh=>first | assumption | exact yc))
 | (with_reducible refine' vd7 (by assumption) ?rdh ?_; (case rdh=>first | assumption | exact yc))
 | (with_reducible refine' vdx (by assumption) ?rdh ?_; (case rdh=>first | assumption | exact yc))
 | (with_reducible refine' vdy (by assumption) ?rdh ?_; (case rdh=>first | assumption | exact yc)))
inductive Slt where
 | ev (n o:Int)
 | qk (h:Int)
 | rn (l n:Int)
def Slt.ok:Slt->Prop
 | .ev n o=>0 <= n/\0 <= o/\n+o <= 255
 | .qk h=>32768 <= h/\h <= 16744448
 | .rn l n=>0 <= l/\l <= 1/\0 <= n/\n <= 255
def ya4 (n:Int):Int:=(2 * n+1) * 16777216 / (2 * n+2)
def Slt.due:Slt->Int
 | .ev n o=>(2 * o+1) * 16777216 / (2 * (n+o)+2)
 | .qk h=>h
 | .rn l n=>if l=1 then ya4 n else 16777216 - ya4 n
def yhd (n o:Int):Slt:=if 255 < n+o then .ev ((n+1) / 2) ((o+1) / 2) else .ev n o
def yiv (m:Int):Int:=if 16744448 < (if 32768 > m then 32768 else m) then 16744448 else (if 32768 > m then 32768 else m)
def Slt.see:Slt->Int->Slt
 | .ev n o,b=>if b=1 then yhd n (o+1) else yhd (n+1) o
 | .qk h,b=>.qk (yiv (if b=1 then h+(16777216 - h) / 16 else h - h / 16))
 | .rn l n,b=>if b=l then .rn l (if 255 < n+1 then 255 else n+1) else .rn b 1
def oS (a:Ads) (dx:Addr):Slt->HO
 | .ev n o=>.ins a.C_Even dx (xt (.int n) (.int o))
 | .qk h=>.ins a.C_Quick dx (uc (.int h))
 | .rn l n=>.ins a.C_Run dx (zl (.int l) (.int n))
theorem yh5 {n o:Int} (h1:0 <= n) (h2:0 <= o) (h3:n+o <= 256):(yhd n o).ok:=by
 unfold yhd
 split
 ·exact ⟨by omega,by omega,by omega⟩
 ·exact ⟨h1,h2,by omega⟩
theorem ykt (m:Int):32768 <= yiv m/\yiv m <= 16744448:=by
 unfold yiv
 split <;> split <;> omega
theorem Slt.see_ok {s:Slt} {b:Int} (h:s.ok) (b0:0 <= b) (b1:b <= 1):(s.see b).ok:=by
 cases s with
 | ev n o =>
  obtain ⟨h1,h2,h3⟩:=h
  unfold Slt.see
  dsimp only
  split
  ·exact yh5 h1 (by omega) (by omega)
  ·exact yh5 (by omega) h2 (by omega)
 | qk h0=>exact ykt _
 | rn l n =>
  obtain ⟨h1,h2,h3,h4⟩:=h
  unfold Slt.see
  dsimp only
  split
  ·refine ⟨h1,h2,?_,?_⟩ <;> split <;> omega
  ·exact ⟨b0,b1,by decide,by decide⟩
def kdS:Fin 3->Str
 | 0=>"even"
 | 1=>"quick"
 | 2=>"run"
def kd0:Fin 3->Slt
 | 0=>.ev 0 0
 | 1=>.qk 8388608
 | 2=>.rn 1 0
theorem yrf (k:Fin 3):(kd0 k).ok:=by
 match k with
 | 0=>exact ⟨by decide,by decide,by decide⟩
 | 1=>exact ⟨by decide,by decide⟩
 | 2=>exact ⟨by decide,by decide,by decide,by decide⟩
theorem yxk {b:Int} (b0:0 <= b) (b1:b <= 1):ybg (.int b)=true:=by
 simp only [ybg,Bool.and_eq_true,decide_eq_true_eq]
 omega
theorem yie {x:V} (h:ybg x=true):∃ b:Int,x=.int b/\0 <= b/\b <= 1:=by
 cases x with
 | int i =>
  simp only [ybg,Bool.and_eq_true,decide_eq_true_eq] at h
  exact ⟨i,rfl,h.1,h.2⟩
 | _=>cases h
def ydu (C:Addr) (F:List (Str × V)):Sp:=fun vs H Q _=>∃ (p dx:Addr),vs=[.ref p]/\H p=some (.ins C dx [])/\∀ H',H' p=some (.ins C dx F)->But p H H'->Q .non H'
def ul (o:Addr->Slt->HO) (g:Slt->Prop):Sp:=fun vs H Q _=>∃ (p dx:Addr) (s:Slt),vs=[.ref p]/\g s/\s.ok/\H p=some (o dx s)/\Q (.int s.due) H
def jm (K:W.Frag) (o:Addr->Slt->HO) (g:Slt->Prop) (C:Addr):Sp:=fun vs H Q E=>∃ (p dx:Addr) (s:Slt) (x:V) (n:String),vs=[.ref p,x]/\g s/\s.ok/\H p=some (o dx s)/\xw K H x (.type n) /\
 (∀ b:Int,x=.int b->0 <= b->b <= 1->∀ H',H' p=some (o dx (s.see b))->But p H H'->Q .non H')/\(ybg x=false->E (.ref C) none H)
def vbd:Slt->Prop
 | .ev _ _=>True
 | _=>False
def va8:Slt->Prop
 | .qk _=>True
 | _=>False
def vbb:Slt->Prop
 | .rn _ _=>True
 | _=>False
def yj5 (bs:List Int):Prop:=∀ b∈bs,0 <= b/\b <= 1
theorem ur {n:Nat} (h:n <= 16000000):n <= sizeLine:=Nat.le_trans h (by decide)
theorem wq {n:Nat} (h:n <= 16000000):n < sizeLine:=Nat.lt_of_le_of_lt h (by decide)
theorem ysx (ns:List Int) (lo hi:Option Int):∃ ms:List Int,yhg (ns.map V.int) lo hi=ms.map V.int/\ms.length <= ns.length/\∀ m∈ms,m∈ns:=by
 refine ⟨(ns.drop (HT.sIx (ns.map V.int).length 0 lo)).take (HT.sIx (ns.map V.int).length (ns.map V.int).length hi - HT.sIx (ns.map V.int).length 0 lo),?_,?_,?_⟩
 ·unfold yhg
  rw [List.map_take,List.map_drop]
 ·rw [List.length_take,List.length_drop]
  omega
 ·intro m hm
  exact List.mem_of_mem_drop (List.mem_of_mem_take hm)
theorem zx {ns:List Int} {i:Nat} {x:V} (h:(ns.map V.int)[i]?=some x):∃ n,x=.int n/\n∈ns/\ns[i]?=some n/\i < ns.length:=by
 rw [List.getElem?_map] at h
 cases e:ns[i]? with
 | none=>rw [e] at h; cases h
 | some n =>
  rw [e] at h
  have hi:i < ns.length:=by
   rcases Nat.lt_or_ge i ns.length with q | q
   ·exact q
   ·rw [List.getElem?_eq_none q] at e; cases e
  exact ⟨n,(Option.some.inj h).symm,List.mem_of_getElem? e,rfl,hi⟩
theorem yat {l:List Int} {i:Nat} {q:Int} (h:l[i]?=some q):l.take (i+1)=l.take i++[q]:=by
 rw [List.take_add_one,h]
 rfl
theorem yhv {xs ys:List Int} (h1:yj5 xs) (h2:yj5 ys):yj5 (xs++ys):=fun b hb=>by
 rcases List.mem_append.mp hb with h | h
 ·exact h1 b h
 ·exact h2 b h
theorem yb4 (c:Int) (n:Nat):(List.replicate n [V.int c]).flatten=(List.replicate n c).map V.int:=by
 induction n with
 | zero=>rfl
 | succ n ih=>rw [List.replicate_succ,List.flatten_cons,ih,List.replicate_succ]; rfl
def yri (sg:List Int) (p:Int):Int:=if p <= sg.length then (atI sg (-p)).getD 256 else 256
theorem yse {α β:Type} (f:α->β) (xs:List α) (i:Int):atI (xs.map f) i=(atI xs i).map f:=by
 unfold atI
 rw [List.length_map]
 cases ixN xs.length i with
 | none=>rfl
 | some j =>
  show (xs.map f)[j]?=(xs[j]?).map f
  rw [List.getElem?_map]
theorem ynn {sg:List Int} {p:Int} (h1:1 <= p) (h2:p <= sg.length):∃ c,atI sg (-p)=some c/\c∈sg:=by
 unfold atI ixN
 rw [if_neg (by omega)]
 by_cases h:-(sg.length:Int) <= -p
 ·rw [if_pos (by omega)]
  have hj:((-p+(sg.length:Int)).toNat) < sg.length:=by omega
  exact ⟨_,List.getElem?_eq_getElem hj,List.getElem_mem hj⟩
 ·omega
def Slt.kind:Slt->Fin 3
 | .ev _ _=>0
 | .qk _=>1
 | .rn _ _=>2
theorem ynm (s:Slt) (b:Int):(s.see b).kind=s.kind:=by
 cases s with
 | ev n o =>
  unfold Slt.see yhd
  dsimp only
  split <;> split <;> rfl
 | qk h=>rfl
 | rn l n =>
  unfold Slt.see
  dsimp only
  split <;> rfl
theorem yn0 (k:Fin 3):(kd0 k).kind=k:=by
 match k with
 | 0=>rfl
 | 1=>rfl
 | 2=>rfl
theorem yfi (a:Ads) (dx:Addr) (s:Slt):∃ C fs,oS a dx s=.ins C dx fs:=by
 cases s <;> exact ⟨_,_,rfl⟩
theorem yih {s:Slt} (h:s.ok):32768 <= s.due/\s.due <= 16744448:=by
 cases s with
 | ev n o =>
  obtain ⟨h1,h2,h3⟩:=h
  unfold Slt.due
  dsimp only
  have hd:(0:Int) < 2 * (n+o)+2:=by omega
  constructor
  ·rw [Int.le_ediv_iff_mul_le hd]
   omega
  ·have:(2 * o+1) * 16777216 / (2 * (n+o)+2) < 16744449:=by
    rw [Int.ediv_lt_iff_lt_mul hd]
    omega
   omega
 | qk h0=>exact h
 | rn l n =>
  obtain ⟨h1,h2,h3,h4⟩:=h
  have hd:(0:Int) < 2 * n+2:=by omega
  have g1:8388608 <= ya4 n:=by
   unfold ya4
   rw [Int.le_ediv_iff_mul_le hd]
   omega
  have g2:ya4 n < 16744449:=by
   unfold ya4
   rw [Int.ediv_lt_iff_lt_mul hd]
   omega
  unfold Slt.due
  dsimp only
  split <;> omega
theorem yki {p dx:Addr} {s:Slt} {ta:TE} {σ:St} {H:Hp} {Q:VK} {E1 E2 E3:XK} (hta:∀ Q':VK,Q' (.ref p) H->ta σ H Q') (hp:H p=some (oS a dx s)) (ok:s.ok) (h:Q (.int s.due) H) :
  yvy (yhb a.C_Even "chance" (ul (oS a) vbd) [] E1 ta yrj) (yvy (yhb a.C_Quick "chance" (ul (oS a) va8) [] E2 ta yrj) (yhb a.C_Run "chance" (ul (oS a) vbb) [] E3 ta yrj)) σ H Q:=by
 cases s with
 | ev n o=>exact yif (yil (hta _ ⟨p,dx,_,rfl,hp,yci,p,dx,.ev n o,rfl,trivial,ok,hp,h⟩))
 | qk h0=>exact ycx (yif (yil (hta _ ⟨p,dx,_,rfl,hp,ybr,p,dx,.qk h0,rfl,trivial,ok,hp,h⟩)))
 | rn l n=>exact ycx (ycx (yil (hta _ ⟨p,dx,_,rfl,hp,ydh,p,dx,.rn l n,rfl,trivial,ok,hp,h⟩)))
theorem ytk {p dx:Addr} {s:Slt} {ta:TE} {t:TA} {σ:St} {H:Hp} {Q:VK} {E1 E2 E3:St->XK} {x:V} {n:String} (hta:∀ Q':VK,Q' (.ref p) H->ta σ H Q') (ht:∀ Q':List V->Hp->Prop,Q' [x] H->t σ H Q') (hp:H p=some (oS a dx s)) (ok:s.ok) (ty:xw K H x (.type n))
  (h:∀ b:Int,x=.int b->0 <= b->b <= 1->∀ H',H' p=some (oS a dx (s.see b))->But p H H'->Q .non H') (h1:ybg x=false->E1 σ (.ref a.C_NB) none H) (h2:ybg x=false->E2 σ (.ref a.C_NB) none H) (h3:ybg x=false->E3 σ (.ref a.C_NB) none H) :
  yvy (yfj a.C_Even "seen" (jm K (oS a) vbd a.C_NB) [] E1 ta t) (yvy (yfj a.C_Quick "seen" (jm K (oS a) va8 a.C_NB) [] E2 ta t) (yfj a.C_Run "seen" (jm K (oS a) vbb a.C_NB) [] E3 ta t)) σ H Q:=by
 cases s with
 | ev n o=>exact yif (yd4 (hta _ ⟨p,dx,_,rfl,hp,yea,ht _ ⟨p,dx,.ev n o,x,_,rfl,trivial,ok,hp,ty,h,h1⟩⟩))
 | qk h0=>exact ycx (yif (yd4 (hta _ ⟨p,dx,_,rfl,hp,ydl,ht _ ⟨p,dx,.qk h0,x,_,rfl,trivial,ok,hp,ty,h,h2⟩⟩)))
 | rn l n=>exact ycx (ycx (yd4 (hta _ ⟨p,dx,_,rfl,hp,ygm,ht _ ⟨p,dx,.rn l n,x,_,rfl,trivial,ok,hp,ty,h,h3⟩⟩)))
theorem yx2 {x:Sn} {c b:Int} (h:Ok x):(nar x c b).2.2 <= x.2.2+2:=by
 unfold nar ren
 have:=h.z
 (repeat' split) <;> (dsimp only; omega)
abbrev tMx:Nat:=100000
theorem yhw {k:Nat} (h:k <= 6):pw k <= 281474976710656:=Int.le_trans (yl3 h) (by decide)
theorem yn5 (xs:List Int) (y:Int):xs.map V.int++[V.int y]=(xs++[y]).map V.int:=by simp
theorem ysg (xs:List Int):(xs.map V.int).reverse=xs.reverse.map V.int:=by simp
def gvv (c b:Int):Int:=if b=1 then c else 16777216 - c
theorem ygy {x:V} (h:chV x=true):∃ c,x=.int c/\32768 <= c/\c <= 16744448:=by
 cases x with
 | int i =>
  simp only [chV,Bool.and_eq_true,decide_eq_true_eq] at h
  exact ⟨i,rfl,h.1,h.2⟩
 | _=>cases h
theorem yhz {x:V} (h:ybg x=true):∃ b,x=.int b/\0 <= b/\b <= 1:=by
 cases x with
 | int i =>
  simp only [ybg,Bool.and_eq_true,decide_eq_true_eq] at h
  exact ⟨i,rfl,h.1,h.2⟩
 | _=>cases h
theorem yin {c:Int} (h:Ch c):chV (.int c)=true:=by
 obtain ⟨h1,h2⟩:=h
 simp only [chV,Bool.and_eq_true,decide_eq_true_eq]
 omega
theorem ygv {b:Int} (h1:0 <= b) (h2:b <= 1):ybg (.int b)=true:=by
 simp only [ybg,Bool.and_eq_true,decide_eq_true_eq]
 omega
theorem yb9 {xs:List V} {i:Int} (h0:0 <= i) (h1:i < xs.length):∃ v,v∈xs/\atI xs i=some v:=by
 obtain ⟨j,rfl⟩:∃ j:Nat,i=(j:Int):=⟨i.toNat,by omega⟩
 have hj:j < xs.length:=by omega
 exact ⟨xs[j],List.getElem_mem hj,uf (List.getElem?_eq_getElem hj)⟩
theorem xv {K:W.Frag} {H H':Hp} {v:V} {n:String} (S:vi H H') (t:xw K H v (.type n)):xw K H' v (.type n):=by
 cases t with
 | non=>exact .non
 | bl b=>exact .bl b
 | int i=>exact .int i
 | str x=>exact .str x
 | flt x=>exact .flt x
 | lst e=>exact .lst (S _ _ e)
 | frz e=>exact .frz (S _ _ e)
 | tup e=>exact .tup (S _ _ e)
 | dK e=>exact .dK (S _ _ e)
 | dT e=>exact .dT (S _ _ e)
def sgV:V->Bool
 | .int i=>decide (0 <= i) && decide (i <= 255)
 | _=>false
def Typed (K:W.Frag) (H:Hp) (xs:List V):Prop:=∀ y∈xs,∃ k:String,xw K H y (.type k)
theorem Typed.same {K:W.Frag} {H H':Hp} {xs:List V} (t:Law.Typed K H xs) (S:vi H H'):Law.Typed K H' xs:=fun y hy=>let ⟨k,z⟩:=t y hy; ⟨k,xv S z⟩
theorem zg {K:W.Frag} {H:Hp} (ns:List Int):Typed K H (ns.map V.int):=fun y hy=>by
 obtain ⟨i,_,rfl⟩:=List.mem_map.mp hy
 exact ⟨_,.int i⟩
def Bad (K:W.Frag) (H:Hp) (x:V) (n:String) (m:Int):Prop:=n≠"list"\/∃ p xs,x=.ref p/\H p=some (.lst xs)/\Typed K H xs/\xs.length <= 100000/\(decide ((xs.length:Int) <= m) && xs.all sgV)=false
def va5 (K:W.Frag) (H:Hp) (x:V) (xs:List V) (m:Int):Prop:=∃ p,x=.ref p/\H p=some (.lst xs)/\Typed K H xs/\xs.length <= 100000/\(decide ((xs.length:Int) <= m) && xs.all sgV)=true
theorem Bad.same {K:W.Frag} {H H':Hp} {x:V} {n:String} {m:Int} (h:Law.Bad K H x n m) (S:vi H H'):Law.Bad K H' x n m:=by
 rcases h with h | ⟨p,xs,e,hp,t,r⟩
 ·exact .inl h
 ·exact .inr ⟨p,xs,e,S _ _ hp,t.same S,r⟩
theorem ys9 {K:W.Frag} {H:Hp} {x:V} {n:String} (ty:xw K H x (.type n)):W.kitOne K (.type n) (.type "list")=some (decide (n="list")):=by
 cases ty <;> rfl
theorem yo1 {n:Nat} (h:n <= 100000):n < sizeLine:=Nat.lt_of_le_of_lt h (by decide)
theorem yl4 {ns:List Int} (h:∀ i∈ns,0 <= i/\i <= 255):(ns.map V.int).all sgV=true:=by
 rw [List.all_map,List.all_eq_true]
 intro i hi
 obtain ⟨h1,h2⟩:=h i hi
 simp [sgV,h1,h2]
def ycn (K:W.Frag) (C:Addr) (m:Int):Sp:=fun vs H Q E=>∃ x n,vs=[x]/\xw K H x (.type n)/\((Bad K H x n m/\∀ H',vi H H'->E (.ref C) none H')\/∃ xs,va5 K H x xs m/\∀ r H',H r=none->H' r=some (.lst xs)->vi H H'->Q (.ref r) H')
def ynk (p q:Addr) (H H':Hp):Prop:=∀ b o,H b=some o->b≠p->b≠q->H' b=some o
theorem But.two {p q:Addr} {H H':Hp} (h:But p H H'):ynk p q H H':=fun b o e n _=>h b o e n
theorem But.two' {p q:Addr} {H H':Hp} (h:But q H H'):ynk p q H H':=fun b o e _ n=>h b o e n
theorem ynk.trans {p q:Addr} {H H1 H2:Hp} (x:ynk p q H H1) (y:ynk p q H1 H2):ynk p q H H2:=fun b o h n m=>y b o (x b o h n m) n m
structure yka (a:Ads) (H:Hp) (p dx pd ps ds:Addr) (d:List Int) (x:Sn):Prop where
 me:H p=some (.ins a.C_Sk dx (jk (.ref pd) (.ref ps) (.int (rn d (sz x))) (.int x.2.2)))
 dt:H pd=some (.lst (d.map V.int))
 sp:H ps=some (.ins a.C_Span ds (jl x))
 ne:p≠ps
theorem yka.same {a:Ads} {H H':Hp} {p dx pd ps ds:Addr} {d:List Int} {x:Sn} (h:yka a H p dx pd ps ds d x) (S:vi H H'):yka a H' p dx pd ps ds d x:=⟨S _ _ h.me,S _ _ h.dt,S _ _ h.sp,h.ne⟩
section
variable {a:Ads} {H H':Hp} {p dx pd ps ds:Addr} {d:List Int} {x:Sn}
theorem yka.lst (h:yka a H p dx pd ps ds d x) (B:ynk p ps H H') {l:Addr} {xs:List V} (e:H l=some (.lst xs)):H' l=some (.lst xs):=B _ _ e (uh e h.me (by intro z; cases z)) (uh e h.sp (by intro z; cases z))
theorem yka.tup (h:yka a H p dx pd ps ds d x) (B:ynk p ps H H') {l:Addr} {xs:List V} (e:H l=some (.tup xs)):H' l=some (.tup xs):=B _ _ e (uh e h.me (by intro z; cases z)) (uh e h.sp (by intro z; cases z))
end
theorem yh4 {K:W.Frag} {H:Hp} {p:Addr} {d:List Int} (h:H p=some (.lst (d.map V.int))) (hb:Byt d) (hz:d.length <= 12000):va5 K H (.ref p) (d.map V.int) 12000 :=
 ⟨p,rfl,h,zg d,by rw [List.length_map]; omega,by rw [yl4 hb,List.length_map,decide_eq_true (by omega)]; rfl⟩
def Sgs (ns:List Int):Prop:=∀ i∈ns,0 <= i/\i <= 255
def wth:List Int:=[128,64,32,16,8,4,2,1]
def b8 (s:Int):List Int:=wth.map (fun w=>s / w % 2)
def dec:List Int->List Int
 | []=>[0]
 | s :: r=>(1 :: b8 s)++dec r
def nds:Int->List Int->List Int
 | _,[]=>[]
 | n,b :: r=>n :: nds (2 * n+b) r
def yft:List Int->List Int
 | []=>[]
 | s :: r=>(1 :: b8 s)++yft r
theorem yo8:∀ ns,dec ns=yft ns++[0]
 | []=>rfl
 | s :: r=>by simp [dec,yft,yo8 r]
theorem ye0 (s:Int):∀ ns,yft (ns++[s])=yft ns++(1 :: b8 s)
 | []=>by simp [yft]
 | t :: r=>by simp [yft,ye0 s r]
theorem yqf (s:Int):(b8 s).length=8:=rfl
theorem jq:∀ ns:List Int,(yft ns).length=9 * ns.length
 | []=>rfl
 | s :: r=>by
  show ((1 :: b8 s)++yft r).length=9 * (r.length+1)
  rw [List.length_append,jq r]
  show 9+_=_
  omega
theorem yto (s:Int):yj5 (b8 s):=fun b hb=>by
 obtain ⟨w,_,rfl⟩:=List.mem_map.mp hb
 have h0:0 <= s / w % 2:=Int.emod_nonneg _ (by decide)
 have h1:s / w % 2 < 2:=Int.emod_lt_of_pos _ (by decide)
 exact ⟨h0,by omega⟩
theorem jt:∀ ns,yj5 (dec ns)
 | []=>fun b hb=>by rw [List.mem_singleton.mp hb]; decide
 | s :: r=>by
  refine yhv (fun b hb=>?_) (jt r)
  rcases List.mem_cons.mp hb with rfl | hb
  ·decide
  ·exact yto s b hb
theorem vb0 {s:Int} (h0:0 <= s) (h1:s <= 255):128 * (s / 128 % 2)+(64 * (s / 64 % 2)+(32 * (s / 32 % 2)+(16 * (s / 16 % 2)+(8 * (s / 8 % 2)+(4 * (s / 4 % 2)+(2 * (s / 2 % 2)+(1 * (s / 1 % 2)+0)))))))=s:=by omega
def wV (s:Int):V->V
 | .int w=>.int (s / w % 2)
 | _=>.non
theorem ybk {K:W.Frag} {H:Hp} {p:Addr} {d:List Int} (h:H p=some (.lst (d.map V.int))) (hb:Sgs d) (hz:d.length <= 1000):va5 K H (.ref p) (d.map V.int) 1000 :=
 ⟨p,rfl,h,zg d,by rw [List.length_map]; omega,by rw [yl4 hb,List.length_map,decide_eq_true (by omega)]; rfl⟩
theorem ynx (xs ys:List Int):xs.map V.int++ys.map V.int=(xs++ys).map V.int:=by simp
theorem yaw (ns:List Int):(dec ns).length=9 * ns.length+1:=by rw [yo8,List.length_append,jq]; rfl
def yd8 (f:List Int->Option Slt) (k:List Int) (s:Slt):List Int->Option Slt:=fun j=>if j=k then some s else f j
def va7:HO->Bool
 | .ins _ _ _=>true
 | .dT _=>true
 | _=>false
def kI (k:List Int):List Key:=k.map Sum.inl
theorem yzd (k:List Int):(kI k).map kV=k.map V.int:=by
 unfold kI
 rw [List.map_map]
 rfl
theorem yqj {j k:List Int} (h:kI j=kI k):j=k:=by
 unfold kI at h
 induction j generalizing k with
 | nil =>
  cases k with
  | nil=>rfl
  | cons _ _=>cases h
 | cons x r ih =>
  cases k with
  | nil=>cases h
  | cons y s =>
   injection h with h1 h2
   injection h1 with h1
   rw [h1,ih h2]
structure ybc (a:Ads) (H:Hp) (p dx lk d:Addr) (kd:Fin 3) (f:List Int->Option Slt) (O:Addr->Prop) (m:Nat):Prop where
 me:H p=some (.ins a.C_Book dx (zy (.ref lk) (.ref d)))
 own:∀ b,O b->∃ o,H b=some o/\va7 o=true
 np:¬ O p
 dO:O d
 tb:∃ (kvs:List (List Key × V)) (loc:List Int->Addr × Addr),H d=some (.dT kvs)/\kvs.length <= m/\(∀ k,f k=none->ybd kvs (kI k)=none) /\
  (∀ k s,f k=some s->ybd kvs (kI k)=some (.ref (loc k).1)/\H (loc k).1=some (oS a (loc k).2 s)/\s.ok/\s.kind=kd/\O (loc k).1)/\(∀ k j s t,f k=some s->f j=some t->(loc k).1=(loc j).1->k=j)
def ypg (O:Addr->Prop) (H H':Hp):Prop:=∀ b o,H b=some o->¬ O b->H' b=some o
section
variable {a:Ads} {H H':Hp} {p dx lk d:Addr} {kd:Fin 3} {f:List Int->Option Slt} {O:Addr->Prop} {m:Nat}
theorem ybc.frame (h:ybc a H p dx lk d kd f O m) {O2:Addr->Prop} (B:ypg O2 H H') (dj:∀ b,O b->¬ O2 b) (hp:¬ O2 p):ybc a H' p dx lk d kd f O m:=by
 obtain ⟨kvs,loc,h1,h2,h3,h4,h5⟩:=h.tb
 refine ⟨B _ _ h.me hp,fun b hb=>?_,h.np,h.dO,kvs,loc,B _ _ h1 (dj _ h.dO),h2,h3,fun k s hk=>?_,h5⟩
 ·obtain ⟨o,ho,hi⟩:=h.own b hb
  exact ⟨o,B _ _ ho (dj b hb),hi⟩
 ·obtain ⟨q1,q2,q3,q4,q5⟩:=h4 k s hk
  exact ⟨q1,B _ _ q2 (dj _ q5),q3,q4,q5⟩
theorem ybc.same (h:ybc a H p dx lk d kd f O m) (S:vi H H'):ybc a H' p dx lk d kd f O m:=h.frame (O2:=fun _=>False) (fun b o e _=>S b o e) (fun _ _ z=>z) (fun z=>z)
end
open MixI
structure ypj (a:Ads) (p dx l:Addr) (ws:List Int) (H:Hp):Prop where
 o:H p=some (.ins a.C_Mx dx (yj6 (.ref l)))
 l:H l=some (.lst (ws.map V.int))
theorem ypj.same {a:Ads} {p dx l:Addr} {ws:List Int} {H H':Hp} (m:ypj a p dx l ws H) (S:vi H H'):ypj a p dx l ws H':=⟨S _ _ m.o,S _ _ m.l⟩
theorem yv8 {k:Nat} {cs:List Int} (h:COk k cs) {c:Int} (hm:c∈cs):Ch c:=⟨h.lo c hm,h.hi c hm⟩
theorem yp3 {g:Int->Int->Int} {ws cs:List Int} (h:cs.length=ws.length):(List.range (ws.map V.int).length).map (fun i=>V.int (g ((ws[i]?).getD 0) ((cs[i]?).getD 0)))=(List.zipWith g ws cs).map V.int:=by
 rw [List.length_map,<- yky h,List.map_map]
 rfl
theorem yho {H:Hp} {D:Addr} {xs ys:List V} (h:H D=some (.lst xs)) (e:xs=ys):H D=some (.lst ys):=e ▸ h
def ykn (K:W.Frag) (a:Ads):Sp:=fun vs H Q _=>∃ (p dx l c:Addr) (ws cs:List Int) (k:Nat),vs=[.ref p,.ref c]/\1 <= k/\k <= 6/\WOk k ws/\COk k cs/\ypj a p dx l ws H/\SqL K H c (cs.map V.int)/\∀ H',vi H H'->Q (.int (yrk ws cs)) H'
def yk3 (K:W.Frag) (a:Ads) (C:Addr):Sp:=fun vs H Q E=>∃ (p dx l c:Addr) (ws cs:List Int) (k:Nat) (x:V) (n:String),vs=[.ref p,.ref c,x]/\1 <= k/\k <= 6/\WOk k ws/\COk k cs/\ypj a p dx l ws H/\SqL K H c (cs.map V.int)/\xw K H x (.type n) /\
 (∀ b:Int,x=.int b->0 <= b->b <= 1->∀ l' H',H l'=none->ypj a p dx l' (lrn ws cs b) H'->But p H H'->Q .non H')/\(ybg x=false->E (.ref C) none H)
def yn7 (a:Ads):Sp:=fun vs H Q _=>∃ (p dx:Addr) (k:Nat),vs=[.ref p,.int k]/\1 <= k/\k <= 6/\H p=some (.ins a.C_Mx dx [])/\∀ l H',H l=none->ypj a p dx l (List.replicate k 1099511627776) H'->But p H H'->Q .non H'
def yhe:V->Bool
 | .str s=>inV (.str s) [V.str "even",V.str "quick",V.str "run"]
 | _=>false
def plV:V->Bool
 | .int i=>decide (1 <= i) && decide (i <= 8)
 | _=>false
def ltV:V->V->Bool
 | .int i,.int j=>decide (i < j)
 | _,_=>false
def vc7 (xs:List V):Bool:=(List.zipWith ltV xs xs.tail).all id
def zu (xs:List V):Bool:=decide (xs.length <= 4) && xs.all plV && vc7 xs
def PlB (K:W.Frag) (H:Hp) (x:V) (b:Bool):Prop:=(∃ n,xw K H x (.type n)/\n≠"tuple"/\b=false)\/∃ t xs,x=.ref t/\H t=some (.tup xs)/\xs.length <= 1000/\(∀ y∈xs,∃ n:String,xw K H y (.type n))/\b=zu xs
def LkB (K:W.Frag) (H:Hp) (x:V) (b:Bool):Prop:=(∃ n,xw K H x (.type n)/\n≠"tuple"/\b=false) \/
 ∃ t xs,x=.ref t/\H t=some (.tup xs)/\((xs.length≠2/\b=false)\/∃ y z n,xs=[y,z]/\xw K H y (.type n)/\((yhe y=false/\b=false)\/(yhe y=true/\PlB K H z b)))
theorem PlB.same {K:W.Frag} {H H':Hp} {x:V} {b:Bool} (h:PlB K H x b) (S:vi H H'):PlB K H' x b:=by
 rcases h with ⟨n,t,hn,e⟩ | ⟨t,xs,e,ht,hl,hy,hb⟩
 ·exact .inl ⟨n,xv S t,hn,e⟩
 ·exact .inr ⟨t,xs,e,S _ _ ht,hl,fun y hm=>let ⟨n,z⟩:=hy y hm; ⟨n,xv S z⟩,hb⟩
theorem LkB.same {K:W.Frag} {H H':Hp} {x:V} {b:Bool} (h:LkB K H x b) (S:vi H H'):LkB K H' x b:=by
 rcases h with ⟨n,t,hn,e⟩ | ⟨t,xs,e,ht,h⟩
 ·exact .inl ⟨n,xv S t,hn,e⟩
 ·refine .inr ⟨t,xs,e,S _ _ ht,?_⟩
  rcases h with h | ⟨y,z,n,e2,ty,h⟩
  ·exact .inl h
  ·refine .inr ⟨y,z,n,e2,xv S ty,?_⟩
   rcases h with h | ⟨h1,h2⟩
   ·exact .inl h
   ·exact .inr ⟨h1,h2.same S⟩
theorem ybi {K:W.Frag} {H:Hp} {x:V} {n:String} (ty:xw K H x (.type n)):W.kitOne K (.type n) (.type "tuple")=some (decide (n="tuple")):=by cases ty <;> rfl
theorem you {K:W.Frag} {H:Hp} {x:V} {n:String} (ty:xw K H x (.type n)):W.kitOne K (.type n) (.type "str")=some (decide (n="str")):=by cases ty <;> rfl
theorem ydw {K:W.Frag} {H:Hp} {x:V} {n:String} (ty:xw K H x (.type n)):W.kitOne K (.type n) (.type "list")=some (decide (n="list")):=by cases ty <;> rfl
theorem ytp {xs:List V} {i:Nat} {y:V} (h:xs.tail[i]?=some y):xs[i+1]?=some y:=by
 cases xs with
 | nil=>simp at h
 | cons x r=>simpa using h
theorem ykr (xs:List V):(List.range xs.tail.length).map (fun i=>V.bl (ltV ((xs[i]?).getD .non) ((xs.tail[i]?).getD .non)))=(List.zipWith ltV xs xs.tail).map V.bl:=by
 apply List.ext_getElem
 ·rw [List.length_map,List.length_range,List.length_map,List.length_zipWith,List.length_tail]; omega
 ·intro i h1 h2
  rw [List.length_map,List.length_range] at h1
  have hx:i < xs.length:=by rw [List.length_tail] at h1; omega
  rw [List.getElem_map,List.getElem_range,List.getElem_map,List.getElem_zipWith,List.getElem?_eq_getElem h1,List.getElem?_eq_getElem hx]
  rfl
theorem yl8 {K:W.Frag} {t u D:Addr} {xs:List V} {te:TE} {fr:St} {R:Hp->Prop} {H1:Hp} (hint:∀ y∈xs,∃ i:Int,y=.int i) (hl:xs.length <= 1000) (ht:SqT K H1 t xs) (hu:SqT K H1 u xs.tail) (hD:H1 D=none)
  (hte:∀ (i j:Int) (σ':St) (H':Hp) (Q':VK),Q' (.bl (decide (i < j))) H'->te (some (.int i) :: some (.int j) :: σ') H' Q') (hR:∀ H,vi H1 H->H D=some (.lst ((List.zipWith ltV xs xs.tail).map V.bl))->R H) :
  yax (va3 K t u) (yv5 K 2 (ju (xk 0) (ju (xk 1) ypc))) te 2 fr D R H1:=by
 refine ygi (m:=xs.tail.length) (fun i=>V.bl (ltV ((xs[i]?).getD .non) ((xs.tail[i]?).getD .non))) ht hu (by rw [List.length_tail]; omega) (Nat.le_refl _) (.inr (Nat.le_refl _)) hD (fun i x y H2 tt pre hi hx hy S2 hD2 htt hpre=>?_) (fun H2 S2 hD2=>?_)
 ·obtain ⟨v1,v2,rfl⟩:=ymr hpre
  obtain ⟨c,rfl⟩:=hint x (List.mem_of_getElem? hx)
  obtain ⟨d,rfl⟩:=hint y (List.mem_of_getElem? (ytp hy))
  have S3:=S2.trans (vh (o:=HO.tup [V.int c,V.int d]) htt)
  have hD3:=uq (o':=HO.tup [V.int c,V.int d]) htt hD2
  have ht3:upd H2 tt (HO.tup [V.int c,V.int d]) tt=some (.tup [V.int c,V.int d]):=yc
  generalize upd H2 tt (HO.tup [V.int c,V.int d])=H3 at S3 hD3 ht3
  refine ymy (SqT.of ht3) rfl ?_
  show ju (xk 0) (ju (xk 1) ypc) [V.int c,V.int d] (v1 :: v2 :: fr) H3 _
  walk_at "rd"
  refine ⟨⟨[some (.int c),some (.int d)],rfl,rfl⟩,?_⟩
  refine hte c d fr H3 _ ?_
  refine Mp.doneR hD (wq (by rw [List.length_tail]; omega)) hi S3 hD3 ?_
  rw [hx,hy]
  rfl
 ·exact hR H2 S2 (by rw [<- ykr]; exact hD2)
theorem yr9 (xs:List V):yhg xs (some 1) none=xs.tail:=by
 unfold yhg
 have e:HT.sIx xs.length 0 (some 1)=min 1 xs.length:=by
  have:=HT.sIx_nat xs.length 0 1
  simpa using this
 rw [HT.sIx_none,e]
 cases xs with
 | nil=>rfl
 | cons x r=>simp
theorem yov {n:Nat} (bs:List Bool) (h:n=bs.length):(List.range n).map (fun i=>V.bl ((bs[i]?).getD false))=bs.map V.bl:=by
 subst h
 apply List.ext_getElem
 ·rw [List.length_map,List.length_range,List.length_map]
 ·intro i h1 h2
  rw [List.length_map,List.length_range] at h1
  rw [List.getElem_map,List.getElem_range,List.getElem_map,List.getElem?_eq_getElem h1]
  rfl
def yhh (K:W.Frag) (H:Hp) (xs:List V) (bs:List Bool):Prop:=xs.length=bs.length/\∀ (i:Nat) (y:V) (b:Bool),xs[i]?=some y->bs[i]?=some b->LkB K H y b
theorem yhh.same {K:W.Frag} {H H':Hp} {xs:List V} {bs:List Bool} (h:yhh K H xs bs) (S:vi H H'):yhh K H' xs bs:=⟨h.1,fun i y b h1 h2=>(h.2 i y b h1 h2).same S⟩
def LkG (H:Hp) (v:V) (kd:Fin 3) (tp:Addr) (ps:List Int):Prop:=∃ lk,v=.ref lk/\H lk=some (.tup [.str (kdS kd),.ref tp])/\H tp=some (.tup (ps.map V.int))/\zu (ps.map V.int)=true
theorem LkG.same {H H':Hp} {v:V} {kd:Fin 3} {tp:Addr} {ps:List Int} (h:LkG H v kd tp ps) (S:vi H H'):LkG H' v kd tp ps:=by
 obtain ⟨lk,e,h1,h2,h3⟩:=h
 exact ⟨lk,e,S _ _ h1,S _ _ h2,h3⟩
theorem yr8 (kd:Fin 3):yhe (.str (kdS kd))=true:=by
 match kd with
 | 0=>rfl
 | 1=>rfl
 | 2=>rfl
theorem yjd {xs:List V} (h:zu xs=true):xs.length <= 4:=by
 unfold zu at h
 rw [Bool.and_eq_true,Bool.and_eq_true] at h
 exact of_decide_eq_true h.1.1
theorem LkG.tells {K:W.Frag} {H:Hp} {v:V} {kd:Fin 3} {tp:Addr} {ps:List Int} (h:LkG H v kd tp ps):LkB K H v true:=by
 obtain ⟨lk,e,h1,h2,h3⟩:=h
 have:=yjd h3
 refine .inr ⟨lk,_,e,h1,.inr ⟨_,_,"str",rfl,.str _,.inr ⟨yr8 kd,.inr ⟨tp,_,rfl,h2,by omega,fun y hy=>?_,h3.symm⟩⟩⟩⟩
 obtain ⟨i,_,rfl⟩:=List.mem_map.mp hy
 exact ⟨_,.int i⟩
theorem yqk:∀ {ps:List Int},ps.Pairwise (· < ·)->vc7 (ps.map V.int)=true
 | [],_=>rfl
 | [_],_=>rfl
 | p :: q :: r,h=>by
  have h1:p < q:=(List.pairwise_cons.mp h).1 q (by simp)
  have ih:=yqk (List.pairwise_cons.mp h).2
  unfold vc7 at ih ⊢
  simp only [List.map_cons,List.tail_cons,List.zipWith_cons_cons,List.all_cons] at ih ⊢
  rw [show ltV (V.int p) (V.int q)=true from decide_eq_true h1]
  simpa using ih
theorem yk9 {ps:List Int} (h1:ps.length <= 4) (h2:∀ p∈ps,1 <= p/\p <= 8) (h3:ps.Pairwise (· < ·)):zu (ps.map V.int)=true:=by
 unfold zu
 rw [List.length_map,decide_eq_true h1,yqk h3,Bool.true_and,Bool.and_true,List.all_eq_true]
 intro y hy
 obtain ⟨i,hi,rfl⟩:=List.mem_map.mp hy
 have:=h2 i hi
 show (decide (1 <= i) && decide (i <= 8))=true
 rw [decide_eq_true this.1,decide_eq_true this.2]
 rfl
def Lks (H:Hp) (xs:List V):Prop:=∀ y∈xs,∃ kd tp ps,LkG H y kd tp ps
theorem Lks.bs {K:W.Frag} {H:Hp} {xs:List V} (h:Lks H xs):yhh K H xs (List.replicate xs.length true):=by
 refine ⟨by rw [List.length_replicate],fun i y b h1 h2=>?_⟩
 have hb:b=true:=List.eq_of_mem_replicate (List.mem_of_getElem? h2)
 obtain ⟨kd,tp,ps,z⟩:=h y (List.mem_of_getElem? h1)
 rw [hb]
 exact z.tells
theorem ys6 (n:Nat):(List.replicate n true).all id=true:=by simp
def yj9 (K:W.Frag) (H:Hp) (x:V):Prop:=(∃ n,xw K H x (.type n)/\n≠"list")\/∃ l xs bs,x=.ref l/\H l=some (.lst xs)/\xs.length <= 1000/\yhh K H xs bs/\¬ (1 <= xs.length/\xs.length <= 6/\bs.all id=true)
theorem yj9.same {K:W.Frag} {H H':Hp} {x:V} (h:yj9 K H x) (S:vi H H'):yj9 K H' x:=by
 rcases h with ⟨n,ty,hn⟩ | ⟨l,xs,bs,e,hl,hz,hb,no⟩
 ·exact .inl ⟨n,xv S ty,hn⟩
 ·exact .inr ⟨l,xs,bs,e,S _ _ hl,hz,hb.same S,no⟩
theorem LkG.upd {H:Hp} {v:V} {kd:Fin 3} {tp l:Addr} {ps:List Int} {xs ys:List V} (h:LkG H v kd tp ps) (hl:H l=some (.lst xs)):LkG (L2.upd H l (.lst ys)) v kd tp ps:=by
 obtain ⟨lk,e,h1,h2,h3⟩:=h
 exact ⟨lk,e,yq (uh h1 hl (by intro z; cases z)) h1,yq (uh h2 hl (by intro z; cases z)) h2,h3⟩
theorem yhh.append {K:W.Frag} {H:Hp} {xs ys:List V} {bs cs:List Bool} (h1:yhh K H xs bs) (h2:yhh K H ys cs):yhh K H (xs++ys) (bs++cs):=by
 refine ⟨by rw [List.length_append,List.length_append,h1.1,h2.1],fun i y b e1 e2=>?_⟩
 rcases Nat.lt_or_ge i xs.length with q | q
 ·rw [List.getElem?_append_left q] at e1
  rw [List.getElem?_append_left (by rw [<- h1.1]; exact q)] at e2
  exact h1.2 i y b e1 e2
 ·rw [List.getElem?_append_right q] at e1
  rw [List.getElem?_append_right (by rw [<- h1.1]; exact q),<- h1.1] at e2
  exact h2.2 _ y b e1 e2
theorem yhh.one {K:W.Frag} {H:Hp} {v:V} {b:Bool} (h:LkB K H v b):yhh K H [v] [b]:=by
 refine ⟨rfl,fun i y b' e1 e2=>?_⟩
 cases i with
 | zero =>
  cases e1
  cases e2
  exact h
 | succ j=>simp at e1
def upN {α:Type} (g:Nat->α) (n:Nat) (x:α):Nat->α:=fun j=>if j=n then x else g j
theorem xn {α:Type} {g:Nat->α} {n:Nat} {x:α}:upN g n x n=x:=if_pos rfl
theorem xj {α:Type} {g:Nat->α} {n j:Nat} {x:α} (h:j < n):upN g n x j=g j:=if_neg (by omega)
theorem yso (c:Int):∃ kk:Fin 3,atI [V.str "even",V.str "quick",V.str "run"] (c % 3)=some (V.str (kdS kk)):=by
 have h0:0 <= c % 3:=Int.emod_nonneg _ (by decide)
 have h1:c % 3 < 3:=Int.emod_lt_of_pos _ (by decide)
 generalize c % 3=z at h0 h1
 obtain rfl | rfl | rfl:z=0\/z=1\/z=2:=by omega
 ·exact ⟨0,rfl⟩
 ·exact ⟨1,rfl⟩
 ·exact ⟨2,rfl⟩
def ya2 (H:Hp) (n:Nat) (lk:Nat->Addr) (kd:Nat->Fin 3) (tp:Nat->Addr) (ps:Nat->List Int):Prop:=∀ i,i < n->LkG H (.ref (lk i)) (kd i) (tp i) (ps i)
theorem ya2.same {H H':Hp} {n:Nat} {lk:Nat->Addr} {kd:Nat->Fin 3} {tp:Nat->Addr} {ps:Nat->List Int} (h:ya2 H n lk kd tp ps) (S:vi H H'):ya2 H' n lk kd tp ps:=fun i hi=>(h i hi).same S
structure Sd (K:W.Frag) (H:Hp) (v:V) (d:PyData) (k:Nat):Prop where
 rd:RdV K H v d
 lay:d.canLay0=true
 dep:d.depth <= k
 eq:PyData.eqv d d=true
structure Sds (K:W.Frag) (H:Hp) (xs:List V) (ds:List PyData) (k:Nat):Prop where
 rd:yj7 K H xs ds
 lay:PyData.canLayAll0 ds=true
 dep:PyData.depthAll ds <= k
 eq:PyData.eqvAll ds ds=true
theorem Sd.int {K:W.Frag} {H:Hp} (i:Int) {k:Nat}:Sd K H (.int i) (.int i) k:=⟨.int i,by simp [PyData.canLay0],by simp [PyData.depth],by simp [PyData.eqv]⟩
theorem Sds.nil {K:W.Frag} {H:Hp} {k:Nat}:Sds K H [] [] k:=⟨.nil,rfl,Nat.zero_le _,by simp [PyData.eqvAll]⟩
theorem Sds.cons {K:W.Frag} {H:Hp} {v:V} {d:PyData} {xs:List V} {ds:List PyData} {k:Nat} (h:Sd K H v d k) (r:Sds K H xs ds k):Sds K H (v :: xs) (d :: ds) k:=by
 refine ⟨.cons h.rd r.rd,by simp [PyData.canLayAll0,h.lay,r.lay],?_,by simp [PyData.eqvAll,h.eq,r.eq]⟩
 have h1:=h.dep
 have h2:=r.dep
 simp only [PyData.depthAll]
 omega
theorem Sds.ints {K:W.Frag} {H:Hp} (ns:List Int) {k:Nat}:Sds K H (ns.map V.int) (ns.map PyData.int) k:=⟨yad ns,jz ns,by rw [yar]; exact Nat.zero_le _,by rw [j3,decide_eq_true rfl]⟩
theorem Sd.lst {K:W.Frag} {H:Hp} {p:Addr} {xs:List V} {ds:List PyData} {k:Nat} (h:SqL K H p xs) (r:Sds K H xs ds k):Sd K H (.ref p) (.list ds) (k+1):=by
 refine ⟨.lst h r.rd,by simp [PyData.canLay0,r.lay],?_,by simp [PyData.eqv,r.eq]⟩
 have h2:=r.dep
 simp only [PyData.depth]
 omega
theorem Sd.tup {K:W.Frag} {H:Hp} {p:Addr} {xs:List V} {ds:List PyData} {k:Nat} (h:SqT K H p xs) (r:Sds K H xs ds k):Sd K H (.ref p) (.tuple ds) (k+1):=by
 refine ⟨.tup h r.rd,by simp [PyData.canLay0,r.lay],?_,by simp [PyData.eqv,r.eq]⟩
 have h2:=r.dep
 simp only [PyData.depth]
 omega
theorem ytz {K:W.Frag} {g:Bool->Bool} {H:Hp} {Q:VK} {x y:V} {d:PyData} {k:Nat} (h1:Sd K H x d k) (h2:Sd K H y d k) (hk:k <= 60) (h:Q (.bl (g true)) H):va9 K g x y H Q:=by
 have hsh:SeqAt.shaped d=true:=by
  unfold SeqAt.shaped
  rw [Bool.and_eq_true]
  exact ⟨h1.lay,decide_eq_true (by have:=h1.dep; omega)⟩
 exact ⟨d,d,h1.rd,h2.rd,hsh,hsh,by rw [h1.eq]; exact h⟩
theorem vcf:ym ["thing"] ["thing"] (yj vcr):=⟨rfl,rfl,rfl,by decide +kernel,rfl,by decide +kernel,by decide +kernel⟩
def ygn (K:W.Frag):Sp:=fun vs H Q _=>∃ x n,vs=[x]/\xw K H x (.type n)/\Q (.bl (yao x)) H
theorem ync (T:Txt K mg a):wv P w K mg base CX0 1 a.f_q1 a.d_q1 ["thing"] (ygn K):=by
 refine T.y_q1.F.ok vcf (fun vs H Q E h=>?_) (fun cdv A outer s H vs Q E hr h=>?_)
 ·obtain ⟨x,n,rfl,_⟩:=h
  rfl
 ·obtain ⟨x,n,rfl,ty,k⟩:=h
  refine ⟨_,(yf (yv (ji (yt wg rfl T.z_isinstance (by decide +kernel) (yb (pv 0) (yb (zj (T:="int") rfl T.z_int (by decide +kernel)) yd (ya rfl)) (ya rfl))) (ya6 (yw1 (yt wg rfl T.z_isinstance (by decide +kernel) (yb (pv 0) (yb (zj (T:="bool") rfl T.z_bool (by decide +kernel)) yd (ya rfl)) (ya rfl)))))))),?_⟩
  try dsimp only [wk]
  refine yn (σ':=[some _]) rfl ?_
  walk_at "rd"
  refine ya0 ty (ysn ty) ?_
  walk_at "rd"
  cases hx:yp0 x with
  | false =>
   have e:yao x=false:=by
    cases x <;> first | rfl | cases hx
   rw [e] at k
   exact ynl k
  | true =>
   have e:yao x=!yl5 x:=by
    cases x <;> first | rfl | cases hx
   rw [e] at k
   refine ypd ?_
   walk_at "rd"
   refine ya0 ty (ynp ty) ?_
   walk_at "rd"
   exact k
theorem vbg:ym ["thing"] ["thing"] (yj vc1):=⟨rfl,rfl,rfl,by decide +kernel,rfl,by decide +kernel,by decide +kernel⟩
def ykg (K:W.Frag):Sp:=fun vs H Q _=>∃ x n,vs=[x]/\xw K H x (.type n)/\Q (.bl (ybg x)) H
theorem vcm (T:Txt K mg a):wv P w K mg base CX0 2 a.f_q2 a.d_q2 ["thing"] (ykg K):=by
 refine T.y_q2.F.ok vbg (fun vs H Q E h=>?_) (fun cdv A outer s H vs Q E hr h=>?_)
 ·obtain ⟨x,n,rfl,_⟩:=h
  rfl
 ·obtain ⟨x,n,rfl,ty,k⟩:=h
  refine ⟨_,(yf (yv (ji (vg (ync T) (hr.mono (by decide)) rfl T.y_q1.m T.y_q1.F.kp T.y_q1.B .nil vv (yb (pv 0) yd (ya rfl))) (ya6 (ybh jj jj yg (pv 0) yg))))),?_⟩
  try dsimp only [wk]
  refine yn (σ':=[some _]) rfl ?_
  walk_at "rd"
  refine ⟨x,n,rfl,ty,?_⟩
  walk_at "rd"
  cases hx:yao x with
  | false =>
   have e:ybg x=false:=by
    cases x <;> first | rfl | cases hx
   rw [e] at k
   exact ynl k
  | true =>
   obtain ⟨i,rfl⟩:=zh hx
   refine ypd ?_
   walk_at "rd"
   refine zn (fun h0=>?_) (fun h0=>?_)
   ·walk_at "rd"
    have e:ybg (.int i)=decide (i <= 1):=by simp [ybg,h0]
    rw [e] at k
    exact k
   ·have e:ybg (.int i)=false:=by simp [ybg,h0]
    rw [e] at k
    exact k
theorem vbj:ym ["thing"] ["thing"] (yj vcv):=⟨rfl,rfl,rfl,by decide +kernel,rfl,by decide +kernel,by decide +kernel⟩
def yd9 (K:W.Frag):Sp:=fun vs H Q _=>∃ x n,vs=[x]/\xw K H x (.type n)/\Q (.bl (chV x)) H
theorem vb1 (T:Txt K mg a):wv P w K mg base CX0 2 a.f_q3 a.d_q3 ["thing"] (yd9 K):=by
 refine T.y_q3.F.ok vbj (fun vs H Q E h=>?_) (fun cdv A outer s H vs Q E hr h=>?_)
 ·obtain ⟨x,n,rfl,_⟩:=h
  rfl
 ·obtain ⟨x,n,rfl,ty,k⟩:=h
  refine ⟨_,(yf (yv (ji (vg (ync T) (hr.mono (by decide)) rfl T.y_q1.m T.y_q1.F.kp T.y_q1.B .nil vv (yb (pv 0) yd (ya rfl))) (ya6 (ybh jj jj (v9 rfl T.c_LEAST) (pv 0) (yo ux (v9 rfl T.c_ONE) (v9 rfl T.c_LEAST))))))),?_⟩
  try dsimp only [wk]
  refine yn (σ':=[some _]) rfl ?_
  walk_at "rd"
  refine ⟨x,n,rfl,ty,?_⟩
  walk_at "rd"
  cases hx:yao x with
  | false =>
   have e:chV x=false:=by
    cases x <;> first | rfl | cases hx
   rw [e] at k
   exact ynl k
  | true =>
   obtain ⟨i,rfl⟩:=zh hx
   refine ypd ?_
   walk_at "rd"
   refine zn (fun h0=>?_) (fun h0=>?_)
   ·walk_at "rd"
    have e:chV (.int i)=decide (i <= 16777216 - 32768):=by simp [chV,h0]
    rw [e] at k
    exact k
   ·have e:chV (.int i)=false:=by simp [chV,h0]
    rw [e] at k
    exact k
theorem vck:ym ["thing"] ["thing"] (yj vc0):=⟨rfl,rfl,rfl,by decide +kernel,rfl,by decide +kernel,by decide +kernel⟩
def yjw (K:W.Frag):Sp:=fun vs H Q _=>∃ x n,vs=[x]/\xw K H x (.type n)/\Q (.bl (sgV x)) H
theorem vce (T:Txt K mg a):wv P w K mg base CX0 2 a.f_q4 a.d_q4 ["thing"] (yjw K):=by
 refine T.y_q4.F.ok vck (fun vs H Q E h=>?_) (fun cdv A outer s H vs Q E hr h=>?_)
 ·obtain ⟨x,n,rfl,_⟩:=h
  rfl
 ·obtain ⟨x,n,rfl,ty,k⟩:=h
  refine ⟨_,(yf (yv (ji (vg (ync T) (hr.mono (by decide)) rfl T.y_q1.m T.y_q1.F.kp T.y_q1.B .nil vv (yb (pv 0) yd (ya rfl))) (ya6 (ybh jj jj yg (pv 0) yg))))),?_⟩
  try dsimp only [wk]
  refine yn (σ':=[some _]) rfl ?_
  walk_at "rd"
  refine ⟨x,n,rfl,ty,?_⟩
  walk_at "rd"
  cases hx:yao x with
  | false =>
   have e:sgV x=false:=by
    cases x <;> first | rfl | cases hx
   rw [e] at k
   exact ynl k
  | true =>
   obtain ⟨i,rfl⟩:=zh hx
   refine ypd ?_
   walk_at "rd"
   refine zn (fun h0=>?_) (fun h0=>?_)
   ·walk_at "rd"
    have e:sgV (.int i)=decide (i <= 255):=by simp [sgV,h0]
    rw [e] at k
    exact k
   ·have e:sgV (.int i)=false:=by simp [sgV,h0]
    rw [e] at k
    exact k
theorem vcb:ym ["thing","most"] ["thing","most"] (yj vcy):=⟨rfl,rfl,rfl,by decide +kernel,rfl,by decide +kernel,by decide +kernel⟩
def yyd (K:W.Frag):Sp:=fun vs H Q _=>∃ x n m,vs=[x,.int m]/\xw K H x (.type n)/\((Bad K H x n m/\∀ H',vi H H'->Q (.bl false) H')\/∃ xs,va5 K H x xs m/\∀ H',vi H H'->Q (.bl true) H')
theorem va1 (T:Txt K mg a):wv P w K mg base CX0 3 a.f_q5 a.d_q5 ["thing","most"] (yyd K):=by
 refine T.y_q5.F.ok vcb (fun vs H Q E h=>?_) (fun cdv A outer s H vs Q E hr h=>?_)
 ·obtain ⟨x,n,m,rfl,_⟩:=h
  rfl
 ·obtain ⟨x,n,m,rfl,ty,h⟩:=h
  have key:(n≠"list"/\∀ H',vi H H'->Q (.bl false) H')\/∃ p xs,x=.ref p/\H p=some (.lst xs)/\Typed K H xs/\xs.length <= 100000/\∀ H',vi H H'->Q (.bl (decide ((xs.length:Int) <= m) && xs.all sgV)) H':=by
   rcases h with ⟨h | ⟨p,xs,e,hp,t,hz,hb⟩,k⟩ | ⟨xs,⟨p,e,hp,t,hz,hb⟩,k⟩
   ·exact .inl ⟨h,k⟩
   ·exact .inr ⟨p,xs,e,hp,t,hz,fun H' S=>by rw [hb]; exact k H' S⟩
   ·exact .inr ⟨p,xs,e,hp,t,hz,fun H' S=>by rw [hb]; exact k H' S⟩
  refine ⟨_,(yf (yv (ji (yt wg rfl T.z_isinstance (by decide +kernel) (yb (pv 0) (yb (zj (T:="list") rfl T.z_list (by decide +kernel)) yd (ya rfl)) (ya rfl))) (ji (yaz jj (yt vn rfl T.z_len (by decide +kernel) (yb (pv 0) yd (ya rfl))) (pv 1) (vq _)) (ya6 (yt (yaf rfl) rfl T.z_all (by decide +kernel) (yb (j4 rfl (xc (pv 0)) (fun C s2 H2 fp=>(vg (vce T) (hr.mono (by decide)) rfl T.y_q4.m T.y_q4.F.kp T.y_q4.B .nil vv (yb (pv 0) yd (ya rfl))))) yd (ya rfl)))))))),?_⟩
  try dsimp only [wk]
  refine yn (σ':=[some _,some _]) rfl ?_
  walk_at "rd"
  refine ya0 ty (ys9 ty) ?_
  walk_at "rd"
  rcases key with ⟨hn,k⟩ | ⟨p,xs,rfl,hp,tx,hz,k⟩
  ·refine yck hn ?_
   walk_at "rd"
   exact k _ (vi.refl _)
  ·have hn:n="list":=by
    cases ty with
    | lst e=>rfl
    | frz e=>rfl
    | tup e=>rw [hp] at e; cases e
    | dK e=>rw [hp] at e; cases e
    | dT e=>rw [hp] at e; cases e
   refine yd7 hn ?_
   walk_at "rd"
   refine yap (SqL.of hp) ?_
   walk_at "rd"
   refine zn (fun hm=>?_) (fun hm=>?_)
   ·rw [decide_eq_true hm,Bool.true_and] at k
    walk_at "rd"
    refine ⟨p,rfl,⟨_,SqL.of hp⟩,fun D hD=>?_⟩
    have nD:p≠D:=ye hp hD
    refine uo (K:=K) (a:=p) (xs:=xs) (fun i H5=>H5 D=some (.lst (((xs.take i).map sgV).map V.bl))/\vi H H5)
     ⟨yc,vh hD⟩ (fun i H5 _ q=>SqL.of (q.2 _ _ hp)) ?_ ?_
    ·rintro i y H5 hi hlt ⟨hD5,S5⟩
     walk_at "rd"
     obtain ⟨ky,ty5⟩:=tx y (List.mem_of_getElem? hi)
     refine ⟨y,ky,rfl,xv S5 ty5,?_⟩
     refine xz hD5 (by rw [List.length_map,List.length_map,List.length_take]; exact yo1 (by omega)) hlt ⟨yc.trans ?_,fun b o e=>yq (fun z=>?_) (S5 _ _ e)⟩
     ·rw [List.take_succ,hi]
      simp
     ·subst z
      rw [hD] at e
      cases e
    ·rintro H5 ⟨hD5,S5⟩
     walk_at "rd"
     refine ⟨D,_,rfl,SqL.of hD5,?_⟩
     rw [List.take_of_length_le (Nat.le_refl _),List.all_map]
     exact k _ S5
   ·rw [decide_eq_false hm,Bool.false_and] at k
    walk_at "rd"
    exact k _ (vi.refl _)
theorem vbt:ym ["thing"] ["thing"] (yj vcu):=⟨rfl,rfl,rfl,by decide +kernel,rfl,by decide +kernel,by decide +kernel⟩
theorem yjx (T:Txt K mg a):wv P w K mg base (CXe P w) 4 a.f_q6 a.d_q6 ["thing"] (ycn K a.C_NT 1000):=by
 refine T.y_q6.F.okE vbt (fun vs H Q E h=>?_) (fun cdv A outer s H vs Q E hr h=>?_)
 ·obtain ⟨x,n,rfl,_⟩:=h
  rfl
 ·obtain ⟨x,n,rfl,ty,h⟩:=h
  refine ⟨_,(yi (wj (ud (xr (vg (va1 T) (hr.mono (by decide)) rfl T.y_q5.m T.y_q5.F.kp T.y_q5.B .nil vv (yb (pv 0) (yb (v9 rfl T.c_MOST_SIGNS) yd (ya rfl)) (ya rfl))))) (yf (xg rfl T.m_NT T.r_NT (yb vo yd (ya rfl)))) vf) (yf (yv (zi uv rfl T.z_list (by decide +kernel) (yb (pv 0) yd (ya rfl)))))),?_⟩
  try dsimp only [wk]
  refine yn (σ':=[some _]) rfl ?_
  walk_at "rd"
  refine ⟨x,n,_,rfl,ty,?_⟩
  rcases h with ⟨hb,k⟩ | ⟨xs,hg,k⟩
  ·refine .inl ⟨hb,fun H1 S1=>?_⟩
   walk_at "rd"
   exact ⟨by walk_at "len",k _ S1⟩
  ·refine .inr ⟨xs,hg,fun H1 S1=>?_⟩
   obtain ⟨p,rfl,hp,_⟩:=hg
   walk_at "rd"
   refine ⟨p,xs,rfl,.inl (SqL.of (S1 _ _ hp)),fun r hr0=>?_⟩
   exact k r _ (S1.free hr0) yc (S1.trans (vh hr0))
theorem vbu:ym ["thing"] ["thing"] (yj vc2):=⟨rfl,rfl,rfl,by decide +kernel,rfl,by decide +kernel,by decide +kernel⟩
theorem vau (T:Txt K mg a):wv P w K mg base (CXe P w) 4 a.f_q7 a.d_q7 ["thing"] (ycn K a.C_NY 12000):=by
 refine T.y_q7.F.okE vbu (fun vs H Q E h=>?_) (fun cdv A outer s H vs Q E hr h=>?_)
 ·obtain ⟨x,n,rfl,_⟩:=h
  rfl
 ·obtain ⟨x,n,rfl,ty,h⟩:=h
  refine ⟨_,(yi (wj (ud (xr (vg (va1 T) (hr.mono (by decide)) rfl T.y_q5.m T.y_q5.F.kp T.y_q5.B .nil vv (yb (pv 0) (yb (v9 rfl T.c_MOST_BYTES) yd (ya rfl)) (ya rfl))))) (yf (xg rfl T.m_NY T.r_NY (yb vo yd (ya rfl)))) vf) (yf (yv (zi uv rfl T.z_list (by decide +kernel) (yb (pv 0) yd (ya rfl)))))),?_⟩
  try dsimp only [wk]
  refine yn (σ':=[some _]) rfl ?_
  walk_at "rd"
  refine ⟨x,n,_,rfl,ty,?_⟩
  rcases h with ⟨hb,k⟩ | ⟨xs,hg,k⟩
  ·refine .inl ⟨hb,fun H1 S1=>?_⟩
   walk_at "rd"
   exact ⟨by walk_at "len",k _ S1⟩
  ·refine .inr ⟨xs,hg,fun H1 S1=>?_⟩
   obtain ⟨p,rfl,hp,_⟩:=hg
   walk_at "rd"
   refine ⟨p,xs,rfl,.inl (SqL.of (S1 _ _ hp)),fun r hr0=>?_⟩
   exact k r _ (S1.free hr0) yc (S1.trans (vh hr0))
theorem vb7:ym ["thing"] ["thing"] (yj vcs):=⟨rfl,rfl,rfl,by decide +kernel,rfl,by decide +kernel,by decide +kernel⟩
def yrl:V->Bool
 | .int i=>decide (0 <= i) && decide (i <= 1000)
 | _=>false
def yn9 (K:W.Frag) (C:Addr):Sp:=fun vs H Q E=>∃ x n,vs=[x]/\xw K H x (.type n)/\(yrl x=true->Q .non H)/\(yrl x=false->E (.ref C) none H)
theorem vbw (T:Txt K mg a):wv P w K mg base (CXe P w) 2 a.f_q8 a.d_q8 ["thing"] (yn9 K a.C_NoMost):=by
 refine T.y_q8.F.okE vb7 (fun vs H Q E h=>?_) (fun cdv A outer s H vs Q E hr h=>?_)
 ·obtain ⟨x,n,rfl,_⟩:=h
  rfl
 ·obtain ⟨x,n,rfl,ty,k1,k2⟩:=h
  refine ⟨_,(yf (wj (PW.pt (yfp (ud (xr (vg (ync T) (hr.mono (by decide)) rfl T.y_q1.m T.y_q1.F.kp T.y_q1.B .nil vv (yb (pv 0) yd (ya rfl))))) (yfh (ud (ydt jj jj yg (pv 0) (v9 rfl T.c_MOST_SIGNS)))))) (yf (xg rfl T.m_NoMost T.r_NoMost (yb vo yd (ya rfl)))) vf)),?_⟩
  try dsimp only [wk]
  refine yn (σ':=[some _]) rfl ?_
  walk_at "rd"
  refine ⟨x,n,rfl,ty,?_⟩
  walk_at "rd"
  cases hx:yao x with
  | false =>
   have e:yrl x=false:=by
    cases x <;> first | rfl | cases hx
   walk_at "rd"
   exact ⟨by walk_at "len",k2 e⟩
  | true =>
   obtain ⟨i,rfl⟩:=zh hx
   walk_at "rd"
   refine zn (fun h0=>?_) (fun h0=>?_)
   ·walk_at "rd"
    refine vdu (fun h1=>?_) (fun h1=>?_)
    ·walk_at "rd"
     exact k1 (by simp [yrl,h0,h1])
    ·walk_at "rd"
     exact ⟨by walk_at "len",k2 (by simp [yrl,h1])⟩
   ·walk_at "rd"
    exact ⟨by walk_at "len",k2 (by simp [yrl,h0])⟩
theorem vcg:ym ["thing"] ["thing"] (yj vcq):=⟨rfl,rfl,rfl,by decide +kernel,rfl,by decide +kernel,by decide +kernel⟩
def ybn (K:W.Frag) (C:Addr):Sp:=fun vs H Q E=>∃ x n,vs=[x]/\xw K H x (.type n)/\(chV x=true->Q .non H)/\(chV x=false->E (.ref C) none H)
theorem yuw (T:Txt K mg a):wv P w K mg base (CXe P w) 3 a.f_q9 a.d_q9 ["thing"] (ybn K a.C_NC):=by
 refine T.y_q9.F.okE vcg (fun vs H Q E h=>?_) (fun cdv A outer s H vs Q E hr h=>?_)
 ·obtain ⟨x,n,rfl,_⟩:=h
  rfl
 ·obtain ⟨x,n,rfl,ty,k1,k2⟩:=h
  refine ⟨_,(yf (wj (ud (xr (vg (vb1 T) (hr.mono (by decide)) rfl T.y_q3.m T.y_q3.F.kp T.y_q3.B .nil vv (yb (pv 0) yd (ya rfl))))) (yf (xg rfl T.m_NC T.r_NC (yb vo yd (ya rfl)))) vf)),?_⟩
  try dsimp only [wk]
  refine yn (σ':=[some _]) rfl ?_
  walk_at "rd"
  refine ⟨x,n,rfl,ty,?_⟩
  walk_at "rd"
  cases hx:chV x with
  | false =>
   walk_at "rd"
   exact ⟨by walk_at "len",k2 hx⟩
  | true =>
   walk_at "rd"
   exact k1 hx
theorem yyn:ym ["thing"] ["thing"] (yj yus):=⟨rfl,rfl,rfl,by decide +kernel,rfl,by decide +kernel,by decide +kernel⟩
def yeg (K:W.Frag) (C:Addr):Sp:=fun vs H Q E=>∃ x n,vs=[x]/\xw K H x (.type n)/\(ybg x=true->Q .non H)/\(ybg x=false->E (.ref C) none H)
theorem yca (T:Txt K mg a):wv P w K mg base (CXe P w) 3 a.f_q10 a.d_q10 ["thing"] (yeg K a.C_NB):=by
 refine T.y_q10.F.okE yyn (fun vs H Q E h=>?_) (fun cdv A outer s H vs Q E hr h=>?_)
 ·obtain ⟨x,n,rfl,_⟩:=h
  rfl
 ·obtain ⟨x,n,rfl,ty,k1,k2⟩:=h
  refine ⟨_,(yf (wj (ud (xr (vg (vcm T) (hr.mono (by decide)) rfl T.y_q2.m T.y_q2.F.kp T.y_q2.B .nil vv (yb (pv 0) yd (ya rfl))))) (yf (xg rfl T.m_NB T.r_NB (yb vo yd (ya rfl)))) vf)),?_⟩
  try dsimp only [wk]
  refine yn (σ':=[some _]) rfl ?_
  walk_at "rd"
  refine ⟨x,n,rfl,ty,?_⟩
  walk_at "rd"
  cases hx:ybg x with
  | false =>
   walk_at "rd"
   exact ⟨by walk_at "len",k2 hx⟩
  | true =>
   walk_at "rd"
   exact k1 hx
theorem yy0:ym ["chance","bit"] ["chance","bit"] (yj yvf):=⟨rfl,rfl,rfl,by decide +kernel,rfl,by decide +kernel,by decide +kernel⟩
def yok (K:W.Frag) (C D:Addr):Sp:=fun vs H Q E=>∃ x n y m,vs=[x,y]/\xw K H x (.type n)/\xw K H y (.type m)/\(chV x=false->E (.ref C) none H)/\(chV x=true->ybg y=false->E (.ref D) none H) /\
 (∀ c b,x=.int c->y=.int b->chV x=true->ybg y=true->Q (.int (gvv c b)) H)
theorem yyc (T:Txt K mg a):wv P w K mg base (CXe P w) 4 a.f_q11 a.d_q11 ["chance","bit"] (yok K a.C_NC a.C_NB):=by
 refine T.y_q11.F.okE yy0 (fun vs H Q E h=>?_) (fun cdv A outer s H vs Q E hr h=>?_)
 ·obtain ⟨x,n,y,m,rfl,_⟩:=h
  rfl
 ·obtain ⟨x,n,y,m,rfl,tx,ty,k1,k2,k3⟩:=h
  refine ⟨_,(yi (vz (ve (yuw T) (hr.mono (by decide)) rfl T.y_q9.m T.y_q9.F.kp T.y_q9.B .nil v6 (yb (pv 0) yd (ya rfl)))) (yi (vz (ve (yca T) (hr.mono (by decide)) rfl T.y_q10.m T.y_q10.F.kp T.y_q10.B .nil v6 (yb (pv 1) yd (ya rfl)))) (yf (yv (yak (yz uj (pv 1) yg (vq _)) (pv 0) (yo ux (v9 rfl T.c_ONE) (pv 0))))))),?_⟩
  try dsimp only [wk]
  refine yn (σ':=[some _,some _]) rfl ?_
  walk_at "rd"
  refine ⟨x,n,rfl,tx,fun hx=>?_,k1⟩
  walk_at "rd"
  refine ⟨y,m,rfl,ty,fun hy=>?_,k2 hx⟩
  obtain ⟨c,rfl,c1,c2⟩:=ygy hx
  obtain ⟨b,rfl,b1,b2⟩:=yhz hy
  walk_at "rd"
  have k:=k3 c b rfl rfl hx hy
  unfold gvv at k
  refine zn (fun hb=>?_) (fun hb=>?_)
  ·rw [if_pos hb] at k
   walk_at "rd"
   exact k
  ·rw [if_neg hb] at k
   walk_at "rd"
   exact k
theorem yy7:ym ["sign"] ["sign"] (yj yvx):=⟨rfl,rfl,rfl,by decide +kernel,rfl,by decide +kernel,by decide +kernel⟩
def yjm (K:W.Frag):Sp:=fun vs H Q _=>∃ s:Int,vs=[.int s]/\∀ r H',H r=none->H' r=some (.lst ((b8 s).map V.int))->vi H H'->Q (.ref r) H'
theorem yzt (T:Txt K mg a):wv P w K mg base CX0 1 a.f_q12 a.d_q12 ["sign"] (yjm K):=by
 refine T.y_q12.F.ok yy7 (fun vs H Q E h=>?_) (fun cdv A outer s H vs Q E hr h=>?_)
 ·obtain ⟨s,rfl,_⟩:=h
  rfl
 ·obtain ⟨s',rfl,k⟩:=h
  refine ⟨_,(yf (yv (jn (js:=[0]) (ys:=["sign"]) rfl (yik (w5 rfl T.m_WORTHS)) (fun C s2 H2 fp=>(yo wn (yo wa (pv 1) (pv 0)) yg)) rfl rfl (hyc:=(all_cons rfl vj)) (hrel:=(all_cons rfl vj))))),?_⟩
  try dsimp only [wk]
  refine yn (σ':=[some _]) rfl ?_
  walk_at "rd"
  refine ⟨a.W_WORTHS,rfl,⟨_,T.w_WORTHS H⟩,fun D hD=>?_⟩
  refine ycs (wV s') (T.w_WORTHS H) hD (fun i y H2 hy S2 hD2=>?_) (fun H2 S2 hD2=>?_)
  ·obtain ⟨w',hw',rfl,hw2⟩:∃ w',0 < w'/\y=V.int w'/\w' <= 128:=by
    have hm:=List.mem_of_getElem? hy
    simp only [List.mem_cons,List.not_mem_nil,or_false] at hm
    rcases hm with rfl | rfl | rfl | rfl | rfl | rfl | rfl | rfl <;> exact ⟨_,by decide,rfl,by decide⟩
   walk_at "rd"
   exact Mp.done hD (by show 8 < sizeLine; decide) hy S2 hD2 rfl
  ·exact k D H2 hD hD2 S2
theorem ymt:ym ["text","bits","sign"] ["text"] (yj yt9):=⟨rfl,rfl,rfl,by decide +kernel,rfl,by decide +kernel,by decide +kernel⟩
def yw2 (K:W.Frag):Sp:=fun vs H Q _=>∃ (t:Addr) (ns:List Int),vs=[.ref t]/\H t=some (.lst (ns.map V.int))/\Sgs ns/\ns.length <= 1000/\∀ r H',H r=none->H' r=some (.lst ((dec ns).map V.int))->vi H H'->Q (.ref r) H'
theorem yqh (T:Txt K mg a):wv P w K mg base CX0 5 a.f_q13 a.d_q13 ["text"] (yw2 K):=by
 refine T.y_q13.F.ok ymt (fun vs H Q E h=>?_) (fun cdv A outer s H vs Q E hr h=>?_)
 ·obtain ⟨t,ns,rfl,_⟩:=h
  rfl
 ·obtain ⟨t,ns,rfl,ht,hs,hz,k⟩:=h
  refine ⟨_,(yi (yy (i:=1) ymt.nd rfl (Or.inl rfl) (vk yd)) (yi (ya7 PassesOwn.never rfl (xc (ve (yjx T) (hr.mono (by decide)) rfl T.y_q6.m T.y_q6.F.kp T.y_q6.B .nil xm (yb (pv 0) yd (ya rfl)))) (ub (i:=2) ymt.nd rfl (Or.inl rfl)) (yi (vz (yhc PySem.F.plainAttrs_list PySem.F.slot_list_append PySem.F.type_list_append xh (pv 1) (yb yg yd (ya rfl)))) (yf (vz (yhc PySem.F.plainAttrs_list PySem.F.slot_list_extend PySem.F.type_list_extend yk1 (pv 1) (yb (vg (yzt T) (hr.mono (by decide)) rfl T.y_q12.m T.y_q12.F.kp T.y_q12.B .nil vv (yb (pv 2) yd (ya rfl))) yd (ya rfl))))))) (yi (vz (yhc PySem.F.plainAttrs_list PySem.F.slot_list_append PySem.F.type_list_append xh (pv 1) (yb yg yd (ya rfl)))) (yf (yv (pv 1)))))),?_⟩
  try dsimp only [wk]
  refine yn (σ':=[some _,none,none]) rfl ?_
  walk_at "rd"
  refine ⟨by walk_at "len",fun r hr0=>?_⟩
  with_reducible first | refine yh hr0 fun H1 S1 hr1=>?_ | refine yk hr0 fun H1 S1 hr1=>?_
  walk_at "rd"
  refine ⟨.ref t,_,rfl,.lst (S1 _ _ ht),.inr ⟨ns.map V.int,ybk (S1 _ _ ht) hs hz,fun c H2 hc0 hc2 S2=>?_⟩⟩
  have S12:=S1.trans S2
  refine ⟨c,rfl,⟨_,SqL.of hc2⟩,yam (K:=K) (a:=c) (xs:=ns.map V.int) (fun i σ2 G=>∃ v,σ2=[some (.ref t),some (.ref r),v]/\G r=some (.lst ((yft (ns.take i)).map V.int))/\G c=some (.lst (ns.map V.int))/\vi H G)
   ⟨_,rfl,S2 _ _ hr1,hc2,S12⟩ (fun i σ2 G _ ⟨_,_,_,z,_⟩=>SqL.of z) ?_ ?_⟩
  ·rintro i y σ2 G hi ⟨v,rfl,hrG,hcG,SG⟩
   obtain ⟨z,rfl,hzm,hzi,hil⟩:=zx hi
   have hcr:c≠r:=fun e=>by rw [e,hr1] at hc0; cases hc0
   have hlen:(List.map V.int (yft (ns.take i))).length <= 9000:=by rw [List.length_map,jq,List.length_take]; omega
   walk_at "rd"
   refine yfo hrG ?_
   walk_at "rd"
   refine jo hrG (wq (by omega)) ?_
   have SG1:vi H (upd G r (.lst (List.map V.int (yft (ns.take i))++[V.int 1]))):=fun b o e=>yq (ye e hr0) (SG b o e)
   have hc1:upd G r (.lst (List.map V.int (yft (ns.take i))++[V.int 1])) c=some (.lst (ns.map V.int)):=yq hcr hcG
   have hr1':upd G r (.lst (List.map V.int (yft (ns.take i))++[V.int 1])) r=some (.lst (List.map V.int (yft (ns.take i)++[1]))):=by rw [yc,List.map_append]; rfl
   generalize upd G r (.lst (List.map V.int (yft (ns.take i))++[V.int 1]))=G1 at SG1 hc1 hr1' ⊢
   walk_at "rd"
   refine yfo hr1' ?_
   walk_at "rd"
   refine ⟨z,rfl,fun q G2 hq0 hq2 T2=>?_⟩
   walk_at "rd"
   have hr2:=T2 _ _ hr1'
   refine ⟨r,q,_,_,rfl,rfl,hr2,hq2,ur (by rw [List.length_map,List.length_map,List.length_append,yqf]; rw [List.length_map] at hlen; show _+1+8 <= _; omega),?_⟩
   walk_at "rd"
   refine ⟨_,rfl,?_,?_,fun b o e=>yq (ye e hr0) (T2 _ _ (SG1 b o e))⟩
   ·rw [yc,yat hzi,ye0,ynx,List.append_assoc]
    rfl
   ·exact yq hcr (T2 _ _ hc1)
  ·rintro σ2 G ⟨v,rfl,hrG,hcG,SG⟩
   rw [List.length_map,List.take_length] at hrG
   walk_at "rd"
   refine yfo hrG ?_
   walk_at "rd"
   refine jo hrG (wq (by rw [List.length_map,jq]; omega)) ?_
   walk_at "rd"
   refine k r _ hr0 ?_ fun b o e=>yq (ye e hr0) (SG b o e)
   rw [yc,yo8,List.map_append]
   rfl
theorem yya:ym ["self"] ["self"] (yj yud):=⟨rfl,rfl,rfl,by decide +kernel,rfl,by decide +kernel,by decide +kernel⟩
theorem yy4 (T:Txt K mg a):wv P w K mg base CX0 1 a.f_q14 a.d_q14 ["self"] (ydu a.C_Even (xt (.int 0) (.int 0))):=by
 refine T.y_q14.F.ok yya (fun vs H Q E h=>?_) (fun cdv A outer s H vs Q E hr h=>?_)
 ·obtain ⟨p,dx,rfl,_⟩:=h
  rfl
 ·obtain ⟨p,dx,rfl,hp,k⟩:=h
  refine ⟨_,(yi (v7 (pv 0) yg rfl) (yf (v7 (pv 0) yg rfl))),?_⟩
  try dsimp only [wk]
  refine yn (σ':=[some _]) rfl ?_
  walk_at "rd"
  exact k _ yc (But.upd.trans But.upd)
theorem ywx:ym ["self"] ["self"] (yj yvg):=⟨rfl,rfl,rfl,by decide +kernel,rfl,by decide +kernel,by decide +kernel⟩
theorem yyq (T:Txt K mg a):wv P w K mg base CX0 1 a.f_q15 a.d_q15 ["self"] (ul (oS a) vbd):=by
 refine T.y_q15.F.ok ywx (fun vs H Q E h=>?_) (fun cdv A outer s H vs Q E hr h=>?_)
 ·obtain ⟨p,dx,s,rfl,_⟩:=h
  rfl
 ·obtain ⟨p,dx,s',rfl,hg,hs,hp,k⟩:=h
  cases s' with
  | ev n o =>
   obtain ⟨h1,h2,h3⟩:=hs
   have hp:H p=some (.ins a.C_Even dx (xt (.int n) (.int o))):=hp
   refine ⟨_,(yf (yv (yo wa (yo w8 (yo wu (yo w8 yg (yw (pv 0) rfl)) yg) (v9 rfl T.c_ONE)) (yo wu (yo w8 yg (yo wu (yw (pv 0) rfl) (yw (pv 0) rfl))) yg)))),?_⟩
   try dsimp only [wk]
   refine yn (σ':=[some _]) rfl ?_
   walk_at "rd"
   exact k
  | qk _=>exact hg.elim
  | rn _ _=>exact hg.elim
theorem ywp:ym ["self","bit"] ["self","bit"] (yj yvp):=⟨rfl,rfl,rfl,by decide +kernel,rfl,by decide +kernel,by decide +kernel⟩
theorem yzg (T:Txt K mg a):wv P w K mg base (CXe P w) 4 a.f_q16 a.d_q16 ["self","bit"] (jm K (oS a) vbd a.C_NB):=by
 refine T.y_q16.F.okE ywp (fun vs H Q E h=>?_) (fun cdv A outer s H vs Q E hr h=>?_)
 ·obtain ⟨p,dx,s,x,n,rfl,_⟩:=h
  rfl
 ·obtain ⟨p,dx,s',x,nm,rfl,hg,hs,hp,ty,k1,k2⟩:=h
  cases s' with
  | ev n o =>
   obtain ⟨h1,h2,h3⟩:=hs
   have hp:H p=some (.ins a.C_Even dx (xt (.int n) (.int o))):=hp
   refine ⟨_,(yi (vz (ve (yca T) (hr.mono (by decide)) rfl T.y_q10.m T.y_q10.F.kp T.y_q10.B .nil v6 (yb (pv 1) yd (ya rfl)))) (yi (wj (yz uj (pv 1) yg (vq _)) (yf (v7 (pv 0) (yo wu (yw (pv 0) rfl) yg) rfl)) (yf (v7 (pv 0) (yo wu (yw (pv 0) rfl) yg) rfl))) (yf (wj (yz yu3 (yo wu (yw (pv 0) rfl) (yw (pv 0) rfl)) (v9 rfl T.c_MOST_COUNTED) (vq _)) (yi (v7 (pv 0) (yo wa (yo wu (yw (pv 0) rfl) yg) yg) rfl) (yf (v7 (pv 0) (yo wa (yo wu (yw (pv 0) rfl) yg) yg) rfl))) vf)))),?_⟩
   try dsimp only [wk]
   refine yn (σ':=[some _,some _]) rfl ?_
   walk_at "rd"
   refine ⟨x,nm,rfl,ty,fun hx=>?_,k2⟩
   obtain ⟨b,rfl,b0,b1⟩:=yie hx
   have k:=k1 b rfl b0 b1
   unfold Slt.see at k
   dsimp only at k
   walk_at "rd"
   refine zn (fun hb=>?_) (fun hb=>?_)
   ·rw [if_pos hb] at k
    unfold yhd at k
    walk_at "rd"
    refine zn (fun hz=>?_) (fun hz=>?_)
    ·rw [if_pos hz] at k
     walk_at "rd"
     exact k _ yc ((But.upd.trans But.upd).trans But.upd)
    ·rw [if_neg hz] at k
     walk_at "rd"
     exact k _ yc But.upd
   ·rw [if_neg hb] at k
    unfold yhd at k
    walk_at "rd"
    refine zn (fun hz=>?_) (fun hz=>?_)
    ·rw [if_pos hz] at k
     walk_at "rd"
     exact k _ yc ((But.upd.trans But.upd).trans But.upd)
    ·rw [if_neg hz] at k
     walk_at "rd"
     exact k _ yc But.upd
  | qk _=>exact hg.elim
  | rn _ _=>exact hg.elim
theorem yxl:ym ["self"] ["self"] (yj yvl):=⟨rfl,rfl,rfl,by decide +kernel,rfl,by decide +kernel,by decide +kernel⟩
theorem ywd (T:Txt K mg a):wv P w K mg base CX0 1 a.f_q17 a.d_q17 ["self"] (ydu a.C_Quick (uc (.int 8388608))):=by
 refine T.y_q17.F.ok yxl (fun vs H Q E h=>?_) (fun cdv A outer s H vs Q E hr h=>?_)
 ·obtain ⟨p,dx,rfl,_⟩:=h
  rfl
 ·obtain ⟨p,dx,rfl,hp,k⟩:=h
  refine ⟨_,(yf (v7 (pv 0) (yo wa (v9 rfl T.c_ONE) yg) rfl)),?_⟩
  try dsimp only [wk]
  refine yn (σ':=[some _]) rfl ?_
  walk_at "rd"
  exact k _ yc But.upd
theorem ywz:ym ["self"] ["self"] (yj yt0):=⟨rfl,rfl,rfl,by decide +kernel,rfl,by decide +kernel,by decide +kernel⟩
theorem ywt (T:Txt K mg a):wv P w K mg base CX0 1 a.f_q18 a.d_q18 ["self"] (ul (oS a) va8):=by
 refine T.y_q18.F.ok ywz (fun vs H Q E h=>?_) (fun cdv A outer s H vs Q E hr h=>?_)
 ·obtain ⟨p,dx,s,rfl,_⟩:=h
  rfl
 ·obtain ⟨p,dx,s',rfl,hg,hs,hp,k⟩:=h
  cases s' with
  | qk h0 =>
   have hp:H p=some (.ins a.C_Quick dx (uc (.int h0))):=hp
   refine ⟨_,(yf (yv (yw (pv 0) rfl))),?_⟩
   try dsimp only [wk]
   refine yn (σ':=[some _]) rfl ?_
   walk_at "rd"
   exact k
  | ev _ _=>exact hg.elim
  | rn _ _=>exact hg.elim
theorem ym0:ym ["self","bit","moved"] ["self","bit"] (yj yt6):=⟨rfl,rfl,rfl,by decide +kernel,rfl,by decide +kernel,by decide +kernel⟩
theorem yx5 (T:Txt K mg a):wv P w K mg base (CXe P w) 4 a.f_q19 a.d_q19 ["self","bit"] (jm K (oS a) va8 a.C_NB):=by
 refine T.y_q19.F.okE ym0 (fun vs H Q E h=>?_) (fun cdv A outer s H vs Q E hr h=>?_)
 ·obtain ⟨p,dx,s,x,n,rfl,_⟩:=h
  rfl
 ·obtain ⟨p,dx,s',x,nm,rfl,hg,hs,hp,ty,k1,k2⟩:=h
  cases s' with
  | qk h0 =>
   obtain ⟨h1,h2⟩:=hs
   have hp:H p=some (.ins a.C_Quick dx (uc (.int h0))):=hp
   refine ⟨_,(yi (vz (ve (yca T) (hr.mono (by decide)) rfl T.y_q10.m T.y_q10.F.kp T.y_q10.B .nil v6 (yb (pv 1) yd (ya rfl)))) (yi (wj (yz uj (pv 1) yg (vq _)) (yf (yy (i:=2) ym0.nd rfl (Or.inl rfl) (yo wu (yw (pv 0) rfl) (yo wa (yo ux (v9 rfl T.c_ONE) (yw (pv 0) rfl)) yg)))) (yf (yy (i:=2) ym0.nd rfl (Or.inl rfl) (yo ux (yw (pv 0) rfl) (yo wa (yw (pv 0) rfl) yg))))) (yf (v7 (pv 0) (yt (yfb rfl) rfl T.z_min (by decide +kernel) (yb (yt (yet rfl) rfl T.z_max (by decide +kernel) (yb (pv 2) (yb (v9 rfl T.c_LEAST) yd (ya rfl)) (ya rfl))) (yb (yo ux (v9 rfl T.c_ONE) (v9 rfl T.c_LEAST)) yd (ya rfl)) (ya rfl))) rfl)))),?_⟩
   try dsimp only [wk]
   refine yn (σ':=[some _,some _,none]) rfl ?_
   walk_at "rd"
   refine ⟨x,nm,rfl,ty,fun hx=>?_,k2⟩
   obtain ⟨b,rfl,b0,b1⟩:=yie hx
   have k:=k1 b rfl b0 b1
   unfold Slt.see at k
   dsimp only at k
   walk_at "rd"
   refine zn (fun hb=>?_) (fun hb=>?_)
   ·rw [if_pos hb] at k
    walk_at "rd"
    refine ⟨_,_,rfl,?_⟩
    walk_at "rd"
    refine ⟨_,_,rfl,?_⟩
    walk_at "rd"
    exact k _ yc But.upd
   ·rw [if_neg hb] at k
    walk_at "rd"
    refine ⟨_,_,rfl,?_⟩
    walk_at "rd"
    refine ⟨_,_,rfl,?_⟩
    walk_at "rd"
    exact k _ yc But.upd
  | ev _ _=>exact hg.elim
  | rn _ _=>exact hg.elim
theorem yy6:ym ["self"] ["self"] (yj yt3):=⟨rfl,rfl,rfl,by decide +kernel,rfl,by decide +kernel,by decide +kernel⟩
theorem ywq (T:Txt K mg a):wv P w K mg base CX0 1 a.f_q20 a.d_q20 ["self"] (ydu a.C_Run (zl (.int 1) (.int 0))):=by
 refine T.y_q20.F.ok yy6 (fun vs H Q E h=>?_) (fun cdv A outer s H vs Q E hr h=>?_)
 ·obtain ⟨p,dx,rfl,_⟩:=h
  rfl
 ·obtain ⟨p,dx,rfl,hp,k⟩:=h
  refine ⟨_,(yi (v7 (pv 0) yg rfl) (yf (v7 (pv 0) yg rfl))),?_⟩
  try dsimp only [wk]
  refine yn (σ':=[some _]) rfl ?_
  walk_at "rd"
  exact k _ yc (But.upd.trans But.upd)
theorem ypw:ym ["self","given"] ["self"] (yj yu5):=⟨rfl,rfl,rfl,by decide +kernel,rfl,by decide +kernel,by decide +kernel⟩
theorem yzi (T:Txt K mg a):wv P w K mg base CX0 1 a.f_q21 a.d_q21 ["self"] (ul (oS a) vbb):=by
 refine T.y_q21.F.ok ypw (fun vs H Q E h=>?_) (fun cdv A outer s H vs Q E hr h=>?_)
 ·obtain ⟨p,dx,s,rfl,_⟩:=h
  rfl
 ·obtain ⟨p,dx,s',rfl,hg,hs,hp,k⟩:=h
  cases s' with
  | rn l n =>
   obtain ⟨h1,h2,h3,h4⟩:=hs
   have hp:H p=some (.ins a.C_Run dx (zl (.int l) (.int n))):=hp
   refine ⟨_,(yi (yy (i:=1) ypw.nd rfl (Or.inl rfl) (yo wa (yo w8 (yo wu (yo w8 yg (yw (pv 0) rfl)) yg) (v9 rfl T.c_ONE)) (yo wu (yo w8 yg (yw (pv 0) rfl)) yg))) (yf (yv (yak (yz uj (yw (pv 0) rfl) yg (vq _)) (pv 1) (yo ux (v9 rfl T.c_ONE) (pv 1)))))),?_⟩
   try dsimp only [wk]
   refine yn (σ':=[some _,none]) rfl ?_
   walk_at "rd"
   have k:Q (.int (if l=1 then ya4 n else 16777216 - ya4 n)) H:=k
   refine zn (fun hb=>?_) (fun hb=>?_)
   ·rw [if_pos hb] at k
    walk_at "rd"
    exact k
   ·rw [if_neg hb] at k
    walk_at "rd"
    exact k
  | ev _ _=>exact hg.elim
  | qk _=>exact hg.elim
theorem ywl:ym ["self","bit"] ["self","bit"] (yj yvt):=⟨rfl,rfl,rfl,by decide +kernel,rfl,by decide +kernel,by decide +kernel⟩
theorem yxd (T:Txt K mg a):wv P w K mg base (CXe P w) 4 a.f_q22 a.d_q22 ["self","bit"] (jm K (oS a) vbb a.C_NB):=by
 refine T.y_q22.F.okE ywl (fun vs H Q E h=>?_) (fun cdv A outer s H vs Q E hr h=>?_)
 ·obtain ⟨p,dx,s,x,n,rfl,_⟩:=h
  rfl
 ·obtain ⟨p,dx,s',x,nm,rfl,hg,hs,hp,ty,k1,k2⟩:=h
  cases s' with
  | rn l n =>
   obtain ⟨h1,h2,h3,h4⟩:=hs
   have hp:H p=some (.ins a.C_Run dx (zl (.int l) (.int n))):=hp
   refine ⟨_,(yi (vz (ve (yca T) (hr.mono (by decide)) rfl T.y_q10.m T.y_q10.F.kp T.y_q10.B .nil v6 (yb (pv 1) yd (ya rfl)))) (yf (wj (yz uj (pv 1) (yw (pv 0) rfl) (vq _)) (yf (v7 (pv 0) (yt (yfb rfl) rfl T.z_min (by decide +kernel) (yb (yo wu (yw (pv 0) rfl) yg) (yb (v9 rfl T.c_MOST_COUNTED) yd (ya rfl)) (ya rfl))) rfl)) (yi (v7 (pv 0) (pv 1) rfl) (yf (v7 (pv 0) yg rfl)))))),?_⟩
   try dsimp only [wk]
   refine yn (σ':=[some _,some _]) rfl ?_
   walk_at "rd"
   refine ⟨x,nm,rfl,ty,fun hx=>?_,k2⟩
   obtain ⟨b,rfl,b0,b1⟩:=yie hx
   have k:=k1 b rfl b0 b1
   unfold Slt.see at k
   dsimp only at k
   walk_at "rd"
   refine zn (fun hb=>?_) (fun hb=>?_)
   ·rw [if_pos hb] at k
    walk_at "rd"
    refine ⟨_,_,rfl,?_⟩
    walk_at "rd"
    exact k _ yc But.upd
   ·rw [if_neg hb] at k
    walk_at "rd"
    exact k _ yc (But.upd.trans But.upd)
  | ev _ _=>exact hg.elim
  | qk _=>exact hg.elim
theorem ywh:ym ["kind"] ["kind"] (yj yuu):=⟨rfl,rfl,rfl,by decide +kernel,rfl,by decide +kernel,by decide +kernel⟩
def yjc (a:Ads):Sp:=fun vs H Q _=>∃ k:Fin 3,vs=[.str (kdS k)]/\∀ p dx H',H p=none->H' p=some (oS a dx (kd0 k))->vi H H'->Q (.ref p) H'
theorem yzw (T:Txt K mg a):wv P w K mg base CX0 3 a.f_q23 a.d_q23 ["kind"] (yjc a):=by
 refine T.y_q23.F.ok ywh (fun vs H Q E h=>?_) (fun cdv A outer s H vs Q E hr h=>?_)
 ·obtain ⟨k,rfl,_⟩:=h
  rfl
 ·obtain ⟨kk,rfl,k⟩:=h
  refine ⟨_,(yi (wj (yz uj (pv 0) vo (vq _)) (yf (yv (yaj T.k_Even (yy4 T) (hr.mono (by decide)) rfl T.m_Even T.y_q14.B .nil vv))) vf) (yi (wj (yz uj (pv 0) vo (vq _)) (yf (yv (yaj T.k_Quick (ywd T) (hr.mono (by decide)) rfl T.m_Quick T.y_q17.B .nil vv))) vf) (yi (wj (yz uj (pv 0) vo (vq _)) (yf (yv (yaj T.k_Run (ywq T) (hr.mono (by decide)) rfl T.m_Run T.y_q20.B .nil vv))) vf) (yf ynt)))),?_⟩
  try dsimp only [wk]
  refine yn (σ':=[some _]) rfl ?_
  walk_at "rd"
  refine ⟨rfl,?_⟩
  match kk with
  | 0 =>
   refine ⟨_,rfl,yd7 rfl ?_⟩
   walk_at "rd"
   intro p dx np ndx ne
   refine ⟨p,dx,rfl,yc,fun H1 hp1 B1=>⟨rfl,?_⟩⟩
   exact k p dx H1 np hp1 fun b o e=>B1 b o (by rw [yp (ye e np),yp (ye e ndx)]; exact e) (ye e np)
  | 1 =>
   refine ⟨_,rfl,yck (by intro z; injection z with z; revert z; decide +kernel) ?_⟩
   walk_at "rd"
   refine ⟨rfl,?_⟩
   refine ⟨_,rfl,yd7 rfl ?_⟩
   walk_at "rd"
   intro p dx np ndx ne
   refine ⟨p,dx,rfl,yc,fun H1 hp1 B1=>⟨rfl,?_⟩⟩
   exact k p dx H1 np hp1 fun b o e=>B1 b o (by rw [yp (ye e np),yp (ye e ndx)]; exact e) (ye e np)
  | 2 =>
   refine ⟨_,rfl,yck (by intro z; injection z with z; revert z; decide +kernel) ?_⟩
   walk_at "rd"
   refine ⟨rfl,?_⟩
   refine ⟨_,rfl,yck (by intro z; injection z with z; revert z; decide +kernel) ?_⟩
   walk_at "rd"
   refine ⟨rfl,?_⟩
   refine ⟨_,rfl,yd7 rfl ?_⟩
   walk_at "rd"
   intro p dx np ndx ne
   refine ⟨p,dx,rfl,yc,fun H1 hp1 B1=>⟨rfl,?_⟩⟩
   exact k p dx H1 np hp1 fun b o e=>B1 b o (by rw [yp (ye e np),yp (ye e ndx)]; exact e) (ye e np)
theorem yws:ym ["thing"] ["thing"] (yj yub):=⟨rfl,rfl,rfl,by decide +kernel,rfl,by decide +kernel,by decide +kernel⟩
def yjt (K:W.Frag):Sp:=fun vs H Q _=>∃ x n,vs=[x]/\xw K H x (.type n)/\Q (.bl (yhe x)) H
theorem yzv (T:Txt K mg a):wv P w K mg base CX0 1 a.f_q24 a.d_q24 ["thing"] (yjt K):=by
 refine T.y_q24.F.ok yws (fun vs H Q E h=>?_) (fun cdv A outer s H vs Q E hr h=>?_)
 ·obtain ⟨x,n,rfl,_⟩:=h
  rfl
 ·obtain ⟨x,n,rfl,ty,k⟩:=h
  refine ⟨_,(yf (yv (ji (yt wg rfl T.z_isinstance (by decide +kernel) (yb (pv 0) (yb (zj (T:="str") rfl T.z_str (by decide +kernel)) yd (ya rfl)) (ya rfl))) (ya6 (yaz yku (pv 0) (w5 rfl T.m_KINDS) (by with_unfolding_all rfl)))))),?_⟩
  try dsimp only [wk]
  refine yn (σ':=[some _]) rfl ?_
  walk_at "rd"
  refine ya0 ty (you ty) ?_
  walk_at "rd"
  by_cases hn:n="str"
  ·obtain ⟨s',rfl⟩:∃ s',x=.str s':=by
    cases ty with
    | str s'=>exact ⟨s',rfl⟩
    | _=>exact absurd hn (by decide)
   rw [decide_eq_true hn]
   refine ypd ?_
   walk_at "rd"
   exact ⟨a.W_KINDS,_,rfl,.inr (T.w_KINDS H),rfl,rfl,k⟩
  ·have e:yhe x=false:=by
    cases ty with
    | str s'=>exact absurd rfl hn
    | _=>rfl
   rw [decide_eq_false hn]
   rw [e] at k
   exact ynl k
theorem yz6:ym ["thing"] ["thing"] (yj yu1):=⟨rfl,rfl,rfl,by decide +kernel,rfl,by decide +kernel,by decide +kernel⟩
def ygg (K:W.Frag):Sp:=fun vs H Q _=>∃ x n,vs=[x]/\xw K H x (.type n)/\Q (.bl (plV x)) H
theorem yxj (T:Txt K mg a):wv P w K mg base CX0 2 a.f_q25 a.d_q25 ["thing"] (ygg K):=by
 refine T.y_q25.F.ok yz6 (fun vs H Q E h=>?_) (fun cdv A outer s H vs Q E hr h=>?_)
 ·obtain ⟨x,n,rfl,_⟩:=h
  rfl
 ·obtain ⟨x,n,rfl,ty,k⟩:=h
  refine ⟨_,(yf (yv (ji (vg (ync T) (hr.mono (by decide)) rfl T.y_q1.m T.y_q1.F.kp T.y_q1.B .nil vv (yb (pv 0) yd (ya rfl))) (ya6 (ybh jj jj yg (pv 0) (v9 rfl T.c_FARTHEST)))))),?_⟩
  try dsimp only [wk]
  refine yn (σ':=[some _]) rfl ?_
  walk_at "rd"
  refine ⟨x,n,rfl,ty,?_⟩
  walk_at "rd"
  cases hx:yao x with
  | false =>
   have e:plV x=false:=by
    cases x <;> first | rfl | cases hx
   rw [e] at k
   exact ynl k
  | true =>
   obtain ⟨i,rfl⟩:=zh hx
   refine ypd ?_
   walk_at "rd"
   refine zn (fun h0=>?_) (fun h0=>?_)
   ·walk_at "rd"
    have e:plV (.int i)=decide (i <= 8):=by simp [plV,h0]
    rw [e] at k
    exact k
   ·have e:plV (.int i)=false:=by simp [plV,h0]
    rw [e] at k
    exact k
theorem vab:ym ["thing"] ["thing"] (yj yuo):=⟨rfl,rfl,rfl,by decide +kernel,rfl,by decide +kernel,by decide +kernel⟩
def ydm (K:W.Frag):Sp:=fun vs H Q _=>∃ x b,vs=[x]/\PlB K H x b/\∀ H',vi H H'->Q (.bl b) H'
theorem yx4 (T:Txt K mg a):wv P w K mg base CX0 3 a.f_q26 a.d_q26 ["thing"] (ydm K):=by
 refine T.y_q26.F.ok vab (fun vs H Q E h=>?_) (fun cdv A outer s H vs Q E hr h=>?_)
 ·obtain ⟨x,b,rfl,_⟩:=h
  rfl
 ·obtain ⟨x,b,rfl,hb,k⟩:=h
  refine ⟨_,(yi (wj (PW.pt (yfp (ud (xr (yt wg rfl T.z_isinstance (by decide +kernel) (yb (pv 0) (yb (zj (T:="tuple") rfl T.z_tuple (by decide +kernel)) yd (ya rfl)) (ya rfl))))) (yfp (yz yu3 (yt vn rfl T.z_len (by decide +kernel) (yb (pv 0) yd (ya rfl))) (v9 rfl T.c_MOST_PLACES) (vq _)) (yfh (ud (xr (yt (yaf rfl) rfl T.z_all (by decide +kernel) (yb (j4 rfl (yik (pv 0)) (fun C s2 H2 fp=>(vg (yxj T) (hr.mono (by decide)) rfl T.y_q25.m T.y_q25.F.kp T.y_q25.B .nil vv (yb (pv 0) yd (ya rfl))))) yd (ya rfl))))))))) (yf (yv yd6)) vf) (yf (yv (yt (yaf rfl) rfl T.z_all (by decide +kernel) (yb (yhm (js:=[]) (ys:=[]) (xs:=["near","far"]) (g:=yv5 K 2 (ju (xk 0) (ju (xk 1) ypc))) rfl (yrv rfl T.z_zip (yb (pv 0) (yb (ybm (ywa.or yta) (pv 0) (yd0 yg) yd1) yd (ya rfl)) (ya rfl))) (fun C s2 H2 fp=>(yaz yfr (pv 0) (pv 1) (vq _))) rfl (fun C s2 H2 fp=>ym6 rfl (jr (ub (i:=0) (show List.Nodup ((["near","far"]:List Str)++([]:List Str)) by decide +kernel) rfl (Or.inl rfl)) (jr (ub (i:=1) (show List.Nodup ((["near","far"]:List Str)++([]:List Str)) by decide +kernel) rfl (Or.inl rfl)) ygu))) rfl (hyc:=vj) (hrel:=vj)) yd (ya rfl)))))),?_⟩
  try dsimp only [wk]
  refine yn (σ':=[some _]) rfl ?_
  rcases hb with ⟨n,ty,hn,rfl⟩ | ⟨t,xs,rfl,ht,hl,hy,rfl⟩
  ·walk_at "rd"
   refine ya0 ty (ybi ty) ?_
   walk_at "rd"
   refine yu9 hn ?_
   walk_at "rd"
   exact k _ (vi.refl _)
  ·walk_at "rd"
   refine ya0 (.tup ht) (ybi (.tup ht)) ?_
   walk_at "rd"
   refine yt2 rfl ?_
   walk_at "rd"
   refine yqe (SqT.of ht) ?_
   walk_at "rd"
   unfold zu at k
   refine zn (fun h4=>?_) (fun h4=>?_)
   ·rw [decide_eq_false (by omega),Bool.false_and,Bool.false_and] at k
    walk_at "rd"
    exact k _ (vi.refl _)
   ·rw [decide_eq_true (by omega),Bool.true_and] at k
    walk_at "rd"
    refine ⟨t,rfl,⟨_,SqT.of ht⟩,fun D hD=>?_⟩
    refine yk7 (xs:=xs) (fun v=>.bl (plV v)) (SqT.of ht) hD (fun i y H2 hy2 S2 hD2=>?_) (fun H2 S2 hD2=>?_)
    ·obtain ⟨n,tyy⟩:=hy y (List.mem_of_getElem? hy2)
     walk_at "rd"
     refine ⟨y,n,rfl,xv S2 tyy,?_⟩
     exact Mp.done hD (wq (by omega)) hy2 S2 hD2 rfl
    have e:xs.map (fun v=>V.bl (plV v))=(xs.map plV).map V.bl:=by rw [List.map_map]; rfl
    rw [e] at hD2
    walk_at "rd"
    refine ⟨D,_,rfl,SqL.of hD2,?_⟩
    rw [List.all_map]
    have ea:xs.all (id ∘ plV)=xs.all plV:=rfl
    rw [ea]
    have ht2:=S2 _ _ ht
    cases hp:xs.all plV with
    | false =>
     rw [hp,Bool.false_and] at k
     walk_at "rd"
     exact k _ S2
    | true =>
     rw [hp,Bool.true_and] at k
     have hint:∀ y∈xs,∃ i:Int,y=.int i:=fun y hm=>by
      have:=List.all_eq_true.mp hp y hm
      cases y with
      | int i=>exact ⟨i,rfl⟩
      | _=>cases this
     walk_at "rd"
     by_cases hx0:xs=[]
     ·refine .inr ⟨t,xs,rfl,SqT.of ht2,?_,?_⟩
      ·subst hx0
       exact ⟨rfl,rfl⟩
      ·refine ⟨t,t,rfl,⟨_,_,SqT.of ht2,SqT.of ht2⟩,fun D2 hD2'=>?_⟩
       refine yl8 (xs:=xs) hint (by omega) (SqT.of ht2) (by subst hx0; exact SqT.of ht2) hD2' (fun i j σ' H' Q' h=>?_) (fun H4 S4 hD4=>?_)
       ·walk_at "rd"
        exact h
       ·walk_at "rd"
        exact ⟨D2,_,rfl,SqL.of hD4,k _ (S2.trans S4)⟩
     ·refine .inl ⟨t,xs,rfl,SqT.of ht2,?_,fun u hu=>?_⟩
      ·rintro ⟨z,_⟩
       have e1:HT.sIx xs.length 0 (some 1)=min 1 xs.length:=by
        have:=HT.sIx_nat xs.length 0 1
        simpa using this
       rw [e1] at z
       cases xs with
       | nil=>exact hx0 rfl
       | cons x r=>simp at z
      ·rw [yr9]
       have S3:=vh (o:=(HO.tup xs.tail)) hu
       have hu3:upd H2 u (HO.tup xs.tail) u=some (HO.tup xs.tail):=yc
       generalize upd H2 u (HO.tup xs.tail)=H3 at S3 hu3 ⊢
       refine ⟨t,u,rfl,⟨_,_,SqT.of (S3 _ _ ht2),SqT.of hu3⟩,fun D2 hD2'=>?_⟩
       refine yl8 (xs:=xs) hint (by omega) (SqT.of (S3 _ _ ht2)) (SqT.of hu3) hD2' (fun i j σ' H' Q' h=>?_) (fun H4 S4 hD4=>?_)
       ·walk_at "rd"
        exact h
       ·walk_at "rd"
        exact ⟨D2,_,rfl,SqL.of hD4,k _ (S2.trans (S3.trans S4))⟩
theorem ywu:ym ["thing"] ["thing"] (yj yvu):=⟨rfl,rfl,rfl,by decide +kernel,rfl,by decide +kernel,by decide +kernel⟩
def yjb (K:W.Frag):Sp:=fun vs H Q _=>∃ x b,vs=[x]/\LkB K H x b/\∀ H',vi H H'->Q (.bl b) H'
theorem yre (T:Txt K mg a):wv P w K mg base CX0 4 a.f_q27 a.d_q27 ["thing"] (yjb K):=by
 refine T.y_q27.F.ok ywu (fun vs H Q E h=>?_) (fun cdv A outer s H vs Q E hr h=>?_)
 ·obtain ⟨x,b,rfl,_⟩:=h
  rfl
 ·obtain ⟨x,b,rfl,hb,k⟩:=h
  refine ⟨_,(yf (yv (ji (yt wg rfl T.z_isinstance (by decide +kernel) (yb (pv 0) (yb (zj (T:="tuple") rfl T.z_tuple (by decide +kernel)) yd (ya rfl)) (ya rfl))) (ji (yaz uj (yt vn rfl T.z_len (by decide +kernel) (yb (pv 0) yd (ya rfl))) yg (vq _)) (ji (vg (yzv T) (hr.mono (by decide)) rfl T.y_q24.m T.y_q24.F.kp T.y_q24.B .nil vv (yb (zd ycw (pv 0) yg (fun _ _=>rfl)) yd (ya rfl))) (ya6 (vg (yx4 T) (hr.mono (by decide)) rfl T.y_q26.m T.y_q26.F.kp T.y_q26.B .nil vv (yb (zd ycw (pv 0) yg (fun _ _=>rfl)) yd (ya rfl))))))))),?_⟩
  try dsimp only [wk]
  refine yn (σ':=[some _]) rfl ?_
  rcases hb with ⟨n,ty,hn,rfl⟩ | ⟨t,xs,rfl,ht,hb⟩
  ·walk_at "rd"
   refine ya0 ty (ybi ty) ?_
   walk_at "rd"
   rw [decide_eq_false hn]
   exact ynl (k _ (vi.refl _))
  ·walk_at "rd"
   refine ya0 (.tup ht) (ybi (.tup ht)) ?_
   walk_at "rd"
   refine yd7 rfl ?_
   walk_at "rd"
   refine yqe (SqT.of ht) ?_
   walk_at "rd"
   rcases hb with ⟨h2,rfl⟩ | ⟨y,z,n,rfl,ty,hb⟩
   ·rw [decide_eq_false (show ¬ ((xs.length:Int)=2) by omega)]
    exact ynl (k _ (vi.refl _))
   ·refine yd7 rfl ?_
    walk_at "rd"
    refine yj1 (SqT.of ht) (uf (j:=0) rfl) ?_
    walk_at "rd"
    refine ⟨y,n,rfl,ty,?_⟩
    rcases hb with ⟨hk,rfl⟩ | ⟨hk,hp⟩
    ·rw [hk]
     walk_at "rd"
     exact k _ (vi.refl _)
    ·rw [hk]
     walk_at "rd"
     refine yj1 (SqT.of ht) (uf (j:=1) rfl) ?_
     walk_at "rd"
     exact ⟨z,b,rfl,hp,k⟩
theorem yx8:ym ["thing"] ["thing"] (yj yum):=⟨rfl,rfl,rfl,by decide +kernel,rfl,by decide +kernel,by decide +kernel⟩
def yko (K:W.Frag) (C:Addr):Sp:=fun vs H Q E=>(∃ x n,vs=[x]/\xw K H x (.type n)/\n≠"list"/\E (.ref C) none H) \/
 ∃ (l:Addr) (xs:List V) (bs:List Bool),vs=[.ref l]/\H l=some (.lst xs)/\xs.length <= 1000/\yhh K H xs bs /\
  ((1 <= xs.length/\xs.length <= 6/\bs.all id=true)->∀ r H',H r=none->H' r=some (.lst xs)->vi H H'->Q (.ref r) H') /\
  (¬ (1 <= xs.length/\xs.length <= 6/\bs.all id=true)->∀ H',vi H H'->E (.ref C) none H')
theorem yza (T:Txt K mg a):wv P w K mg base (CXe P w) 5 a.f_q28 a.d_q28 ["thing"] (yko K a.C_NL):=by
 refine T.y_q28.F.okE yx8 (fun vs H Q E h=>?_) (fun cdv A outer s H vs Q E hr h=>?_)
 ·rcases h with ⟨x,n,rfl,_⟩ | ⟨l,xs,f,rfl,_⟩
  ·rfl
  ·rfl
 ·rcases h with ⟨x,n,rfl,ty,hn,k⟩ | ⟨l,xs,bs,rfl,hl,hz,hy,k1,k2⟩
  ·refine ⟨_,(yi (wj (PW.pt (yfp (ud (xr (yt wg rfl T.z_isinstance (by decide +kernel) (yb (pv 0) (yb (zj (T:="list") rfl T.z_list (by decide +kernel)) yd (ya rfl)) (ya rfl))))) (yfp (ud (ydt jj jj yg (yt vn rfl T.z_len (by decide +kernel) (yb (pv 0) yd (ya rfl))) (v9 rfl T.c_MOST_LOOKS))) (yfh (ud (xr (yt (yaf rfl) rfl T.z_all (by decide +kernel) (yb (j4 rfl (xc (pv 0)) (fun C s2 H2 fp=>(vg (yre T) (hr.mono (by decide)) rfl T.y_q27.m T.y_q27.F.kp T.y_q27.B .nil vv (yb (pv 0) yd (ya rfl))))) yd (ya rfl))))))))) (yf (xg rfl T.m_NL T.r_NL (yb vo yd (ya rfl)))) vf) (yf (yv (zi uv rfl T.z_list (by decide +kernel) (yb (pv 0) yd (ya rfl)))))),?_⟩
   refine yn (σ':=[some _]) rfl ?_
   walk_at "rd"
   refine ya0 ty (ydw ty) ?_
   walk_at "rd"
   refine yu9 hn ?_
   walk_at "rd"
   exact ⟨by walk_at "len",k⟩
  ·refine ⟨_,(yi (wj (PW.pt (yfp (ud (xr (yt wg rfl T.z_isinstance (by decide +kernel) (yb (pv 0) (yb (zj (T:="list") rfl T.z_list (by decide +kernel)) yd (ya rfl)) (ya rfl))))) (yfp (ud (ydt jj jj yg (yt vn rfl T.z_len (by decide +kernel) (yb (pv 0) yd (ya rfl))) (v9 rfl T.c_MOST_LOOKS))) (yfh (ud (xr (yt (yaf rfl) rfl T.z_all (by decide +kernel) (yb (j4 rfl (xc (pv 0)) (fun C s2 H2 fp=>(vg (yre T) (hr.mono (by decide)) rfl T.y_q27.m T.y_q27.F.kp T.y_q27.B .nil vv (yb (pv 0) yd (ya rfl))))) yd (ya rfl))))))))) (yf (xg rfl T.m_NL T.r_NL (yb vo yd (ya rfl)))) vf) (yf (yv (zi uv rfl T.z_list (by decide +kernel) (yb (pv 0) yd (ya rfl)))))),?_⟩
   refine yn (σ':=[some _]) rfl ?_
   walk_at "rd"
   refine ya0 (.lst hl) (ydw (.lst hl)) ?_
   walk_at "rd"
   refine yt2 rfl ?_
   walk_at "rd"
   refine yap (SqL.of hl) ?_
   walk_at "rd"
   refine zn (fun h1=>?_) (fun h1=>?_)
   ·walk_at "rd"
    refine vdu (fun h6=>?_) (fun h6=>?_)
    ·walk_at "rd"
     refine ⟨l,rfl,⟨_,SqL.of hl⟩,fun D hD=>?_⟩
     refine uo (K:=K) (xs:=xs) (Mp H D (fun i=>V.bl ((bs[i]?).getD false))) (Mp.zero hD) (fun _ _ _ p=>p.1.seq (SqL.of hl)) (fun i y H2 hy2 hi p=>?_) (fun H2 p=>?_)
     ·obtain ⟨S2,hD2⟩:=p
      have hib:i < bs.length:=by rw [<- hy.1]; exact hi
      walk_at "rd"
      refine ⟨y,bs[i],rfl,(hy.2 i y _ hy2 (List.getElem?_eq_getElem hib)).same S2,fun H3 S3=>?_⟩
      refine Mp.doneR hD (wq (by omega)) hi (S2.trans S3) (S3 _ _ hD2) ?_
      rw [List.getElem?_eq_getElem hib]
      rfl
     obtain ⟨S2,hD2⟩:=p
     rw [yov bs hy.1] at hD2
     walk_at "rd"
     refine ⟨D,_,rfl,SqL.of hD2,?_⟩
     have hl2:=S2 _ _ hl
     cases hp:bs.all id with
     | false =>
      walk_at "rd"
      exact ⟨by walk_at "len",k2 (by rw [hp]; rintro ⟨_,_,z⟩; cases z) _ S2⟩
     | true =>
      walk_at "rd"
      refine ynq (SqL.of hl2) fun r hr0=>?_
      exact k1 ⟨by omega,by omega,hp⟩ r _ (S2.free hr0) yc (S2.trans (vh hr0))
    ·walk_at "rd"
     exact ⟨by walk_at "len",k2 (by omega) _ (vi.refl _)⟩
   ·walk_at "rd"
    exact ⟨by walk_at "len",k2 (by omega) _ (vi.refl _)⟩
theorem yww:ym ["signs","place"] ["signs","place"] (yj yvc):=⟨rfl,rfl,rfl,by decide +kernel,rfl,by decide +kernel,by decide +kernel⟩
def yop (K:W.Frag):Sp:=fun vs H Q _=>∃ (l:Addr) (sg:List Int) (p:Int),vs=[.ref l,.int p]/\SqL K H l (sg.map V.int)/\1 <= p/\Q (.int (yri sg p)) H
theorem yxt (T:Txt K mg a):wv P w K mg base CX0 1 a.f_q29 a.d_q29 ["signs","place"] (yop K):=by
 refine T.y_q29.F.ok yww (fun vs H Q E h=>?_) (fun cdv A outer s H vs Q E hr h=>?_)
 ·obtain ⟨l,sg,p,rfl,_⟩:=h
  rfl
 ·obtain ⟨l,sg,p,rfl,hl,hp,k⟩:=h
  refine ⟨_,(yf (yv (yak (yz jj (pv 1) (yt vn rfl T.z_len (by decide +kernel) (yb (pv 0) yd (ya rfl))) (vq _)) (zd xq (pv 0) (vcp yzp (pv 1)) (fun _ _=>rfl)) (v9 rfl T.c_NO_SIGN)))),?_⟩
  try dsimp only [wk]
  refine yn (σ':=[some _,some _]) rfl ?_
  walk_at "rd"
  refine yap hl ?_
  rw [List.length_map]
  walk_at "rd"
  unfold yri at k
  refine zn (fun hb=>?_) (fun hb=>?_)
  ·rw [if_pos hb] at k
   obtain ⟨c,hc,_⟩:=ynn hp hb
   rw [hc] at k
   walk_at "rd"
   exact j6 hl (by rw [yse,hc]; rfl) k
  ·rw [if_neg hb] at k
   walk_at "rd"
   exact k
theorem ywc:ym ["look","signs","node"] ["look","signs","node"] (yj yvs):=⟨rfl,rfl,rfl,by decide +kernel,rfl,by decide +kernel,by decide +kernel⟩
def zz (K:W.Frag) (H:Hp) (k:Addr) (x:V) (ps:List Int):Prop:=∃ t,SqT K H k [x,.ref t]/\SqT K H t (ps.map V.int)/\(∀ p∈ps,1 <= p/\p <= 8)/\ps.length <= 4
theorem zz.same {K:W.Frag} {H H':Hp} {k:Addr} {x:V} {ps:List Int} (S:vi H H') (h:zz K H k x ps):zz K H' k x ps:=by
 obtain ⟨t,h1,h2,h3,h4⟩:=h
 exact ⟨t,S.tup h1,S.tup h2,h3,h4⟩
def ctx (ps sg:List Int) (nd:Int):List Int:=ps.map (yri sg)++[nd]
def bkV (sg:List Int):V->V
 | .int p=>.int (yri sg p)
 | _=>.non
theorem ysm (sg ps:List Int):(ps.map V.int).map (bkV sg)=(ps.map (yri sg)).map V.int:=by
 rw [List.map_map,List.map_map]
 rfl
def yjp (K:W.Frag):Sp:=fun vs H Q _=>∃ (k l:Addr) (x:V) (ps sg:List Int) (nd:Int),vs=[.ref k,.ref l,.int nd]/\zz K H k x ps/\SqL K H l (sg.map V.int) /\
 ∀ r H',H r=none->H' r=some (.tup ((ctx ps sg nd).map V.int))->vi H H'->Q (.ref r) H'
theorem yw9 (T:Txt K mg a):wv P w K mg base CX0 2 a.f_q30 a.d_q30 ["look","signs","node"] (yjp K):=by
 refine T.y_q30.F.ok ywc (fun vs H Q E h=>?_) (fun cdv A outer s H vs Q E hr h=>?_)
 ·obtain ⟨k,l,x,ps,sg,nd,rfl,_⟩:=h
  rfl
 ·obtain ⟨ka,l,x,ps,sg,nd,rfl,⟨t,hk,ht,hps,hpl⟩,hl,k⟩:=h
  refine ⟨_,(yf (yv (zi yaa rfl T.z_tuple (by decide +kernel) (yb (yo ycv (jn (js:=[1]) (ys:=["signs"]) rfl (yik (zd ycw (pv 0) yg (fun _ _=>rfl))) (fun C s2 H2 fp=>(vg (yxt T) (hr.mono (by decide)) rfl T.y_q29.m T.y_q29.F.kp T.y_q29.B .nil vv (yb (pv 1) (yb (pv 0) yd (ya rfl)) (ya rfl)))) rfl rfl (hyc:=(all_cons rfl vj)) (hrel:=(all_cons rfl vj))) (vk (yb (pv 2) yd (ya rfl)))) yd (ya rfl))))),?_⟩
  try dsimp only [wk]
  refine yn (σ':=[some _,some _,some _]) rfl ?_
  walk_at "rd"
  refine yj1 hk (uf (j:=1) rfl) ?_
  refine ⟨t,rfl,⟨_,ht⟩,fun D hD=>?_⟩
  have hpz:(ps.map V.int).length < sizeLine:=wq (by rw [List.length_map]; omega)
  refine ycs (xs:=ps.map V.int) (bkV sg) ht hD (fun i y H2 hy S2 hD2=>?_) (fun H2 S2 hD2=>?_)
  ·obtain ⟨p,rfl,hpm,_,_⟩:=zx hy
   walk_at "rd"
   refine ⟨l,sg,p,rfl,S2.seq hl,(hps p hpm).1,?_⟩
   exact Mp.done hD hpz hy S2 hD2 rfl
  ·rw [ysm] at hD2
   walk_at "rd"
   refine ⟨by walk_at "len",fun n hn=>?_⟩
   with_reducible first | refine yh hn fun H3 S3 hn3=>?_ | refine yk hn fun H3 S3 hn3=>?_
   refine ⟨D,n,_,_,rfl,rfl,S3 _ _ hD2,hn3,ur (by rw [List.length_map,List.length_map]; show _+1 <= _; omega),fun c hc=>?_⟩
   with_reducible first | refine yh hc fun H4 S4 hc4=>?_ | refine yk hc fun H4 S4 hc4=>?_
   refine ⟨c,_,rfl,.inl ⟨SqL.of hc4,fun r hr0=>?_⟩⟩
   have S:=S2.trans (S3.trans S4)
   refine k r _ (S.free hr0) (yc.trans ?_) (S.trans (vh hr0))
   unfold ctx
   rw [List.map_append]
   rfl
theorem yz8:ym ["self","look"] ["self","look"] (yj ytt):=⟨rfl,rfl,rfl,by decide +kernel,rfl,by decide +kernel,by decide +kernel⟩
def yla (a:Ads):Sp:=fun vs H Q _=>∃ (p dx lk:Addr) (kd:Fin 3),vs=[.ref p,.ref lk]/\H p=some (.ins a.C_Book dx [])/\∀ d H',H d=none->ybc a H' p dx lk d kd (fun _=>none) (fun b=>b=d) 0->But p H H'->Q .non H'
theorem yxh (T:Txt K mg a):wv P w K mg base CX0 1 a.f_q31 a.d_q31 ["self","look"] (yla a):=by
 refine T.y_q31.F.ok yz8 (fun vs H Q E h=>?_) (fun cdv A outer s H vs Q E hr h=>?_)
 ·obtain ⟨p,dx,lk,kd,rfl,_⟩:=h
  rfl
 ·obtain ⟨p,dx,lk,kd,rfl,hp,k⟩:=h
  refine ⟨_,(yi (v7 (pv 0) (pv 1) rfl) (yf (v7 (pv 0) yhs rfl))),?_⟩
  try dsimp only [wk]
  refine yn (σ':=[some _,some _]) rfl ?_
  walk_at "rd"
  intro d hd
  have hd0:H d=none:=by
   cases e:H d with
   | none=>rfl
   | some o =>
    by_cases z:d=p
    ·rw [z,yc] at hd; cases hd
    ·rw [yp z,e] at hd; cases hd
  have ndp:d≠p:=fun z=>by rw [z,hp] at hd0; cases hd0
  have hp2:=uq (o':=HO.dT []) hd (show upd H p (HO.ins a.C_Book dx ([("look",V.ref lk)]:List (Str × V))) p=some (HO.ins a.C_Book dx ([("look",V.ref lk)]:List (Str × V))) from yc)
  have hd2:upd (upd H p (HO.ins a.C_Book dx ([("look",V.ref lk)]:List (Str × V)))) d (.dT []) d=some (.dT []):=yc
  have B2:But p H (upd (upd H p (HO.ins a.C_Book dx ([("look",V.ref lk)]:List (Str × V)))) d (.dT [])):=fun b o e n=>by rw [yp (ye e hd0),yp n]; exact e
  generalize upd (upd H p (HO.ins a.C_Book dx ([("look",V.ref lk)]:List (Str × V)))) d (.dT [])=H2 at hp2 hd2 B2 ⊢
  walk_at "rd"
  refine k d _ hd0 ⟨yc,fun b hb=>⟨HO.dT [],by cases hb; exact yq ndp hd2,rfl⟩,fun z=>ndp z.symm,rfl,[],fun _=>(0,0),yq ndp hd2,Nat.le_refl _,fun _ _=>rfl,fun _ _ z=>(nomatch z),fun _ _ _ _ z=>(nomatch z)⟩ (B2.trans But.upd)
theorem yp7:ym ["self","signs","node","context"] ["self","signs","node"] (yj yvj):=⟨rfl,rfl,rfl,by decide +kernel,rfl,by decide +kernel,by decide +kernel⟩
def ylo (K:W.Frag) (a:Ads):Sp:=fun vs H Q _=>∃ (p dx lk d sl:Addr) (kd:Fin 3) (f:List Int->Option Slt) (O:Addr->Prop) (m:Nat) (ps sg:List Int) (nd:Int),vs=[.ref p,.ref sl,.int nd]/\ybc a H p dx lk d kd f O m/\m < 1000000/\zz K H lk (.str (kdS kd)) ps/\SqL K H sl (sg.map V.int) /\
 ∀ (q:Addr) (O':Addr->Prop) (H':Hp),ybc a H' p dx lk d kd (yd8 f (ctx ps sg nd) ((f (ctx ps sg nd)).getD (kd0 kd))) O' (m+1)->(∀ kvs,H' d=some (.dT kvs)->ybd kvs (kI (ctx ps sg nd))=some (.ref q))->(∀ c,O' c->O c\/H c=none)->(∀ c,O c->O' c)->ypg O H H'->Q (.ref q) H'
theorem yz9 (T:Txt K mg a):wv P w K mg base CX0 4 a.f_q32 a.d_q32 ["self","signs","node"] (ylo K a):=by
 refine T.y_q32.F.ok yp7 (fun vs H Q E h=>?_) (fun cdv A outer s H vs Q E hr h=>?_)
 ·obtain ⟨p,dx,lk,d,sl,kd,f,O,m,ps,sg,nd,rfl,_⟩:=h
  rfl
 ·obtain ⟨p,dx,lk,d,sl,kd,f,O,m,ps,sg,nd,rfl,hb,hm,hl,hs,k⟩:=h
  have hme:=hb.me
  refine ⟨_,(yi (yy (i:=3) yp7.nd rfl (Or.inl rfl) (vg (yw9 T) (hr.mono (by decide)) rfl T.y_q30.m T.y_q30.F.kp T.y_q30.B .nil vv (yb (yw (pv 0) rfl) (yb (pv 1) (yb (pv 2) yd (ya rfl)) (ya rfl)) (ya rfl)))) (yi (jx (wj (yyv (yll (yvh hr) (pv 3) (yw (pv 0) rfl))) (yf (yr4 (yvh hr) (yw (pv 0) rfl) (pv 3) (vg (yzw T) (hr.mono (by decide)) rfl T.y_q23.m T.y_q23.F.kp T.y_q23.B .nil vv (yb (zd ycw (yw (pv 0) rfl) yg (fun _ _=>rfl)) yd (ya rfl))) rfl)) vf)) (yf (yv (ysi (yvh hr) (yw (pv 0) rfl) (pv 3) (fun _ _=>rfl)))))),?_⟩
  try dsimp only [wk]
  refine yn (σ':=[some _,some _,some _,none]) rfl ?_
  walk_at "rd"
  refine ⟨lk,sl,_,ps,sg,nd,rfl,hl,hs,fun r H1 hr0 hr1 S1=>?_⟩
  have hr1':H1 r=some (.tup ((kI (ctx ps sg nd)).map kV)):=by rw [yzd]; exact hr1
  generalize ctx ps sg nd=key at hr1' k
  have hb1:=hb.same S1
  have hme1:=hb1.me
  walk_at "rd"
  refine ycj (fun σ' H'=>σ'=[some (.ref p),some (.ref sl),some (.int nd),some (.ref r)]/\∃ O',ybc a H' p dx lk d kd (yd8 f key ((f key).getD (kd0 kd))) O' (m+1)/\(∀ c,O' c->O c\/H c=none)/\(∀ c,O c->O' c)/\ypg O H H'/\H' r=some (.tup ((kI key).map kV))) ?_ ?_
  ·obtain ⟨kvs,loc,h1,h2,h3,h4,h5⟩:=hb1.tb
   walk_at "rd"
   refine ⟨d,_,rfl,yng.t h1 hr1',?_⟩
   cases hf:f key with
   | none =>
    rw [h3 key hf]
    walk_at "rd"
    refine ypd ?_
    walk_at "rd"
    obtain ⟨t,ht1,ht2,_,_⟩:=hl
    refine yj1 (S1.tup ht1) (uf (j:=0) rfl) ?_
    walk_at "rd"
    refine ⟨kd,rfl,fun q dq H2 hq0 hq2 S2=>?_⟩
    walk_at "rd"
    have hme2:=S2 _ _ hme1
    walk_at "rd"
    refine ⟨d,_,rfl,yv6.t (S2 _ _ h1) (S2 _ _ hr1') (wq (by omega)),?_⟩
    have S12:=S1.trans S2
    have nqd:q≠d:=fun z=>by rw [z,h1] at hq0; cases hq0
    have ndp:p≠d:=fun z=>hb1.np (z ▸ hb1.dO)
    walk_at "rd"
    refine ⟨rfl,fun c=>O c\/c=q,⟨yq ndp hme2,fun c hc=>?_,fun z=>?_,.inl hb1.dO,yfu kvs (kI key) (.ref q),fun j=>if j=key then (q,dq) else loc j,yc,?_,fun j hj=>?_,fun j s' hj=>?_,fun j1 j2 s1 s2 e1 e2 el=>?_⟩,fun c hc=>?_,fun c hc=>.inl hc,fun c o e no=>?_,yq (uh (S2 _ _ hr1') (S2 _ _ h1) (by intro z; cases z)) (S2 _ _ hr1')⟩
    ·rcases hc with hc | rfl
     ·obtain ⟨o,ho,hi⟩:=hb1.own c hc
      by_cases z:c=d
      ·rw [z]
       exact ⟨_,yc,rfl⟩
      ·exact ⟨o,yq z (S2 _ _ ho),hi⟩
     ·obtain ⟨C,fs,eo⟩:=yfi a dq (kd0 kd)
      exact ⟨_,yq nqd hq2,by rw [eo]; rfl⟩
    ·rcases z with z | z
     ·exact hb1.np z
     ·rw [z] at hme1
      rw [hme1] at hq0
      cases hq0
    ·rw [yot _ (h3 key hf),List.length_append]
     show _+1 <= m+1
     omega
    ·unfold yd8 at hj
     split at hj
     ·cases hj
     ·rename_i hne
      rw [ydq,if_neg fun z=>hne (yqj z)]
      exact h3 j hj
    ·unfold yd8 at hj
     split at hj
     ·rename_i he
      subst he
      cases hj
      dsimp only
      rw [if_pos rfl,ydq,if_pos rfl]
      exact ⟨rfl,yq nqd hq2,yrf kd,yn0 kd,.inr rfl⟩
     ·rename_i hne
      obtain ⟨q1,q2,q3,q4,q5⟩:=h4 j s' hj
      dsimp only
      rw [if_neg hne,ydq,if_neg fun z=>hne (yqj z)]
      have nd2:(loc j).1≠d:=by
       obtain ⟨C,fs,eo⟩:=yfi a (loc j).2 s'
       rw [eo] at q2
       exact uh q2 h1 (by intro z; cases z)
      exact ⟨q1,yq nd2 (S2 _ _ q2),q3,q4,.inl q5⟩
    ·unfold yd8 at e1 e2
     dsimp only at el
     by_cases z1:j1=key
     ·by_cases z2:j2=key
      ·rw [z1,z2]
      ·rw [if_neg z2] at e2
       rw [if_pos z1,if_neg z2] at el
       obtain ⟨_,q2,_⟩:=h4 j2 s2 e2
       have el:q=(loc j2).1:=el
       rw [<- el,hq0] at q2
       cases q2
     ·rw [if_neg z1] at e1
      by_cases z2:j2=key
      ·rw [if_neg z1,if_pos z2] at el
       obtain ⟨_,q2,_⟩:=h4 j1 s1 e1
       have el:(loc j1).1=q:=el
       rw [el,hq0] at q2
       cases q2
      ·rw [if_neg z2] at e2
       rw [if_neg z1,if_neg z2] at el
       exact h5 j1 j2 s1 s2 e1 e2 el
    ·rcases hc with hc | rfl
     ·exact .inl hc
     ·exact .inr (S1.free hq0)
    ·exact yq (fun z=>no (z ▸ hb1.dO)) (S12 _ _ e)
   | some s' =>
    obtain ⟨q1,q2,q3,q4,q5⟩:=h4 key s' hf
    rw [q1]
    walk_at "rd"
    refine ⟨rfl,O,?_,fun c hc=>.inl hc,fun c hc=>hc,fun c o e _=>S1 _ _ e,hr1'⟩
    have ef:yd8 f key ((some s').getD (kd0 kd))=f:=by
     funext j
     unfold yd8
     split
     ·rename_i z
      rw [z,hf]
      rfl
     ·rfl
    rw [ef]
    exact ⟨hb1.me,hb1.own,hb1.np,hb1.dO,kvs,loc,h1,Nat.le_succ_of_le h2,h3,h4,h5⟩
  ·rintro σ' H2 ⟨rfl,O',hb2,hO,hM,B2,hr2⟩
   have hme2:=hb2.me
   obtain ⟨kvs,loc,h1,h2,h3,h4,h5⟩:=id hb2.tb
   have hk0:yd8 f key ((f key).getD (kd0 kd)) key=some ((f key).getD (kd0 kd)):=by unfold yd8; rw [if_pos rfl]
   obtain ⟨q1,q2,q3,q4,q5⟩:=h4 key _ hk0
   walk_at "rd"
   refine ⟨d,_,rfl,by rw [<- q1]; exact yng.t h1 hr2,?_⟩
   exact k (loc key).1 O' H2 hb2 (fun kvs' e=>by rw [h1] at e; cases e; exact q1) hO hM B2
theorem ywk:ym ["self","many"] ["self","many"] (yj ytu):=⟨rfl,rfl,rfl,by decide +kernel,rfl,by decide +kernel,by decide +kernel⟩
theorem yz7 (T:Txt K mg a):wv P w K mg base CX0 1 a.f_q33 a.d_q33 ["self","many"] (yn7 a):=by
 refine T.y_q33.F.ok ywk (fun vs H Q E h=>?_) (fun cdv A outer s H vs Q E hr h=>?_)
 ·obtain ⟨p,dx,n,rfl,_⟩:=h
  rfl
 ·obtain ⟨p,dx,n,rfl,n1,n6,hp,k⟩:=h
  refine ⟨_,(yf (v7 (pv 0) (yo yip (vk (yb (v9 rfl T.c_FIRST_WEIGHT) yd (ya rfl))) (pv 1)) rfl)),?_⟩
  try dsimp only [wk]
  refine yn (σ':=[some _,some _]) rfl ?_
  walk_at "rd"
  refine ⟨by walk_at "len",fun r hr0=>?_⟩
  with_reducible first | refine yh hr0 fun H1 S1 e1=>?_ | refine yk hr0 fun H1 S1 e1=>?_
  walk_at "rd"
  refine ⟨r,n,_,rfl,rfl,e1,by omega,by omega,ur (by show 1 * (n:Int).toNat <= 16000000; omega),fun l hl=>?_⟩
  rw [yb4]
  with_reducible first | refine yh hl fun H2 S2 e2=>?_ | refine yk hl fun H2 S2 e2=>?_
  have S12:=S1.trans S2
  have hp2:=S12 _ _ hp
  walk_at "rd"
  have npl:l≠p:=fun z=>by rw [z,S1 _ _ hp] at hl; cases hl
  exact k l _ (S1.free hl) ⟨yc,yq npl e2⟩ ((But.of S12).trans But.upd)
theorem yzx:ym ["self","chances"] ["self","chances"] (yj yu4):=⟨rfl,rfl,rfl,by decide +kernel,rfl,by decide +kernel,by decide +kernel⟩
theorem yy1 (T:Txt K mg a):wv P w K mg base CX0 1 a.f_q34 a.d_q34 ["self","chances"] (ykn K a):=by
 refine T.y_q34.F.ok yzx (fun vs H Q E h=>?_) (fun cdv A outer s H vs Q E hr h=>?_)
 ·obtain ⟨p,dx,l,c,ws,cs,n,rfl,_⟩:=h
  rfl
 ·obtain ⟨p,dx,l,c,ws,cs,n,rfl,n1,n6,hw,hc,⟨hp,hl⟩,hq,k⟩:=h
  refine ⟨_,(yf (yv (yo wa (yt (yah rfl) rfl T.z_sum (by decide +kernel) (yb (yhm (js:=[]) (ys:=[]) (xs:=["weight","chance"]) (g:=yv5 K 2 (ju (xk 0) (ju (xk 1) ypc))) rfl (yq0 rfl T.z_zip (yb (yw (pv 0) rfl) (yb (pv 1) yd (ya rfl)) (ya rfl))) (fun C s2 H2 fp=>(yo w8 (pv 0) (pv 1))) rfl (fun C s2 H2 fp=>ym6 rfl (jr (ub (i:=0) (show List.Nodup ((["weight","chance"]:List Str)++([]:List Str)) by decide +kernel) rfl (Or.inl rfl)) (jr (ub (i:=1) (show List.Nodup ((["weight","chance"]:List Str)++([]:List Str)) by decide +kernel) rfl (Or.inl rfl)) ygu))) rfl (hyc:=vj) (hrel:=vj)) yd (ya rfl))) (yt (yah rfl) rfl T.z_sum (by decide +kernel) (yb (yw (pv 0) rfl) yd (ya rfl)))))),?_⟩
  try dsimp only [wk]
  refine yn (σ':=[some _,some _]) rfl ?_
  have hlen:cs.length=ws.length:=by rw [hw.len,hc.len]
  walk_at "rd"
  refine ⟨l,c,rfl,⟨_,_,SqL.of hl,hq⟩,fun D hD=>?_⟩
  refine ycm (fun i=>V.int ((ws[i]?).getD 0 * (cs[i]?).getD 0)) (SqL.of hl) hq (by rw [List.length_map,List.length_map,hlen]) hD (fun i x y H2 tt pre hx hy S2 hD2 htt hpre=>?_) (fun H2 S2 hD2=>?_)
  ·obtain ⟨v1,v2,rfl⟩:=ymr hpre
   obtain ⟨w,rfl,wm,wi,il⟩:=zx hx
   obtain ⟨u,rfl,um,ui,_⟩:=zx hy
   have w1:=hw.one w wm
   have w2:=hw.top w wm
   have S3:=S2.trans (vh (o:=HO.tup [V.int w,V.int u]) htt)
   have hD3:=uq (o':=HO.tup [V.int w,V.int u]) htt hD2
   have ht3:upd H2 tt (HO.tup [V.int w,V.int u]) tt=some (.tup [V.int w,V.int u]):=yc
   generalize upd H2 tt (HO.tup [V.int w,V.int u])=H3 at S3 hD3 ht3
   refine ymy (SqT.of ht3) rfl ?_
   show ju (xk 0) (ju (xk 1) ypc) [V.int w,V.int u] (v1 :: v2 :: wl [] [some (V.ref p),some (V.ref c)]) H3 _
   walk_at "rd"
   refine ⟨⟨[some (.int w),some (.int u)],rfl,rfl⟩,?_⟩
   walk_at "rd"
   refine Mp.doneR hD (wq (by rw [List.length_map,hw.len]; omega)) (by rw [List.length_map]; exact il) S3 hD3 ?_
   rw [wi,ui]
   rfl
  ·have hD2:=yho hD2 (yp3 (g:=fun w c=>w * c) hlen)
   have hp2:=S2 _ _ hp
   have hl2:=S2 _ _ hl
   have p1:=hw.pos n1
   have p2:=hw.small n6
   walk_at "rd"
   refine ⟨D,_,rfl,SqL.of hD2,?_⟩
   walk_at "rd"
   refine ⟨l,_,rfl,SqL.of hl2,?_⟩
   walk_at "rd"
   exact k _ S2
theorem ycy:ym ["self","chances","bit","shares","whole","own","grown","dropped"] ["self","chances","bit"] (yj yuf):=⟨rfl,rfl,rfl,by decide +kernel,rfl,by decide +kernel,by decide +kernel⟩
theorem yyb (T:Txt K mg a):wv P w K mg base (CXe P w) 5 a.f_q35 a.d_q35 ["self","chances","bit"] (yk3 K a a.C_NB):=by
 refine T.y_q35.F.okE ycy (fun vs H Q E h=>?_) (fun cdv A outer s H vs Q E hr h=>?_)
 ·obtain ⟨p,dx,l,c,ws,cs,n,x,m,rfl,_⟩:=h
  rfl
 ·obtain ⟨p,dx,l,c,ws,cs,n,x,m,rfl,n1,n6,hw,hc,⟨hp,hl⟩,hq,ty,k1,k2⟩:=h
  refine yu (vz (ve (yca T) (hr.mono (by decide)) rfl T.y_q10.m T.y_q10.F.kp T.y_q10.B .nil v6 (yb (pv 2) yd (ya rfl)))) ?_
  refine yu (yog (i:=3) (js:=[2]) (ys:=["bit"]) (xs:=["weight","chance"]) (g:=yv5 K 2 (ju (xk 0) (ju (xk 1) ypc))) ycy.nd rfl rfl rfl (yq0 rfl T.z_zip (yb (yw (pv 0) rfl) (yb (pv 1) yd (ya rfl)) (ya rfl))) (fun C s2 H2 fp=>(yo w8 (pv 0) (ve (yyc T) (hr.mono (by decide)) rfl T.y_q11.m T.y_q11.F.kp T.y_q11.B .nil xm (yb (pv 1) (yb (pv 2) yd (ya rfl)) (ya rfl))))) rfl (fun C s2 H2 fp=>ym6 rfl (jr (ub (i:=0) (show List.Nodup ((["weight","chance"]:List Str)++(["bit"]:List Str)) by decide +kernel) rfl (Or.inl rfl)) (jr (ub (i:=1) (show List.Nodup ((["weight","chance"]:List Str)++(["bit"]:List Str)) by decide +kernel) rfl (Or.inl rfl)) ygu))) rfl (hyc:=(all_cons rfl vj)) (hrel:=(all_cons rfl vj))) ?_
  refine yu (yy (i:=4) ycy.nd rfl (Or.inr rfl) (yt (yah rfl) rfl T.z_sum (by decide +kernel) (yb (pv 3) yd (ya rfl)))) ?_
  refine yu (yy (i:=5) ycy.nd rfl (Or.inr rfl) (yo w8 (v9 rfl T.c_OWN_PARTS) (yt vn rfl T.z_len (by decide +kernel) (yb (pv 3) yd (ya rfl))))) ?_
  refine yu (yno (i:=6) (js:=[4,5]) (ys:=["whole","own"]) ycy.nd rfl rfl rfl (xc (pv 3)) (fun C s2 H2 fp=>(yo wu (yo w8 (pv 2) (pv 0)) (pv 1))) rfl rfl (hyc:=(all_cons rfl (all_cons rfl vj))) (hrel:=(all_cons rfl (all_cons rfl vj)))) ?_
  refine yu (yy (i:=7) ycy.nd rfl (Or.inr rfl) (yt (yet rfl) rfl T.z_max (by decide +kernel) (yb (yo ux (yq6 PySem.F.plainAttrs_int PySem.F.slot_int_bit_length PySem.F.type_int_bit_length ysk (yt (yah rfl) rfl T.z_sum (by decide +kernel) (yb (pv 6) yd (ya rfl)))) (v9 rfl T.c_MOST_FIGURES)) (yb yg yd (ya rfl)) (ya rfl)))) ?_
  refine ⟨_,(yf (v7 (pv 0) (jn (js:=[7]) (ys:=["dropped"]) rfl (xc (pv 6)) (fun C s2 H2 fp=>(yo ypl (pv 0) (pv 1))) rfl rfl (hyc:=(all_cons rfl vj)) (hrel:=(all_cons rfl vj))) rfl)),?_⟩
  try dsimp only [wk]
  refine yn (σ':=[some _,some _,some _,none,none,none,none,none]) rfl ?_
  have hlen:cs.length=ws.length:=by rw [hw.len,hc.len]
  walk_at "rd"
  refine ⟨x,m,rfl,ty,fun hx=>?_,k2⟩
  obtain ⟨b,rfl,b0,b1⟩:=yie hx
  have k:=k1 b rfl b0 b1
  walk_at "rd"
  refine ⟨l,c,rfl,⟨_,_,SqL.of hl,hq⟩,fun D hD=>?_⟩
  refine ycm (fun i=>V.int ((ws[i]?).getD 0 * giv ((cs[i]?).getD 0) b)) (SqL.of hl) hq (by rw [List.length_map,List.length_map,hlen]) hD (fun i x y H2 tt pre hx hy S2 hD2 htt hpre=>?_) (fun H2 S2 hD2=>?_)
  ·obtain ⟨v1,v2,rfl⟩:=ymr hpre
   obtain ⟨w,rfl,wm,wi,il⟩:=zx hx
   obtain ⟨u,rfl,um,ui,_⟩:=zx hy
   have w1:=hw.one w wm
   have w2:=hw.top w wm
   have hcu:=yin (yv8 hc um)
   have hbu:=ygv b0 b1
   have S3:=S2.trans (vh (o:=HO.tup [V.int w,V.int u]) htt)
   have hD3:=uq (o':=HO.tup [V.int w,V.int u]) htt hD2
   have ht3:upd H2 tt (HO.tup [V.int w,V.int u]) tt=some (.tup [V.int w,V.int u]):=yc
   generalize upd H2 tt (HO.tup [V.int w,V.int u])=H3 at S3 hD3 ht3
   refine ymy (SqT.of ht3) rfl ?_
   show ju (xk 0) (ju (xk 1) ypc) [V.int w,V.int u] (v1 :: v2 :: wl [2] [some (V.ref p),some (V.ref c),some (V.int b),none,none,none,none,none]) H3 _
   walk_at "rd"
   refine ⟨⟨[some (.int w),some (.int u)],rfl,rfl⟩,?_⟩
   walk_at "rd"
   refine ⟨.int u,_,.int b,_,rfl,.int u,.int b,fun z=>(by rw [hcu] at z; cases z),fun _ z=>(by rw [hbu] at z; cases z),fun c' b' ec eb _ _=>?_⟩
   cases ec
   cases eb
   walk_at "rd"
   refine Mp.doneR hD (wq (by rw [List.length_map,hw.len]; omega)) (by rw [List.length_map]; exact il) S3 hD3 ?_
   rw [wi,ui]
   rfl
  ·have hD2:H2 D=some (.lst ((shL ws cs b).map V.int)):=yho hD2 (yp3 (g:=fun w c=>w * giv c b) hlen)
   have shl:(shL ws cs b).length=n:=by rw [ygz hlen.symm,hw.len]
   have hp2:=S2 _ _ hp
   have ek:lrn ws cs b=(grL (shL ws cs b)).map fun v=>v / 2 ^ tOf (grL (shL ws cs b)).sum:=rfl
   rw [ek] at k
   generalize shL ws cs b=sh at hD2 shl k
   have eg:grL sh=sh.map fun s=>31 * (n:Int) * s+sh.sum:=by rw [<- shl]; rfl
   walk_at "rd"
   refine ⟨D,_,rfl,SqL.of hD2,?_⟩
   walk_at "rd"
   refine yap (SqL.of hD2) ?_
   rw [List.length_map,shl]
   walk_at "rd"
   refine ⟨D,rfl,⟨_,SqL.of hD2⟩,fun G hG=>?_⟩
   refine ybx (onI fun s=>31 * (n:Int) * s+sh.sum) (SqL.of hD2) hG (fun i y H3 hy S3 hG3=>?_) (fun H3 S3 hG3=>?_)
   ·obtain ⟨s',rfl,_,_,il⟩:=zx hy
    show tOp _ _ _ (some (V.int s') :: wl [4,5] [some (V.ref p),some (V.ref c),some (V.int b),some (V.ref D),some (V.int sh.sum),some (V.int (31 * (n:Int))),none,none]) H3 _
    walk_at "rd"
    exact Mp.done hG (wq (by rw [List.length_map,shl]; omega)) hy S3 hG3 rfl
   ·rw [ylv,<- eg] at hG3
    have grl:(grL sh).length=n:=by rw [yl9,shl]
    generalize grL sh=gr at hG3 k grl
    have hp3:=S3 _ _ hp2
    walk_at "rd"
    refine ⟨G,_,rfl,SqL.of hG3,?_⟩
    walk_at "rd"
    refine ⟨_,_,rfl,?_⟩
    have et:(if (0:Int) > ((Builtin.Int.intBits gr.sum:Nat):Int) - 48 then (0:Int) else ((Builtin.Int.intBits gr.sum:Nat):Int) - 48)=((tOf gr.sum:Nat):Int):=by
     show _=(((yo9 gr.sum) - 48:Nat):Int)
     have e:Builtin.Int.intBits gr.sum=yo9 gr.sum:=rfl
     rw [e]
     split <;> omega
    rw [et]
    generalize tOf gr.sum=t at k
    walk_at "rd"
    refine ⟨G,rfl,⟨_,SqL.of hG3⟩,fun Z hZ=>?_⟩
    refine ybx (onI fun v=>v / 2 ^ t) (SqL.of hG3) hZ (fun i y H4 hy S4 hZ4=>?_) (fun H4 S4 hZ4=>?_)
    ·obtain ⟨s',rfl,_,_,il⟩:=zx hy
     show tOp _ _ _ (some (V.int s') :: wl [7] [some (V.ref p),some (V.ref c),some (V.int b),some (V.ref D),some (V.int sh.sum),some (V.int (31 * (n:Int))),some (V.ref G),some (V.int (t:Int))]) H4 _
     walk_at "rd"
     refine i_I (Int.natCast_nonneg t) ?_
     exact Mp.done hZ (wq (by rw [List.length_map,grl]; omega)) hy S4 hZ4 rfl
    ·rw [ylv] at hZ4
     have hp4:=S4 _ _ hp3
     walk_at "rd"
     have nz:Z≠p:=fun z=>by rw [z,hp3] at hZ; cases hZ
     have S24:=S2.trans (S3.trans S4)
     exact k Z _ ((S2.trans S3).free hZ) ⟨yc,yq nz hZ4⟩ ((But.of S24).trans But.upd)
theorem ywf:ym ["self"] ["self"] (yj ytw):=⟨rfl,rfl,rfl,by decide +kernel,rfl,by decide +kernel,by decide +kernel⟩
theorem ybc.sqt {K:W.Frag} {a:Ads} {H H':Hp} {p dx lk d:Addr} {kd:Fin 3} {f:List Int->Option Slt} {O:Addr->Prop} {m:Nat} (h:ybc a H p dx lk d kd f O m) (B:ypg O H H') {t:Addr} {xs:List V} (e:SqT K H t xs):SqT K H' t xs:=by
 have no:∀ o:HO,H t=some o->va7 o=false->H' t=some o:=fun o ho hi=>B _ _ ho fun z=>by
  obtain ⟨o',ho',hi'⟩:=h.own t z
  rw [ho] at ho'
  cases ho'
  rw [hi] at hi'
  cases hi'
 rcases e with (e | ⟨o,e⟩) | e
 ·exact .inl (.inl (no _ e rfl))
 ·exact .inl (.inr ⟨o,no _ e rfl⟩)
 ·exact .inr e
theorem ybc.up {a:Ads} {H:Hp} {p dx lk d:Addr} {kd:Fin 3} {f:List Int->Option Slt} {O:Addr->Prop} {m m':Nat} (h:ybc a H p dx lk d kd f O m) (hm:m <= m'):ybc a H p dx lk d kd f O m':=by
 obtain ⟨kvs,loc,h1,h2,h3⟩:=h.tb
 exact ⟨h.me,h.own,h.np,h.dO,kvs,loc,h1,Nat.le_trans h2 hm,h3⟩
theorem zz.mvT {K:W.Frag} {H H':Hp} {k:Addr} {x:V} {ps:List Int} (h:zz K H k x ps) (h1:∀ t xs,SqT K H t xs->SqT K H' t xs):zz K H' k x ps:=by
 obtain ⟨t,q1,q2,q3,q4⟩:=h
 exact ⟨t,h1 _ _ q1,h1 _ _ q2,q3,q4⟩
def xy (g:Nat->Addr) (n:Nat):List V:=(List.range n).map fun i=>V.ref (g i)
theorem wc (g:Nat->Addr) (n:Nat):(xy g n).length=n:=by unfold xy; rw [List.length_map,List.length_range]
theorem zq {g:Nat->Addr} {n i:Nat} {x:V} (h:(xy g n)[i]?=some x):x=.ref (g i)/\i < n:=by
 have hi:i < n:=by
  have:=(List.getElem?_eq_some_iff.mp h).1
  rw [wc] at this
  exact this
 unfold xy at h
 rw [List.getElem?_map,List.getElem?_range hi] at h
 exact ⟨(Option.some.inj h).symm,hi⟩
theorem jd (g:Nat->Addr) (n:Nat):xy g (n+1)=xy g n++[.ref (g n)]:=by
 unfold xy
 rw [List.range_succ,List.map_append]
 rfl
theorem zf {g h:Nat->Addr} {n:Nat} (e:∀ i,i < n->g i=h i):xy g n=xy h n:=by
 unfold xy
 exact List.map_congr_left fun i hi=>by rw [e i (List.mem_range.mp hi)]
structure Bks (K:W.Frag) (a:Ads) (H:Hp) (n:Nat) (bk dx lk dd:Nat->Addr) (kd:Nat->Fin 3) (ps:Nat->List Int) (f:Nat->List Int->Option Slt) (O:Nat->Addr->Prop) (m:Nat):Prop where
 look:∀ i,i < n->zz K H (lk i) (.str (kdS (kd i))) (ps i)
 b:∀ i,i < n->ybc a H (bk i) (dx i) (lk i) (dd i) (kd i) (f i) (O i) m
 dj:∀ i j c,i < n->j < n->i≠j->O i c->¬ O j c
 nb:∀ i j,i < n->j < n->¬ O i (bk j)
def AtS (H:Hp) (d:Addr) (k:List Int) (q:Addr):Prop:=∀ kvs,H d=some (.dT kvs)->ybd kvs (kI k)=some (.ref q)
theorem ybc.slot {a:Ads} {H:Hp} {p dx lk d q:Addr} {kd:Fin 3} {f:List Int->Option Slt} {O:Addr->Prop} {m:Nat} {k:List Int} {s:Slt} (h:ybc a H p dx lk d kd f O m) (hf:f k=some s) (hq:AtS H d k q):∃ dq,H q=some (oS a dq s)/\s.ok/\s.kind=kd/\O q:=by
 obtain ⟨kvs,loc,h1,h2,h3,h4,h5⟩:=h.tb
 obtain ⟨q1,q2,q3,q4,q5⟩:=h4 k s hf
 have e:=hq kvs h1
 rw [q1] at e
 injection e with e
 injection e with e
 subst e
 exact ⟨_,q2,q3,q4,q5⟩
theorem ybc.told {a:Ads} {H H':Hp} {p dx lk d q dq:Addr} {kd:Fin 3} {f:List Int->Option Slt} {O:Addr->Prop} {m:Nat} {k:List Int} {s:Slt} {b:Int} (h:ybc a H p dx lk d kd f O m) (hf:f k=some s) (hq:AtS H d k q) (b0:0 <= b) (b1:b <= 1)
  (h3:H' q=some (oS a dq (s.see b))) (B:But q H H'):ybc a H' p dx lk d kd (yd8 f k (s.see b)) O m:=by
 have hme:=h.me
 obtain ⟨kvs,loc,h1,h2,h3',h4,h5⟩:=id h.tb
 obtain ⟨q1,q2,q3,q4,q5⟩:=h4 k s hf
 have e:=hq kvs h1
 rw [q1] at e
 injection e with e
 injection e with e
 have npl:p≠q:=fun z=>h.np (by rw [z,<- e]; exact q5)
 have ndl:d≠q:=fun z=>by
  obtain ⟨C,fs,eo⟩:=yfi a (loc k).2 s
  rw [e,<- z,h1,eo] at q2
  cases q2
 refine ⟨B _ _ hme npl,fun c hc=>?_,h.np,h.dO,kvs,fun j=>if j=k then (q,dq) else loc j,B _ _ h1 ndl,h2,fun j hj=>?_,fun j s' hj=>?_,fun j1 j2 s1 s2 e1 e2 el=>?_⟩
 ·obtain ⟨o,ho,hi⟩:=h.own c hc
  by_cases z:c=q
  ·rw [z]
   obtain ⟨C,fs,eo⟩:=yfi a dq (s.see b)
   exact ⟨_,h3,by rw [eo]; rfl⟩
  ·exact ⟨o,B _ _ ho z,hi⟩
 ·refine h3' j ?_
  unfold yd8 at hj
  split at hj
  ·cases hj
  ·exact hj
 ·unfold yd8 at hj
  by_cases z:j=k
  ·rw [if_pos z] at hj
   cases hj
   subst z
   dsimp only
   rw [if_pos rfl]
   exact ⟨by rw [q1,e],h3,Slt.see_ok q3 b0 b1,(ynm s b).trans q4,e ▸ q5⟩
  ·rw [if_neg z] at hj
   obtain ⟨p1,p2,p3,p4,p5⟩:=h4 j s' hj
   dsimp only
   rw [if_neg z]
   exact ⟨p1,B _ _ p2 (fun w=>z (h5 j k s' s hj hf (w.trans e.symm))),p3,p4,p5⟩
 ·have some_of:∀ j s',yd8 f k (s.see b) j=some s'->∃ t,f j=some t:=fun j s' h=>by
   unfold yd8 at h
   by_cases z:j=k
   ·exact ⟨s,by rw [z]; exact hf⟩
   ·rw [if_neg z] at h
    exact ⟨s',h⟩
  obtain ⟨t1,f1⟩:=some_of j1 s1 e1
  obtain ⟨t2,f2⟩:=some_of j2 s2 e2
  refine h5 j1 j2 t1 t2 f1 f2 ?_
  have yri:∀ j,(if j=k then ((q,dq):Addr × Addr) else loc j).1=(loc j).1:=fun j=>by
   by_cases z:j=k
   ·rw [if_pos z,z]
    exact e.symm
   ·rw [if_neg z]
  rw [<- yri j1,<- yri j2]
  exact el
theorem AtS.told {a:Ads} {H H':Hp} {p dx lk d q:Addr} {kd:Fin 3} {f:List Int->Option Slt} {O:Addr->Prop} {m:Nat} {k:List Int} (h:ybc a H p dx lk d kd f O m) {r:Addr} (hd:d≠r) (B:But r H H') (hq:AtS H d k q):AtS H' d k q:=fun kvs e=>by
 obtain ⟨kvs0,loc,h1,_⟩:=h.tb
 rw [B _ _ h1 hd] at e
 cases e
 exact hq _ h1
section
variable {K:W.Frag} {a:Ads} {H H':Hp} {n m:Nat} {bk dx lk dd:Nat->Addr} {kd:Nat->Fin 3} {ps:Nat->List Int} {f:Nat->List Int->Option Slt} {O:Nat->Addr->Prop}
theorem Bks.frame (h:Bks K a H n bk dx lk dd kd ps f O m) {O2:Addr->Prop} (B:ypg O2 H H') (dj:∀ i b,i < n->O i b->¬ O2 b) (hp:∀ i,i < n->¬ O2 (bk i)) (ht:∀ t xs,SqT K H t xs->SqT K H' t xs):Bks K a H' n bk dx lk dd kd ps f O m :=
 ⟨fun i hi=>(h.look i hi).mvT ht,fun i hi=>(h.b i hi).frame B (fun b hb=>dj i b hi hb) (hp i hi),h.dj,h.nb⟩
theorem Bks.same (h:Bks K a H n bk dx lk dd kd ps f O m) (S:vi H H'):Bks K a H' n bk dx lk dd kd ps f O m :=
 h.frame (O2:=fun _=>False) (fun b o e _=>S b o e) (fun _ _ _ _ z=>z) (fun _ _ z=>z) fun _ _ e=>S.tup e
theorem Bks.move (h:Bks K a H n bk dx lk dd kd ps f O m) {j m':Nat} (hj:j < n) {f':List Int->Option Slt} {O':Addr->Prop} (hm:m <= m') (hb:ybc a H' (bk j) (dx j) (lk j) (dd j) (kd j) f' O' m') (hO:∀ c,O' c->O j c\/H c=none) (B:ypg (O j) H H') :
  Bks K a H' n bk dx lk dd kd ps (fun i=>if i=j then f' else f i) (fun i=>if i=j then O' else O i) m':=by
 have hbj:=h.b j hj
 have live:∀ q c,q < n->q≠j->O q c->¬ O' c:=fun q c hq hqj w w'=>by
  rcases hO c w' with v | v
  ·exact h.dj q j c hq hj hqj w v
  ·obtain ⟨o,ho,_⟩:=(h.b q hq).own c w
   rw [v] at ho
   cases ho
 refine ⟨fun i hi=>(h.look i hi).mvT fun t xs e=>hbj.sqt B e,fun i hi=>?_,fun i l c hi hl hil e1 e2=>?_,fun i l hi hl e=>?_⟩
 ·try dsimp only
  by_cases z:i=j
  ·subst z
   rw [if_pos rfl,if_pos rfl]
   exact hb
  ·rw [if_neg z,if_neg z]
   exact ((h.b i hi).frame B (fun b hb'=>h.dj i j b hi hj z hb') (h.nb j i hj hi)).up hm
 ·try dsimp only at e1 e2
  by_cases z1:i=j
  ·rw [if_pos z1] at e1
   have z2:l≠j:=fun w=>hil (z1.trans w.symm)
   rw [if_neg z2] at e2
   exact live l c hl z2 e2 e1
  ·rw [if_neg z1] at e1
   by_cases z2:l=j
   ·rw [if_pos z2] at e2
    exact live i c hi z1 e1 e2
   ·rw [if_neg z2] at e2
    exact h.dj i l c hi hl hil e1 e2
 ·try dsimp only at e
  by_cases z:i=j
  ·rw [if_pos z] at e
   rcases hO _ e with v | v
   ·exact h.nb j l hj hl v
   ·rw [(h.b l hl).me] at v
    cases v
  ·rw [if_neg z] at e
   exact h.nb i l hi hl e
theorem AtS.move (h:Bks K a H n bk dx lk dd kd ps f O m) {i j:Nat} (hi:i < n) (hj:j < n) (hij:i≠j) (B:ypg (O j) H H') {k:List Int} {q:Addr} (hq:AtS H (dd i) k q):AtS H' (dd i) k q:=fun kvs e=>by
 obtain ⟨kvs0,loc,h1,_⟩:=(h.b i hi).tb
 rw [B _ _ h1 (h.dj i j _ hi hj hij (h.b i hi).dO)] at e
 cases e
 exact hq _ h1
theorem Bks.nlst (h:Bks K a H n bk dx lk dd kd ps f O m) {l:Addr} {xs:List V} (hl:H l=some (.lst xs)):∀ i,i < n->¬ O i l:=fun i hi z=>by
 obtain ⟨o,ho,hi'⟩:=(h.b i hi).own l z
 rw [hl] at ho
 cases ho
 cases hi'
end
def ypf (n:Nat) (kd:Nat->Fin 3) (f:Nat->List Int->Option Slt) (g:Nat->List Int->Slt):Prop:=∀ i,i < n->∀ k,(f i k).getD (kd0 (kd i))=g i k
theorem ypf.put {n:Nat} {kd:Nat->Fin 3} {f:Nat->List Int->Option Slt} {g:Nat->List Int->Slt} (h:ypf n kd f g) (j:Nat) (hj:j < n) (k:List Int):ypf n kd (fun i=>if i=j then yd8 (f j) k ((f j k).getD (kd0 (kd j))) else f i) g:=fun i hi k'=>by
 dsimp only
 by_cases z:i=j
 ·subst z
  rw [if_pos rfl]
  unfold yd8
  by_cases w:k'=k
  ·rw [if_pos w,w]
   exact h i hi k
  ·rw [if_neg w]
   exact h i hi k'
 ·rw [if_neg z]
  exact h i hi k'
def yi7 (K:W.Frag) (a:Ads):Sp:=fun vs H Q _=>∃ (p dp ll bl mp el pl0:Addr) (nd:Int) (sg:List Int) (n m:Nat) (bk dx lk dd:Nat->Addr) (kd:Nat->Fin 3) (ps:Nat->List Int) (f:Nat->List Int->Option Slt) (O:Nat->Addr->Prop) (g:Nat->List Int->Slt),vs=[.ref p] /\
 H p=some (.ins a.C_Ft dp (xx (.ref ll) (.ref bl) (.ref mp) (.ref el) (.int nd) (.ref pl0)))/\H bl=some (.lst (xy bk n))/\H el=some (.lst (sg.map V.int))/\Bks K a H n bk dx lk dd kd ps f O m/\ypf n kd f g/\n <= 6/\m+10 < 1000000/\(∀ i,i < n->¬ O i p) /\
 ∀ (pl:Addr) (sl:Nat->Addr) (f':Nat->List Int->Option Slt) (O':Nat->Addr->Prop) (H':Hp),H' p=some (.ins a.C_Ft dp (xx (.ref ll) (.ref bl) (.ref mp) (.ref el) (.int nd) (.ref pl)))->H' pl=some (.lst (xy sl n))->H pl=none ->
  Bks K a H' n bk dx lk dd kd ps f' O' (m+n)->ypf n kd f' g->(∀ j,j < n->(∃ s,f' j (ctx (ps j) sg nd)=some s)/\AtS H' (dd j) (ctx (ps j) sg nd) (sl j))->(∀ j c,j < n->O' j c->O j c\/H c=none) ->
  (∀ c o,H c=some o->c≠p->(∀ j,j < n->¬ O j c)->H' c=some o)->(∀ c o,H c=some o->∃ o',H' c=some o')->Q .non H'
theorem yrd (T:Txt K mg a):wv P w K mg base CX0 5 a.f_q37 a.d_q37 ["self"] (yi7 K a):=by
 refine T.y_q37.F.ok ywf (fun vs H Q E h=>?_) (fun cdv A outer s H vs Q E hr h=>?_)
 ·obtain ⟨p,dp,ll,bl,mp,el,pl0,nd,sg,n,m,bk,dx,lk,dd,kd,ps,f,O,g,rfl,_⟩:=h
  rfl
 ·obtain ⟨p,dp,ll,bl,mp,el,pl0,nd,sg,n,m,bk,dx,lk,dd,kd,ps,f,O,g,rfl,hp,hbl,hel,hB,hA,n6,hm,np,k⟩:=h
  refine ⟨_,(yf (v7 (pv 0) (jn (js:=[0]) (ys:=["self"]) rfl (xc (yw (pv 0) rfl)) (fun C s2 H2 fp=>(ut (pv 0) T.cl_Book T.y_q32.m (yz9 T) (hr.mono (by decide)) T.y_q32.B .nil vv (yb (yls (K:=K) rfl (pv 1) rfl) (yb (yls (K:=K) rfl (pv 1) rfl) yd (ya rfl)) (ya rfl)))) rfl rfl (hyc:=(all_cons rfl vj)) (hrel:=(all_cons rfl vj))) rfl)),?_⟩
  try dsimp only [wk]
  refine yn (σ':=[some _]) rfl ?_
  walk_at "rd"
  refine ⟨bl,rfl,⟨_,SqL.of hbl⟩,fun D hD=>?_⟩
  have nbl:=hB.nlst hbl
  have nel:=hB.nlst hel
  refine yau (K:=K) (xs:=xy bk n) (fun i G=>∃ (sl:Nat->Addr) (f':Nat->List Int->Option Slt) (O':Nat->Addr->Prop),G D=some (.lst (xy sl i))/\Bks K a G n bk dx lk dd kd ps f' O' (m+i)/\ypf n kd f' g/\(∀ j,j < i->(∃ s,f' j (ctx (ps j) sg nd)=some s)/\AtS G (dd j) (ctx (ps j) sg nd) (sl j)) /\
   (∀ j c,j < n->O' j c->O j c\/H c=none)/\(∀ c o,H c=some o->(∀ j,j < n->¬ O j c)->G c=some o)/\(∀ c o,H c=some o->∃ o',G c=some o'))
   ⟨fun _=>0,f,O,yc,hB.same (vh hD),hA,fun j hj=>absurd hj (Nat.not_lt_zero j),fun j c _ z=>.inl z,fun c o e _=>uq hD e,fun c o e=>⟨o,uq hD e⟩⟩ (fun i G _ z=>?_) (fun i x G hx hi z=>?_) (fun G z=>?_)
  ·obtain ⟨_,_,_,_,_,_,_,_,w,_⟩:=z
   exact SqL.of (w _ _ hbl nbl)
  ·obtain ⟨sl,f',O',gD,gB,gA,gS,gO,gF,gL⟩:=z
   obtain ⟨rfl,hin⟩:=zq hx
   have hpG:=gF _ _ hp np
   have helG:=gF _ _ hel nel
   have hme:=(gB.b i hin).me
   show yhb _ _ _ _ _ _ _ (some (V.ref (bk i)) :: wl [0] [some (V.ref p)]) G _
   walk_at "rd"
   refine ⟨bk i,dx i,lk i,dd i,el,kd i,f' i,O' i,m+i,ps i,sg,nd,rfl,gB.b i hin,by omega,gB.look i hin,SqL.of helG,fun q O2 G2 hb2 hv hO2 hM2 B2=>?_⟩
   have nD:=gB.nlst gD
   have gD2:G2 D=some (.lst (xy sl i)):=B2 _ _ gD (nD i hin)
   refine xz (n:=(xy bk n).length) gD2 (wq (by rw [wc]; omega)) hi ?_
   have M2:=gB.move hin (Nat.le_succ (m+i)) hb2 hO2 B2
   have nD2:=M2.nlst gD2
   have SB:∀ c o,G2 c=some o->c≠D->upd G2 D (.lst (xy sl i++[V.ref q])) c=some o:=fun c o e ne=>yq ne e
   have M3:=M2.frame (O2:=fun c=>c=D) (fun c o e ne=>SB c o e ne) (fun j c hj w z=>nD2 j hj (z ▸ w)) (fun j hj z=>by
    have:=(M2.b j hj).me
    rw [z,gD2] at this
    cases this) (fun t xs e=>by
    rcases e with (e | ⟨o,e⟩) | e
    ·exact .inl (.inl (SB _ _ e (fun z=>by rw [z,gD2] at e; cases e)))
    ·exact .inl (.inr ⟨o,SB _ _ e (fun z=>by rw [z,gD2] at e; cases e)⟩)
    ·exact .inr e)
   have up:∀ j,j < n->AtS G2 (dd j) (ctx (ps j) sg nd) (if j=i then q else sl j)->AtS (upd G2 D (.lst (xy sl i++[V.ref q]))) (dd j) (ctx (ps j) sg nd) (if j=i then q else sl j):=fun j hj h =>
    h.told (M2.b j hj) (fun z=>nD2 j hj (by rw [<- z]; exact (M2.b j hj).dO)) (fun c o e ne=>SB c o e ne)
   refine ⟨fun j=>if j=i then q else sl j,_,_,?_,M3,gA.put i hin _,fun j hj=>?_,fun j c hj w=>?_,fun c o e no=>?_,fun c o e=>?_⟩
   ·rw [yc,jd,if_pos rfl]
    congr 3
    exact zf fun j hj=>(if_neg (by omega)).symm
   ·by_cases z:j=i
    ·subst z
     refine ⟨⟨(f' j (ctx (ps j) sg nd)).getD (kd0 (kd j)),?_⟩,up j hin ?_⟩
     ·try dsimp only
      rw [if_pos rfl]
      unfold yd8
      rw [if_pos rfl]
     ·rw [if_pos rfl]
      exact hv
    ·have hjn:j < n:=by omega
     obtain ⟨⟨s',hs'⟩,hat⟩:=gS j (by omega)
     refine ⟨⟨s',?_⟩,up j hjn ?_⟩
     ·try dsimp only
      rw [if_neg z]
      exact hs'
     ·rw [if_neg z]
      exact hat.move gB hjn hin z B2
   ·try dsimp only at w
    by_cases z:j=i
    ·subst z
     rw [if_pos rfl] at w
     rcases hO2 c w with v | v
     ·exact gO j c hj v
     ·refine .inr ?_
      cases e:H c with
      | none=>rfl
      | some o =>
       obtain ⟨o',w'⟩:=gL c o e
       rw [w'] at v
       cases v
    ·rw [if_neg z] at w
     exact gO j c hj w
   ·have hG:=gF c o e no
    have nc:¬ O' i c:=fun w=>by
     rcases gO i c hin w with v | v
     ·exact no i hin v
     ·rw [e] at v
      cases v
    refine SB _ _ (B2 _ _ hG nc) (fun z=>?_)
    rw [z,hD] at e
    cases e
   ·obtain ⟨o1,w1⟩:=gL c o e
    have ncD:c≠D:=fun z=>by rw [z,hD] at e; cases e
    by_cases w2:O' i c
    ·obtain ⟨o2,ho2,_⟩:=hb2.own c (hM2 c w2)
     exact ⟨o2,SB _ _ ho2 ncD⟩
    ·exact ⟨o1,SB _ _ (B2 _ _ w1 w2) ncD⟩
  ·obtain ⟨sl,f',O',gD,gB,gA,gS,gO,gF,gL⟩:=z
   rw [wc] at gD gB gS
   have hpG:=gF _ _ hp np
   walk_at "rd"
   have nDp:D≠p:=fun z=>by rw [z,hp] at hD; cases hD
   have BP:But p G (upd G p (.ins a.C_Ft dp (xx (.ref ll) (.ref bl) (.ref mp) (.ref el) (.int nd) (.ref D)))):=But.upd
   have np':∀ i,i < n->¬ O' i p:=fun i hi w=>by
    rcases gO i p hi w with v | v
    ·exact np i hi v
    ·rw [hp] at v; cases v
   have M3:=gB.frame (O2:=fun c=>c=p) (fun c o e ne=>BP c o e ne) (fun j c hj w z=>np' j hj (z ▸ w)) (fun j hj z=>by
    have:=(gB.b j hj).me
    rw [z,hpG] at this
    injection this with this
    injection this with _ _ e
    exact absurd (congrArg List.length e) (show ¬ (6=2) by decide)) (fun t xs e=>by
    rcases e with (e | ⟨o,e⟩) | e
    ·exact .inl (.inl (BP _ _ e (fun z=>by rw [z,hpG] at e; cases e)))
    ·exact .inl (.inr ⟨o,BP _ _ e (fun z=>by rw [z,hpG] at e; cases e)⟩)
    ·exact .inr e)
   refine k D sl f' O' _ yc (yq nDp gD) hD M3 gA (fun j hj=>⟨(gS j hj).1,(gS j hj).2.told (gB.b j hj) (fun z=>np' j hj (by rw [<- z]; exact (gB.b j hj).dO)) BP⟩) gO (fun c o e nc no=>BP _ _ (gF c o e no) nc) fun c o e=>?_
   by_cases zc:c=p
   ·rw [zc]
    exact ⟨_,yc⟩
   ·obtain ⟨o1,w1⟩:=gL c o e
    exact ⟨o1,BP _ _ w1 zc⟩
structure FA where
 dp:Addr
 ll:Addr
 bl:Addr
 mp:Addr
 mx:Addr
 ml:Addr
 el:Addr
 pl:Addr
 n:Nat
 bk:Nat->Addr
 dx:Nat->Addr
 lk:Nat->Addr
 dd:Nat->Addr
 sl:Nat->Addr
 kd:Nat->Fin 3
 ps:Nat->List Int
structure FX where
 g:Nat->List Int->Slt
 ws:List Int
 sg:List Int
 nd:Int
def FX.key (X:FX) (A:FA) (i:Nat):List Int:=ctx (A.ps i) X.sg X.nd
def FX.cs (X:FX) (A:FA):List Int:=(List.range A.n).map fun i=>(X.g i (X.key A i)).due
def ndN (nd b:Int):Int:=if 0 < nd then (if 256 <= 2 * nd+b then 0 else 2 * nd+b) else if b=1 then 1 else nd
def sgN (sg:List Int) (nd b:Int):List Int:=if 0 < nd then (if 256 <= 2 * nd+b then sg++[2 * nd+b - 256] else sg) else if b=1 then sg else []
def FX.see (X:FX) (A:FA) (b:Int):FX:={ g:=fun i k=>if k=X.key A i then (X.g i k).see b else X.g i k,ws:=lrn X.ws (X.cs A) b,sg:=sgN X.sg X.nd b,nd:=ndN X.nd b }
structure z0 (K:W.Frag) (a:Ads) (H:Hp) (p:Addr) (A:FA) (X:FX) (f:Nat->List Int->Option Slt) (O:Nat->Addr->Prop) (m:Nat):Prop where
 me:H p=some (.ins a.C_Ft A.dp (xx (.ref A.ll) (.ref A.bl) (.ref A.mp) (.ref A.el) (.int X.nd) (.ref A.pl)))
 bl:H A.bl=some (.lst (xy A.bk A.n))
 el:H A.el=some (.lst (X.sg.map V.int))
 mx:ypj a A.mp A.mx A.ml X.ws H
 wok:WOk A.n X.ws
 pl:H A.pl=some (.lst (xy A.sl A.n))
 B:Bks K a H A.n A.bk A.dx A.lk A.dd A.kd A.ps f O m
 ag:ypf A.n A.kd f X.g
 at':∀ j,j < A.n->(∃ s,f j (X.key A j)=some s)/\AtS H (A.dd j) (X.key A j) (A.sl j)
 np:∀ i,i < A.n->¬ O i p
 nm:∀ i,i < A.n->¬ O i A.mp
 n1:1 <= A.n
 n6:A.n <= 6
theorem z0.same {K:W.Frag} {a:Ads} {H H':Hp} {p:Addr} {A:FA} {X:FX} {f:Nat->List Int->Option Slt} {O:Nat->Addr->Prop} {m:Nat} (h:z0 K a H p A X f O m) (S:vi H H'):z0 K a H' p A X f O m :=
 ⟨S _ _ h.me,S _ _ h.bl,S _ _ h.el,h.mx.same S,h.wok,S _ _ h.pl,h.B.same S,h.ag,fun j hj=>⟨(h.at' j hj).1,fun kvs e=>by
  obtain ⟨kvs0,loc,h1,_⟩:=(h.B.b j hj).tb
  rw [S _ _ h1] at e
  cases e
  exact (h.at' j hj).2 _ h1⟩,h.np,h.nm,h.n1,h.n6⟩
theorem z0.slot {K:W.Frag} {a:Ads} {H:Hp} {p:Addr} {A:FA} {X:FX} {f:Nat->List Int->Option Slt} {O:Nat->Addr->Prop} {m:Nat} (h:z0 K a H p A X f O m) {j:Nat} (hj:j < A.n) :
  f j (X.key A j)=some (X.g j (X.key A j))/\(∃ dq,H (A.sl j)=some (oS a dq (X.g j (X.key A j))))/\(X.g j (X.key A j)).ok/\O j (A.sl j):=by
 obtain ⟨⟨s,hs⟩,hat⟩:=h.at' j hj
 have e:=h.ag j hj (X.key A j)
 rw [hs] at e
 have e:s=X.g j (X.key A j):=e
 rw [<- e]
 obtain ⟨dq,h1,h2,h3,h4⟩:=(h.B.b j hj).slot hs hat
 exact ⟨hs,⟨dq,h1⟩,h2,h4⟩
theorem z0.cok {K:W.Frag} {a:Ads} {H:Hp} {p:Addr} {A:FA} {X:FX} {f:Nat->List Int->Option Slt} {O:Nat->Addr->Prop} {m:Nat} (h:z0 K a H p A X f O m):COk A.n (X.cs A):=by
 refine ⟨by unfold FX.cs; rw [List.length_map,List.length_range],fun c hc=>?_,fun c hc=>?_⟩
 ·obtain ⟨j,hj,rfl⟩:=List.mem_map.mp hc
  exact (yih (h.slot (List.mem_range.mp hj)).2.2.1).1
 ·obtain ⟨j,hj,rfl⟩:=List.mem_map.mp hc
  exact (yih (h.slot (List.mem_range.mp hj)).2.2.1).2
theorem LkG.at' {K:W.Frag} {H:Hp} {lk tp:Addr} {kd:Fin 3} {ps:List Int} (h:LkG H (.ref lk) kd tp ps):zz K H lk (.str (kdS kd)) ps:=by
 obtain ⟨lk',e,h1,h2,h3⟩:=h
 cases e
 have h3:=h3
 unfold zu at h3
 rw [Bool.and_eq_true,Bool.and_eq_true,List.all_eq_true] at h3
 refine ⟨tp,SqT.of h1,SqT.of h2,fun p hp=>?_,by have:=of_decide_eq_true h3.1.1; rw [List.length_map] at this; exact this⟩
 have w:=h3.1.2 (.int p) (List.mem_map.mpr ⟨p,hp,rfl⟩)
 have w:(decide (1 <= p) && decide (p <= 8))=true:=w
 rw [Bool.and_eq_true] at w
 exact ⟨of_decide_eq_true w.1,of_decide_eq_true w.2⟩
theorem Bks.snoc {K:W.Frag} {a:Ads} {H:Hp} {n m:Nat} {bk dx lk dd:Nat->Addr} {kd:Nat->Fin 3} {ps:Nat->List Int} {f:Nat->List Int->Option Slt} {O:Nat->Addr->Prop} (h:Bks K a H n bk dx lk dd kd ps f O m)
  (hl:zz K H (lk n) (.str (kdS (kd n))) (ps n)) {q dq d:Addr} {f':List Int->Option Slt} {O':Addr->Prop} (hb:ybc a H q dq (lk n) d (kd n) f' O' m) (dj:∀ j c,j < n->O j c->¬ O' c) (n1:∀ j,j < n->¬ O j q) (n2:∀ j,j < n->¬ O' (bk j)) :
  Bks K a H (n+1) (upN bk n q) (upN dx n dq) lk (upN dd n d) kd ps (upN f n f') (upN O n O') m:=by
 refine ⟨fun i hi=>?_,fun i hi=>?_,fun i j c hi hj hij e1 e2=>?_,fun i j hi hj e=>?_⟩
 ·by_cases z:i=n
  ·rw [z]
   exact hl
  ·exact h.look i (by omega)
 ·by_cases z:i=n
  ·subst z
   rw [xn,xn,xn,xn,xn]
   exact hb
  ·have hin:i < n:=by omega
   rw [xj hin,xj hin,xj hin,xj hin,xj hin]
   exact h.b i hin
 ·by_cases z:i=n
  ·subst z
   have hjn:j < i:=by omega
   rw [xn] at e1
   rw [xj hjn] at e2
   exact dj j c hjn e2 e1
  ·have hin:i < n:=by omega
   rw [xj hin] at e1
   by_cases w:j=n
   ·subst w
    rw [xn] at e2
    exact dj i c hin e1 e2
   ·have hjn:j < n:=by omega
    rw [xj hjn] at e2
    exact h.dj i j c hin hjn hij e1 e2
 ·by_cases z:i=n
  ·subst z
   rw [xn] at e
   by_cases w:j=i
   ·subst w
    rw [xn] at e
    exact hb.np e
   ·have hjn:j < i:=by omega
    rw [xj hjn] at e
    exact n2 j hjn e
  ·have hin:i < n:=by omega
   rw [xj hin] at e
   by_cases w:j=n
   ·subst w
    rw [xn] at e
    exact n1 i hin e
   ·have hjn:j < n:=by omega
    rw [xj hjn] at e
    exact h.nb i j hin hjn e
def ypk (K:W.Frag) (a:Ads) (H G:Hp) (n:Nat) (bk dx lk dd:Nat->Addr) (kd:Nat->Fin 3) (ps:Nat->List Int) (f:Nat->List Int->Option Slt) (O:Nat->Addr->Prop):Prop :=
 Bks K a G n bk dx lk dd kd ps f O 0/\(∀ j k,j < n->f j k=none)/\(∀ j c,j < n->O j c->H c=none)/\(∀ j,j < n->H (bk j)=none)
theorem ypk.zero {K:W.Frag} {a:Ads} {H G:Hp} {bk dx lk dd:Nat->Addr} {kd:Nat->Fin 3} {ps:Nat->List Int} {f:Nat->List Int->Option Slt} {O:Nat->Addr->Prop}:ypk K a H G 0 bk dx lk dd kd ps f O :=
 ⟨⟨fun i hi=>absurd hi (Nat.not_lt_zero i),fun i hi=>absurd hi (Nat.not_lt_zero i),fun i _ _ hi=>absurd hi (Nat.not_lt_zero i),fun i _ hi=>absurd hi (Nat.not_lt_zero i)⟩,fun i _ hi=>absurd hi (Nat.not_lt_zero i),fun i _ hi=>absurd hi (Nat.not_lt_zero i),fun i hi=>absurd hi (Nat.not_lt_zero i)⟩
theorem ypk.next {K:W.Frag} {a:Ads} {H G G2:Hp} {n:Nat} {bk dx lk dd:Nat->Addr} {kd:Nat->Fin 3} {ps:Nat->List Int} {f:Nat->List Int->Option Slt} {O:Nat->Addr->Prop} (h:ypk K a H G n bk dx lk dd kd ps f O) (hl:zz K G (lk n) (.str (kdS (kd n))) (ps n))
  (S:vi H G) {q dq d D:Addr} {xs ys:List V} (hq:G q=none) (hd:G d=none) (S2:vi G G2) (hb:ybc a G2 q dq (lk n) d (kd n) (fun _=>none) (fun b=>b=d) 0) (hD:G D=some (.lst xs)) :
  ypk K a H (upd G2 D (.lst ys)) (n+1) (upN bk n q) (upN dx n dq) lk (upN dd n d) kd ps (upN f n fun _=>none) (upN O n fun b=>b=d):=by
 obtain ⟨hB,h1,h2,h3⟩:=h
 have live:∀ j c,j < n->O j c->∃ o,G c=some o:=fun j c hj w=>let ⟨o,ho,_⟩:=(hB.b j hj).own c w; ⟨o,ho⟩
 have M:=(hB.same S2).snoc (hl.same S2) hb (fun j c hj w z=>by
  obtain ⟨o,ho⟩:=live j c hj w
  rw [show c=d from z,hd] at ho
  cases ho) (fun j hj w=>by
  obtain ⟨o,ho⟩:=live j q hj w
  rw [hq] at ho
  cases ho) (fun j hj z=>by
  have e:=(hB.b j hj).me
  rw [show bk j=d from z,hd] at e
  cases e)
 have hD2:=S2 _ _ hD
 have nD:=M.nlst hD2
 have SB:∀ c o,G2 c=some o->c≠D->upd G2 D (.lst ys) c=some o:=fun c o e ne=>yq ne e
 refine ⟨M.frame (O2:=fun c=>c=D) (fun c o e ne=>SB c o e ne) (fun j c hj w z=>nD j hj (z ▸ w)) (fun j hj z=>?_) (fun t xs e=>?_),fun j k hj=>?_,fun j c hj w=>?_,fun j hj=>?_⟩
 ·have e:=(M.b j hj).me
  rw [z,hD2] at e
  cases e
 ·rcases e with (e | ⟨o,e⟩) | e
  ·exact .inl (.inl (SB _ _ e (fun z=>by rw [z,hD2] at e; cases e)))
  ·exact .inl (.inr ⟨o,SB _ _ e (fun z=>by rw [z,hD2] at e; cases e)⟩)
  ·exact .inr e
 ·by_cases z:j=n
  ·rw [z,xn]
  ·rw [xj (by omega)]
   exact h1 j k (by omega)
 ·by_cases z:j=n
  ·rw [z,xn] at w
   rw [show c=d from w]
   exact S.free hd
  ·rw [xj (by omega)] at w
   exact h2 j c (by omega) w
 ·by_cases z:j=n
  ·rw [z,xn]
   exact S.free hq
  ·rw [xj (by omega)]
   exact h3 j (by omega)
theorem ypk.ag {K:W.Frag} {a:Ads} {H G:Hp} {n:Nat} {bk dx lk dd:Nat->Addr} {kd:Nat->Fin 3} {ps:Nat->List Int} {f:Nat->List Int->Option Slt} {O:Nat->Addr->Prop} (h:ypk K a H G n bk dx lk dd kd ps f O):ypf n kd f (fun i _=>kd0 (kd i)):=fun i hi k=>by
 rw [h.2.1 i k hi]
 rfl
def FX0 (n:Nat) (kd:Nat->Fin 3):FX:={ g:=fun i _=>kd0 (kd i),ws:=List.replicate n 1099511627776,sg:=[],nd:=0 }
theorem yny {g:Nat->Addr} {n:Nat} {x:V} (h:x∈xy g n):∃ i,i < n/\x=.ref (g i):=by
 unfold xy at h
 obtain ⟨i,hi,e⟩:=List.mem_map.mp h
 exact ⟨i,List.mem_range.mp hi,e.symm⟩
theorem ya2.lks {H:Hp} {n:Nat} {lk:Nat->Addr} {kd:Nat->Fin 3} {tp:Nat->Addr} {ps:Nat->List Int} (h:ya2 H n lk kd tp ps):Lks H (xy lk n):=fun y hy=>by
 obtain ⟨i,hi,rfl⟩:=yny hy
 exact ⟨_,_,_,h i hi⟩
theorem z0.frame {K:W.Frag} {a:Ads} {H H':Hp} {p:Addr} {A:FA} {X:FX} {f:Nat->List Int->Option Slt} {O:Nat->Addr->Prop} {m:Nat} (h:z0 K a H p A X f O m) {O2:Addr->Prop} (B:ypg O2 H H') (hp:¬ O2 p) (hm:¬ O2 A.mp) (hb:∀ i,i < A.n->¬ O2 (A.bk i))
  (dj:∀ i c,i < A.n->O i c->¬ O2 c) (hl:∀ l xs,(l=A.bl\/l=A.el\/l=A.ml\/l=A.pl)->H l=some (.lst xs)->H' l=some (.lst xs)) (ht:∀ t xs,SqT K H t xs->SqT K H' t xs):z0 K a H' p A X f O m :=
 ⟨B _ _ h.me hp,hl _ _ (.inl rfl) h.bl,hl _ _ (.inr (.inl rfl)) h.el,⟨B _ _ h.mx.o hm,hl _ _ (.inr (.inr (.inl rfl))) h.mx.l⟩,h.wok,hl _ _ (.inr (.inr (.inr rfl))) h.pl,h.B.frame B (fun i c hi w=>dj i c hi w) hb ht,h.ag,fun j hj=>⟨(h.at' j hj).1,fun kvs e=>by
  obtain ⟨kvs0,loc,h1,_⟩:=(h.B.b j hj).tb
  rw [B _ _ h1 (dj j _ hj (h.B.b j hj).dO)] at e
  cases e
  exact (h.at' j hj).2 _ h1⟩,h.np,h.nm,h.n1,h.n6⟩
theorem ytb {K:W.Frag} {G:Hp} {t c:Addr} {xs ys zs:List V} (hc:G c=some (.lst ys)) (e:SqT K G t xs):SqT K (upd G c (.lst zs)) t xs:=by
 rcases e with (e | ⟨o,e⟩) | e
 ·exact .inl (.inl (yq (uh e hc (by intro z; cases z)) e))
 ·exact .inl (.inr ⟨o,yq (uh e hc (by intro z; cases z)) e⟩)
 ·exact .inr e
theorem z0.app {K:W.Frag} {a:Ads} {H:Hp} {p R:Addr} {A:FA} {X:FX} {f:Nat->List Int->Option Slt} {O:Nat->Addr->Prop} {m:Nat} {xs ys:List V} (h:z0 K a H p A X f O m) (hR:H R=some (.lst xs)) (hq:∀ q,(q=A.bl\/q=A.el\/q=A.ml\/q=A.pl)->q≠R):z0 K a (upd H R (.lst ys)) p A X f O m:=by
 refine h.frame (O2:=fun c=>c=R) (fun c o e ne=>yq ne e) (fun z=>?_) (fun z=>?_) (fun i hi z=>?_) (fun i c hi w z=>h.B.nlst hR i hi (z ▸ w)) (fun l xs w e=>yq (hq l w) e) (fun t xs e=>ytb hR e)
 ·have e:=h.me
  rw [z,hR] at e
  cases e
 ·have e:=h.mx.o
  rw [z,hR] at e
  cases e
 ·have e:=(h.B.b i hi).me
  rw [z,hR] at e
  cases e
theorem vav (n:Nat) (n1:1 <= n) (n6:n <= 6):WOk n (List.replicate n 1099511627776):=by
 refine ⟨List.length_replicate,fun w h=>?_,fun w h=>?_⟩ <;> (rw [List.eq_of_mem_replicate h]; decide)
theorem vaa:ym ["self","looks"] ["self","looks"] (yj ytv):=⟨rfl,rfl,rfl,by decide +kernel,rfl,by decide +kernel,by decide +kernel⟩
structure vd1 (K:W.Frag) (a:Ads) (H H':Hp) (p:Addr) (n:Nat) (lk:Nat->Addr) (kd:Nat->Fin 3) (ps:Nat->List Int) (A:FA) (f:Nat->List Int->Option Slt) (O:Nat->Addr->Prop):Prop where
 ft:z0 K a H' p A (FX0 n kd) f O 6
 en:A.n=n
 elk:A.lk=lk
 ekd:A.kd=kd
 eps:A.ps=ps
 oO:∀ j c,j < n->O j c->H c=none
 oB:∀ j,j < n->H (A.bk j)=none
 oM:H A.mp=none
 oL:∀ l,(l=A.bl\/l=A.el\/l=A.ml\/l=A.pl)->H l=none
def yn1 (K:W.Frag) (a:Ads):Sp:=fun vs H Q E=>∃ (p dp:Addr) (x:V),vs=[.ref p,x]/\H p=some (.ins a.C_Ft dp []) /\
 ((yj9 K H x/\∀ H',vi H H'->E (.ref a.C_NL) none H')\/∃ (l:Addr) (n:Nat) (lk:Nat->Addr) (kd:Nat->Fin 3) (tp:Nat->Addr) (ps:Nat->List Int),x=.ref l/\H l=some (.lst (xy lk n))/\1 <= n/\n <= 6/\ya2 H n lk kd tp ps /\
  ∀ A f O H',vd1 K a H H' p n lk kd ps A f O->But p H H'->Q .non H')
theorem yqb (T:Txt K mg a):wv P w K mg base (CXe P w) 6 a.f_q36 a.d_q36 ["self","looks"] (yn1 K a):=by
 refine T.y_q36.F.okE vaa (fun vs H Q E h=>?_) (fun cdv A outer s H vs Q E hr h=>?_)
 ·obtain ⟨p,dp,x,rfl,_⟩:=h
  rfl
 ·obtain ⟨p,dp,x,rfl,hp,h⟩:=h
  refine yu (v7 (pv 0) (ve (yza T) (hr.mono (by decide)) rfl T.y_q28.m T.y_q28.F.kp T.y_q28.B .nil v6 (yb (pv 1) yd (ya rfl))) rfl) ?_
  refine yu (v7 (pv 0) (j4 rfl (xc (yw (pv 0) rfl)) (fun C s2 H2 fp=>(yl0 T.k_Book (yxh T) (hr.mono (by decide)) rfl T.m_Book T.y_q31.B .nil vv (yb (pv 0) yd (ya rfl))))) rfl) ?_
  refine yu (v7 (pv 0) (yl0 T.k_Mx (yz7 T) (hr.mono (by decide)) rfl T.m_Mx T.y_q33.B .nil vv (yb (yt vn rfl T.z_len (by decide +kernel) (yb (yw (pv 0) rfl) yd (ya rfl))) yd (ya rfl))) rfl) ?_
  refine yu (v7 (pv 0) (vk yd) rfl) ?_
  refine yu (v7 (pv 0) yg rfl) ?_
  refine yu (v7 (pv 0) (vk yd) rfl) ?_
  refine ⟨_,(yf (vz (xf (pv 0) T.cl_Ft T.y_q37.m (yrd T) (hr.mono (by decide)) T.y_q37.B .nil vv))),?_⟩
  try dsimp only [wk]
  refine yn (σ':=[some _,some _]) rfl ?_
  walk_at "rd"
  rcases h with ⟨hb,k⟩ | ⟨l,n,lk,kd,tp,ps,rfl,hl,n1,n6,hlk,k⟩
  ·rcases hb with ⟨nm,ty,hn⟩ | ⟨l,xs,bs,rfl,hl,hz,hbs,no⟩
   ·exact .inl ⟨x,nm,rfl,ty,hn,k _ (vi.refl _)⟩
   ·exact .inr ⟨l,xs,bs,rfl,hl,hz,hbs,fun z=>absurd z no,fun _ H' S=>k _ S⟩
  ·refine .inr ⟨l,xy lk n,List.replicate (xy lk n).length true,rfl,hl,by rw [wc]; omega,hlk.lks.bs,fun _ ll H1 hll0 hll1 S1=>?_,fun no=>absurd ⟨by rw [wc]; exact n1,by rw [wc]; exact n6,ys6 _⟩ no⟩
   have hp1:=S1 _ _ hp
   have hlk1:=hlk.same S1
   walk_at "rd"
   have hpA:upd H1 p (HO.ins a.C_Ft dp ([("looks",V.ref ll)]:List (Str × V))) p=some (HO.ins a.C_Ft dp ([("looks",V.ref ll)]:List (Str × V))):=yc
   have BA:But p H1 (upd H1 p (HO.ins a.C_Ft dp ([("looks",V.ref ll)]:List (Str × V)))):=But.upd
   have nlp:ll≠p:=(ye hp hll0).symm
   have hllA:upd H1 p (HO.ins a.C_Ft dp ([("looks",V.ref ll)]:List (Str × V))) ll=some (.lst (xy lk n)):=yq nlp hll1
   generalize upd H1 p (HO.ins a.C_Ft dp ([("looks",V.ref ll)]:List (Str × V)))=HA at hpA BA hllA ⊢
   have B0A:But p H HA:=(But.of S1).trans BA
   have hRA:ya2 HA n lk kd tp ps:=fun i hi=>by
    obtain ⟨q,e,h1,h2,h3⟩:=hlk i hi
    exact ⟨q,e,B0A _ _ h1 (uh h1 hp (by intro z; cases z)),B0A _ _ h2 (uh h2 hp (by intro z; cases z)),h3⟩
   refine ⟨p,_,dp,_,_,rfl,hpA,T.cl_Ft,T.n_Ft_looks,rfl,?_⟩
   refine ⟨ll,rfl,⟨_,SqL.of hllA⟩,fun bl hbl0=>?_⟩
   refine uo (K:=K) (xs:=xy lk n) (fun i G=>∃ (bk dx dd:Nat->Addr) (f2:Nat->List Int->Option Slt) (O2:Nat->Addr->Prop),G bl=some (.lst (xy bk i))/\ypk K a HA G i bk dx lk dd kd ps f2 O2/\vi HA G)
    ⟨fun _=>0,fun _=>0,fun _=>0,fun _ _=>none,fun _ _=>False,yc,ypk.zero,vh hbl0⟩ (fun i G _ z=>?_) (fun i y G hy hi z=>?_) (fun G z=>?_)
   ·obtain ⟨_,_,_,_,_,_,_,SG⟩:=z
    exact SqL.of (SG _ _ hllA)
   ·obtain ⟨bk,dx,dd,f2,O2,gbl,gN,SG⟩:=z
    obtain ⟨rfl,hin⟩:=zq hy
    walk_at "rd"
    intro q dq nq ndq neq
    have SQ:vi G (upd (upd G dq (.own q)) q (.ins a.C_Book dq [])):=fun b o e=>by rw [yp (ye e nq),yp (ye e ndq)]; exact e
    refine ⟨q,dq,lk i,kd i,rfl,yc,fun d G2 hd0 hb2 B2=>⟨rfl,?_⟩⟩
    have S2':vi G G2:=fun b o e=>B2 b o (SQ b o e) (ye e nq)
    refine xz (n:=(xy lk n).length) (S2' _ _ gbl) (wq (by rw [wc]; omega)) hi ?_
    refine ⟨_,_,_,_,_,?_,gN.next ((hRA i hin).same SG).at' SG nq (SQ.free hd0) S2' hb2 gbl,fun b o e=>yq (ye e hbl0) (S2' _ _ (SG b o e))⟩
    rw [yc,jd,xn]
    congr 3
    exact zf fun j hj=>(xj hj).symm
   obtain ⟨bk,dx,dd,f2,O2,gbl,gN,SG⟩:=z
   rw [wc] at gbl gN
   have hpG:=SG _ _ hpA
   walk_at "rd"
   have SAG:∀ c o,HA c=some o->c≠p->upd G p (HO.ins a.C_Ft dp ([("looks",V.ref ll),("books",V.ref bl)]:List (Str × V))) c=some o:=fun c o e ne=>yq ne (SG _ _ e)
   have hpB:upd G p (HO.ins a.C_Ft dp ([("looks",V.ref ll),("books",V.ref bl)]:List (Str × V))) p=some (HO.ins a.C_Ft dp ([("looks",V.ref ll),("books",V.ref bl)]:List (Str × V))):=yc
   have nbp:bl≠p:=(ye hpA hbl0).symm
   have hblB:upd G p (HO.ins a.C_Ft dp ([("looks",V.ref ll),("books",V.ref bl)]:List (Str × V))) bl=some (.lst (xy bk n)):=yq nbp gbl
   have BP:∀ {fs:List (Str × V)},But p G (upd G p (HO.ins a.C_Ft dp fs)):=But.upd
   have npO:∀ j,j < n->¬ O2 j p:=fun j hj w=>by
    have e:=gN.2.2.1 j p hj w
    rw [hpA] at e
    cases e
   have bkB:∀ {G':Hp},But p G G'->Bks K a G' n bk dx lk dd kd ps f2 O2 0:=fun {G'} B=>gN.1.frame (O2:=fun c=>c=p) (fun c o e ne=>B c o e ne) (fun j c hj w z=>npO j hj (z ▸ w)) (fun j hj z=>by
    have e:=gN.2.2.2 j hj
    rw [z,hpA] at e
    cases e) (fun t xs e=>by
    rcases e with (e | ⟨o,e⟩) | e
    ·exact .inl (.inl (B _ _ e (fun z=>by rw [z,hpG] at e; cases e)))
    ·exact .inl (.inr ⟨o,B _ _ e (fun z=>by rw [z,hpG] at e; cases e)⟩)
    ·exact .inr e)
   have BB:But p G (upd G p (HO.ins a.C_Ft dp ([("looks",V.ref ll),("books",V.ref bl)]:List (Str × V)))):=But.upd
   generalize upd G p (HO.ins a.C_Ft dp ([("looks",V.ref ll),("books",V.ref bl)]:List (Str × V)))=HB at SAG hpB hblB BB ⊢
   refine ⟨p,_,dp,_,_,rfl,hpB,T.cl_Ft,T.n_Ft_looks,rfl,?_⟩
   refine yap (SqL.of (SAG _ _ hllA nlp)) ?_
   rw [wc]
   walk_at "rd"
   intro mp mx nmp nmx nem
   have SM:vi HB (upd (upd HB mx (.own mp)) mp (.ins a.C_Mx mx [])):=fun b o e=>by rw [yp (ye e nmp),yp (ye e nmx)]; exact e
   refine ⟨mp,mx,n,rfl,n1,n6,yc,fun ml HC hml0 MC BC=>⟨rfl,?_⟩⟩
   have SC:vi HB HC:=fun b o e=>BC b o (SM b o e) (ye e nmp)
   have hpC:=SC _ _ hpB
   have hblC:=SC _ _ hblB
   have hml0':HB ml=none:=SM.free hml0
   have nmpp:mp≠p:=(ye hpB nmp).symm
   have nmlp:ml≠p:=(ye hpB hml0').symm
   walk_at "rd"
   refine ⟨by walk_at "len",fun el hel0=>?_⟩
   have nel:el≠p:=fun z=>by rw [z,yc] at hel0; cases hel0
   have hel0':HC el=none:=by rw [yp nel] at hel0; exact hel0
   have hpD:upd (upd HC p (HO.ins a.C_Ft dp ([("looks",V.ref ll),("books",V.ref bl),("mixer",V.ref mp)]:List (Str × V)))) el (.lst []) p=some (HO.ins a.C_Ft dp ([("looks",V.ref ll),("books",V.ref bl),("mixer",V.ref mp)]:List (Str × V))):=yq nel.symm yc
   have helD:upd (upd HC p (HO.ins a.C_Ft dp ([("looks",V.ref ll),("books",V.ref bl),("mixer",V.ref mp)]:List (Str × V)))) el (.lst []) el=some (.lst []):=yc
   have BD:But p HC (upd (upd HC p (HO.ins a.C_Ft dp ([("looks",V.ref ll),("books",V.ref bl),("mixer",V.ref mp)]:List (Str × V)))) el (.lst [])):=fun b o e ne=>yq (ye e hel0') (yq ne e)
   generalize upd (upd HC p (HO.ins a.C_Ft dp ([("looks",V.ref ll),("books",V.ref bl),("mixer",V.ref mp)]:List (Str × V)))) el (.lst [])=HD at hpD helD BD ⊢
   walk_at "rd"
   refine ⟨by walk_at "len",fun pl0 hpl0=>?_⟩
   have npl:pl0≠p:=fun z=>by rw [z,yc] at hpl0; cases hpl0
   have hpl0':HD pl0=none:=by rw [yp npl,yp npl] at hpl0; exact hpl0
   have hpE:upd (upd (upd HD p (HO.ins a.C_Ft dp ([("looks",V.ref ll),("books",V.ref bl),("mixer",V.ref mp),("ended",V.ref el)]:List (Str × V)))) p (HO.ins a.C_Ft dp ([("looks",V.ref ll),("books",V.ref bl),("mixer",V.ref mp),("ended",V.ref el),("place",V.int 0)]:List (Str × V)))) pl0 (.lst []) p=some (HO.ins a.C_Ft dp ([("looks",V.ref ll),("books",V.ref bl),("mixer",V.ref mp),("ended",V.ref el),("place",V.int 0)]:List (Str × V))):=yq npl.symm yc
   have BE:But p HD (upd (upd (upd HD p (HO.ins a.C_Ft dp ([("looks",V.ref ll),("books",V.ref bl),("mixer",V.ref mp),("ended",V.ref el)]:List (Str × V)))) p (HO.ins a.C_Ft dp ([("looks",V.ref ll),("books",V.ref bl),("mixer",V.ref mp),("ended",V.ref el),("place",V.int 0)]:List (Str × V)))) pl0 (.lst [])):=fun b o e ne=>yq (ye e hpl0') (yq ne (yq ne e))
   generalize upd (upd (upd HD p (HO.ins a.C_Ft dp ([("looks",V.ref ll),("books",V.ref bl),("mixer",V.ref mp),("ended",V.ref el)]:List (Str × V)))) p (HO.ins a.C_Ft dp ([("looks",V.ref ll),("books",V.ref bl),("mixer",V.ref mp),("ended",V.ref el),("place",V.int 0)]:List (Str × V)))) pl0 (.lst [])=HE at hpE BE ⊢
   walk_at "rd"
   have BF:But p HE (upd HE p (.ins a.C_Ft dp (xx (.ref ll) (.ref bl) (.ref mp) (.ref el) (.int 0) (.ref pl0)))):=But.upd
   have hpF:upd HE p (.ins a.C_Ft dp (xx (.ref ll) (.ref bl) (.ref mp) (.ref el) (.int 0) (.ref pl0))) p=some (.ins a.C_Ft dp (xx (.ref ll) (.ref bl) (.ref mp) (.ref el) (.int 0) (.ref pl0))):=yc
   generalize upd HE p (.ins a.C_Ft dp (xx (.ref ll) (.ref bl) (.ref mp) (.ref el) (.int 0) (.ref pl0)))=HF at hpF BF ⊢
   have BCF:But p HC HF:=(BD.trans BE).trans BF
   have BGF:But p G HF:=fun b o e ne=>BCF b o (SC _ _ (BB b o e ne)) ne
   have moF:=BCF _ _ MC.o nmpp
   have mlF:=BCF _ _ MC.l nmlp
   have blF:=BCF _ _ hblC nbp
   have elF:=BF _ _ (BE _ _ helD nel) nel
   refine ⟨p,dp,ll,bl,mp,el,pl0,0,[],n,0,bk,dx,lk,dd,kd,ps,f2,O2,fun i _=>kd0 (kd i),rfl,hpF,blF,elF,bkB BGF,gN.ag,n6,by omega,npO,fun pl sl f' O' H' me' pl' hpl' B' ag' at' hO' F' L'=>?_⟩
   have freeG:∀ {c:Addr},c≠p->HF c=none->G c=none:=fun {c} ne h=>by
    cases e:G c with
    | none=>rfl
    | some o=>rw [BGF _ _ e ne] at h; cases h
   have live2:∀ j c,j < n->O2 j c->∃ o,G c=some o:=fun j c hj w=>let ⟨o,ho,_⟩:=(gN.1.b j hj).own c w; ⟨o,ho⟩
   have nO:∀ {c:Addr} {o:HO},HF c=some o->va7 o=false->∀ j,j < n->¬ O2 j c:=fun {c o} e hi j hj w=>by
    obtain ⟨o',ho',hi'⟩:=((bkB BGF).b j hj).own c w
    rw [e] at ho'
    cases ho'
    rw [hi] at hi'
    cases hi'
   have nOm:∀ j,j < n->¬ O2 j mp:=fun j hj w=>by
    obtain ⟨o,ho⟩:=live2 j mp hj w
    have e:=BB _ _ ho nmpp
    rw [nmp] at e
    cases e
   have toH:∀ {c:Addr},c≠p->HA c=none->H c=none:=fun {c} ne h=>by
    cases e:H c with
    | none=>rfl
    | some o=>rw [B0A _ _ e ne] at h; cases h
   have GtoA:∀ {c:Addr},G c=none->HA c=none:=fun {c} h=>SG.free h
   have BtoG:∀ {c:Addr},c≠p->HB c=none->G c=none:=fun {c} ne h=>by
    cases e:G c with
    | none=>rfl
    | some o=>rw [BB _ _ e ne] at h; cases h
   have CtoB:∀ {c:Addr},HC c=none->HB c=none:=fun {c} h=>SC.free h
   refine k ⟨dp,ll,bl,mp,mx,ml,el,pl,n,bk,dx,lk,dd,sl,kd,ps⟩ f' O' H' ⟨⟨me',F' _ _ blF nbp (nO blF rfl),F' _ _ elF nel (nO elF rfl),⟨F' _ _ moF nmpp nOm,F' _ _ mlF nmlp (nO mlF rfl)⟩,?_,pl',⟨B'.look,fun i hi=>(B'.b i hi).up (by omega),B'.dj,B'.nb⟩,ag',at',fun j hj w=>?_,fun j hj w=>?_,n1,n6⟩,rfl,rfl,rfl,rfl,fun j c hj w=>?_,fun j hj=>?_,?_,fun c hc=>?_⟩ ?_
   ·exact vav n n1 n6
   ·rcases hO' j p hj w with v | v
    ·exact npO j hj v
    ·rw [hpF] at v; cases v
   ·rcases hO' j mp hj w with v | v
    ·exact nOm j hj v
    ·rw [moF] at v; cases v
   ·have ncp:c≠p:=fun z=>by
     rw [z] at w
     rcases hO' j p hj w with v | v
     ·exact npO j hj v
     ·rw [hpF] at v; cases v
    rcases hO' j c hj w with v | v
    ·exact toH ncp (gN.2.2.1 j c hj v)
    ·exact toH ncp (GtoA (freeG ncp v))
   ·have nbk:bk j≠p:=fun z=>by
     have e:=gN.2.2.2 j hj
     rw [z,hpA] at e
     cases e
    exact toH nbk (gN.2.2.2 j hj)
   ·exact toH nmpp (GtoA (BtoG nmpp nmp))
   ·rcases hc with z | z | z | z
    ·rw [z]
     exact toH nbp hbl0
    ·rw [z]
     exact toH nel (GtoA (BtoG nel (CtoB hel0')))
    ·rw [z]
     exact toH nmlp (GtoA (BtoG nmlp hml0'))
    ·rw [z]
     have nplp:pl≠p:=(ye hpF hpl').symm
     exact toH nplp (GtoA (freeG nplp hpl'))
   ·intro c o e ne
    refine F' c o (BGF _ _ (SG _ _ (B0A c o e ne)) ne) ne fun j hj w=>?_
    have e2:=gN.2.2.1 j c hj w
    rw [B0A c o e ne] at e2
    cases e2
theorem ygs:∀ (ts:List Int) (q j:Nat) (s:Int),ts[q]?=some s->j <= 8->(dec ts)[9 * q+j]?=(1 :: b8 s)[j]?
 | [],_,_,_,h,_=>by simp at h
 | t :: r,0,j,s,h,hj=>by
  have e:t=s:=by simpa using h
  subst e
  show ((1 :: b8 t)++dec r)[9 * 0+j]?=_
  rw [Nat.mul_zero,Nat.zero_add,List.getElem?_append_left (by rw [List.length_cons,yqf]; omega)]
 | t :: r,q+1,j,s,h,hj=>by
  have h':r[q]?=some s:=by simpa using h
  show ((1 :: b8 t)++dec r)[9 * (q+1)+j]?=_
  have l9:(1 :: b8 t).length=9:=rfl
  rw [List.getElem?_append_right (by rw [l9]; omega),l9,show 9 * (q+1)+j - 9=9 * q+j by omega]
  exact ygs r q j s h' hj
theorem ysd (ts:List Int):(dec ts)[9 * ts.length]?=some 0:=by
 rw [yo8,List.getElem?_append_right (by rw [jq]; exact Nat.le_refl _),jq,Nat.sub_self]
 rfl
def yhf (ts:List Int) (k:Nat) (sg:List Int) (nd:Int):Prop:=∃ q j:Nat,k=9 * q+j/\j <= 8/\sg=ts.take q/\((j=0/\nd=0/\q <= ts.length)\/(1 <= j/\∃ s,ts[q]?=some s/\nd=(256+s) / 2 ^ (9 - j)))
theorem yhf.zero (ts:List Int):yhf ts 0 [] 0:=⟨0,0,rfl,by omega,by simp,.inl ⟨rfl,rfl,Nat.zero_le _⟩⟩
theorem yhf.nd {ts:List Int} {k:Nat} {sg:List Int} {nd:Int} (h:yhf ts k sg nd) (hs:Sgs ts):0 <= nd/\nd < 256:=by
 obtain ⟨q,j,_,hj,_,h⟩:=h
 rcases h with ⟨_,h,_⟩ | ⟨h1,s,hs',h⟩
 ·omega
 ·have:=hs s (List.mem_of_getElem? hs')
  obtain rfl | rfl | rfl | rfl | rfl | rfl | rfl | rfl:j=1\/j=2\/j=3\/j=4\/j=5\/j=6\/j=7\/j=8:=by omega
  all_goals (simp only [Nat.reduceSub,Int.reducePow] at h; omega)
theorem yhf.len {ts:List Int} {k:Nat} {sg:List Int} {nd:Int} (h:yhf ts k sg nd):sg.length <= ts.length:=by
 obtain ⟨q,j,_,_,hsg,_⟩:=h
 rw [hsg,List.length_take]
 omega
theorem yhf.next {ts:List Int} {k:Nat} {sg:List Int} {nd b:Int} (h:yhf ts k sg nd) (hs:Sgs ts) (hb:(dec ts)[k]?=some b) :
  (k < 9 * ts.length/\yhf ts (k+1) (sgN sg nd b) (ndN nd b))\/(k=9 * ts.length/\sgN sg nd b=[]/\ndN nd b=0):=by
 obtain ⟨q,j,hk,hj,hsg,h⟩:=h
 rcases h with ⟨h0,hn,hq⟩ | ⟨h1,s,hs',hn⟩
 ·subst h0
  rcases Nat.lt_or_ge q ts.length with hl | hl
  ·refine .inl ⟨by omega,?_⟩
   have e:=ygs ts q 0 ts[q] (List.getElem?_eq_getElem hl) (by omega)
   rw [<- hk,hb] at e
   have e:b=1:=by simpa using e
   have:=hs ts[q] (List.getElem_mem hl)
   unfold sgN ndN
   rw [if_neg (by omega),if_pos e,if_neg (by omega),if_pos e]
   refine ⟨q,1,by omega,by omega,hsg,.inr ⟨by omega,ts[q],List.getElem?_eq_getElem hl,?_⟩⟩
   simp only [Nat.reduceSub,Int.reducePow]
   omega
  ·have hq':q=ts.length:=by omega
   have e:=ysd ts
   rw [<- hq',show 9 * q=k by omega,hb] at e
   have e:b=0:=by simpa using e
   refine .inr ⟨by omega,?_,?_⟩
   ·unfold sgN
    rw [if_neg (by omega),if_neg (by omega)]
   ·unfold ndN
    rw [if_neg (by omega),if_neg (by omega)]
    exact hn
 ·have hsg':=hs s (List.mem_of_getElem? hs')
  have hl:q < ts.length:=(List.getElem?_eq_some_iff.mp hs').1
  have e:=ygs ts q j s hs' hj
  rw [<- hk,hb] at e
  have eb:some b=(b8 s)[j - 1]?:=by
   obtain ⟨i,rfl⟩:∃ i,j=i+1:=⟨j - 1,by omega⟩
   simpa using e
  refine .inl ⟨by omega,?_⟩
  by_cases h8:j=8
  ·subst h8
   have eb:b=s / 1 % 2:=Option.some.inj eb
   simp only [Nat.reduceSub,Int.reducePow] at hn
   have e1:2 * nd+b=256+s:=by omega
   unfold sgN ndN
   rw [if_pos (by omega),if_pos (by omega),if_pos (by omega),if_pos (by omega)]
   refine ⟨q+1,0,by omega,by omega,?_,.inl ⟨rfl,rfl,by omega⟩⟩
   rw [hsg,show 2 * nd+b - 256=s by omega,yat hs']
  ·have main:0 < nd/\2 * nd+b < 256/\2 * nd+b=(256+s) / 2 ^ (9 - (j+1)):=by
    obtain rfl | rfl | rfl | rfl | rfl | rfl | rfl:j=1\/j=2\/j=3\/j=4\/j=5\/j=6\/j=7:=by omega
    ·have eb:b=s / 128 % 2:=Option.some.inj eb
     simp only [Nat.reduceSub,Nat.reduceAdd,Int.reducePow] at hn ⊢
     omega
    ·have eb:b=s / 64 % 2:=Option.some.inj eb
     simp only [Nat.reduceSub,Nat.reduceAdd,Int.reducePow] at hn ⊢
     omega
    ·have eb:b=s / 32 % 2:=Option.some.inj eb
     simp only [Nat.reduceSub,Nat.reduceAdd,Int.reducePow] at hn ⊢
     omega
    ·have eb:b=s / 16 % 2:=Option.some.inj eb
     simp only [Nat.reduceSub,Nat.reduceAdd,Int.reducePow] at hn ⊢
     omega
    ·have eb:b=s / 8 % 2:=Option.some.inj eb
     simp only [Nat.reduceSub,Nat.reduceAdd,Int.reducePow] at hn ⊢
     omega
    ·have eb:b=s / 4 % 2:=Option.some.inj eb
     simp only [Nat.reduceSub,Nat.reduceAdd,Int.reducePow] at hn ⊢
     omega
    ·have eb:b=s / 2 % 2:=Option.some.inj eb
     simp only [Nat.reduceSub,Nat.reduceAdd,Int.reducePow] at hn ⊢
     omega
   obtain ⟨m1,m2,m3⟩:=main
   unfold sgN ndN
   rw [if_pos m1,if_neg (by omega),if_pos m1,if_neg (by omega)]
   exact ⟨q,j+1,by omega,by omega,hsg,.inr ⟨by omega,s,hs',m3⟩⟩
theorem z0.up {K:W.Frag} {a:Ads} {H:Hp} {p:Addr} {A:FA} {X:FX} {f:Nat->List Int->Option Slt} {O:Nat->Addr->Prop} {m m':Nat} (h:z0 K a H p A X f O m) (hm:m <= m'):z0 K a H p A X f O m' :=
 ⟨h.me,h.bl,h.el,h.mx,h.wok,h.pl,⟨h.B.look,fun i hi=>(h.B.b i hi).up hm,h.B.dj,h.B.nb⟩,h.ag,h.at',h.np,h.nm,h.n1,h.n6⟩
structure Lw (K:W.Frag) (a:Ads) (H:Hp) (p:Addr) (A:FA) (X:FX) (f:Nat->List Int->Option Slt) (O:Nat->Addr->Prop) (m:Nat) (bk dx dd:Nat->Addr) (f2:Nat->List Int->Option Slt) (O2:Nat->Addr->Prop) (mp mx ml:Addr) (ws:List Int):Prop where
 ft:z0 K a H p A X f O m
 bs:Bks K a H A.n bk dx A.lk dd A.kd A.ps f2 O2 m
 mx:ypj a mp mx ml ws H
 dj:∀ i j c,i < A.n->j < A.n->O i c->¬ O2 j c
 n1:∀ i j,i < A.n->j < A.n->¬ O i (bk j)
 n2:∀ i j,i < A.n->j < A.n->¬ O2 i (A.bk j)
 n3:∀ i,i < A.n->¬ O2 i p/\¬ O2 i A.mp/\¬ O2 i mp/\¬ O i mp
 n4:mp≠A.mp
 n5:ml≠A.el
section
variable {K:W.Frag} {a:Ads} {H H':Hp} {p:Addr} {A:FA} {X:FX} {f:Nat->List Int->Option Slt} {O:Nat->Addr->Prop} {m:Nat} {bk dx dd:Nat->Addr} {f2:Nat->List Int->Option Slt} {O2:Nat->Addr->Prop} {mp mx ml:Addr} {ws:List Int}
theorem uu {C D d e p q:Addr} {fs gs:List (Str × V)} (hp:H p=some (.ins C d fs)) (hq:H q=some (.ins D e gs)) (hl:fs.length≠gs.length):p≠q:=fun z=>by
 rw [z,hq] at hp
 injection hp with hp
 injection hp with _ _ e
 exact hl (congrArg List.length e).symm
end
def KpA (B G:Hp) (e0 e:Addr):Prop:=∀ c o,B c=some o->va7 o=false->c≠e0->c≠e/\G c=some o
theorem KpA.lst {B G:Hp} {e0 e c:Addr} {xs:List V} (h:KpA B G e0 e) (hc:B c=some (.lst xs)) (ne:c≠e0):G c=some (.lst xs):=(h c _ hc rfl ne).2
def TxE (ts:List Int) (k:Nat) (sg:List Int) (nd:Int):Prop:=(k <= 9 * ts.length/\yhf ts k sg nd)\/(k=9 * ts.length+1/\sg=[]/\nd=0)
theorem TxE.next {ts:List Int} {k:Nat} {sg:List Int} {nd b:Int} (h:TxE ts k sg nd) (hs:Sgs ts) (hb:(dec ts)[k]?=some b):yhf ts k sg nd/\TxE ts (k+1) (sgN sg nd b) (ndN nd b):=by
 rcases h with ⟨hk,h⟩ | ⟨hk,_⟩
 ·refine ⟨h,?_⟩
  rcases h.next hs hb with ⟨h1,h2⟩ | ⟨h1,h2,h3⟩
  ·exact .inl ⟨by omega,h2⟩
  ·exact .inr ⟨by omega,h2,h3⟩
 ·rw [hk,List.getElem?_eq_none (by rw [yaw]; exact Nat.le_refl _)] at hb
  cases hb
theorem yzz:ym ["self"] ["self"] (yj yvo):=⟨rfl,rfl,rfl,by decide +kernel,rfl,by decide +kernel,by decide +kernel⟩
def yf4 (K:W.Frag) (a:Ads):Sp:=fun vs H Q _=>∃ (p:Addr) (A:FA) (X:FX) (f:Nat->List Int->Option Slt) (O:Nat->Addr->Prop) (m:Nat),vs=[.ref p]/\z0 K a H p A X f O m/\∀ r H',H r=none->H' r=some (.lst ((X.cs A).map V.int))->vi H H'->Q (.ref r) H'
theorem ypr (T:Txt K mg a):wv P w K mg base CX0 2 a.f_q38 a.d_q38 ["self"] (yf4 K a):=by
 refine T.y_q38.F.ok yzz (fun vs H Q E h=>?_) (fun cdv A outer s H vs Q E hr h=>?_)
 ·obtain ⟨p,A,X,f,O,m,rfl,_⟩:=h
  rfl
 ·obtain ⟨p,A',X,f,O,m,rfl,h,k⟩:=h
  have hp:=h.me
  have n6:=h.n6
  refine ⟨_,(yf (yv (j4 rfl (xc (yw (pv 0) rfl)) (fun C s2 H2 fp=>(yia (xf (pv 0) T.cl_Even T.y_q15.m (yyq T) (hr.mono (by decide)) T.y_q15.B .nil vv) (yia (xf (pv 0) T.cl_Quick T.y_q18.m (ywt T) (hr.mono (by decide)) T.y_q18.B .nil vv) (xf (pv 0) T.cl_Run T.y_q21.m (yzi T) (hr.mono (by decide)) T.y_q21.B .nil vv))))))),?_⟩
  try dsimp only [wk]
  refine yn (σ':=[some _]) rfl ?_
  walk_at "rd"
  refine ⟨A'.pl,rfl,⟨_,SqL.of h.pl⟩,fun D hD=>?_⟩
  refine uo (K:=K) (xs:=xy A'.sl A'.n) (Mp H D (fun i=>V.int (X.g i (X.key A' i)).due)) (Mp.zero hD) (fun _ _ _ q=>q.1.seq (SqL.of h.pl)) (fun i y H2 hy hi q=>?_) (fun H2 q=>?_)
  ·obtain ⟨S2,hD2⟩:=q
   obtain ⟨rfl,hin⟩:=zq hy
   obtain ⟨_,⟨dq,hs⟩,ok,_⟩:=h.slot hin
   refine yki (fun Q' h=>va0 rfl h) (S2 _ _ hs) ok ?_
   exact Mp.doneR hD (wq (by rw [wc]; omega)) hi S2 hD2 rfl
  ·obtain ⟨S2,hD2⟩:=q
   rw [wc] at hD2
   refine k D _ hD ?_ S2
   rw [hD2]
   unfold FX.cs
   rw [List.map_map]
   rfl
theorem yx9:ym ["self"] ["self"] (yj yu2):=⟨rfl,rfl,rfl,by decide +kernel,rfl,by decide +kernel,by decide +kernel⟩
def yiz (K:W.Frag) (a:Ads):Sp:=fun vs H Q _=>∃ (p:Addr) (A:FA) (X:FX) (f:Nat->List Int->Option Slt) (O:Nat->Addr->Prop) (m:Nat),vs=[.ref p]/\z0 K a H p A X f O m/\∀ H',vi H H'->Q (.int (yrk X.ws (X.cs A))) H'
theorem yq3 (T:Txt K mg a):wv P w K mg base CX0 3 a.f_q39 a.d_q39 ["self"] (yiz K a):=by
 refine T.y_q39.F.ok yx9 (fun vs H Q E h=>?_) (fun cdv A outer s H vs Q E hr h=>?_)
 ·obtain ⟨p,A,X,f,O,m,rfl,_⟩:=h
  rfl
 ·obtain ⟨p,A',X,f,O,m,rfl,h,k⟩:=h
  have hp:=h.me
  have hmo:=h.mx.o
  refine ⟨_,(yf (yv (ut (yw (pv 0) rfl) T.cl_Mx T.y_q34.m (yy1 T) (hr.mono (by decide)) T.y_q34.B .nil vv (yb (xf (pv 0) T.cl_Ft T.y_q38.m (ypr T) (hr.mono (by decide)) T.y_q38.B .nil vv) yd (ya rfl))))),?_⟩
  try dsimp only [wk]
  refine yn (σ':=[some _]) rfl ?_
  walk_at "rd"
  refine ⟨p,A',X,f,O,m,rfl,h,fun r H1 hr0 hr1 S1=>?_⟩
  walk_at "rd"
  exact ⟨A'.mp,A'.mx,A'.ml,r,X.ws,X.cs A',A'.n,rfl,h.n1,h.n6,h.wok,h.cok,h.mx.same S1,SqL.of hr1,fun H2 S2=>k _ (S1.trans S2)⟩
theorem yzj:ym ["self","bit"] ["self","bit"] (yj yup):=⟨rfl,rfl,rfl,by decide +kernel,rfl,by decide +kernel,by decide +kernel⟩
def ys2 (a:Ads):Sp:=fun vs H Q _=>∃ (p dp ll bl mp el pl:Addr) (nd b:Int) (sg:List Int),vs=[.ref p,.int b]/\H p=some (.ins a.C_Ft dp (xx (.ref ll) (.ref bl) (.ref mp) (.ref el) (.int nd) (.ref pl)))/\H el=some (.lst (sg.map V.int))/\sg.length <= 100000/\0 < nd /\
 ∀ H',H' p=some (.ins a.C_Ft dp (xx (.ref ll) (.ref bl) (.ref mp) (.ref el) (.int (ndN nd b)) (.ref pl)))->H' el=some (.lst ((sgN sg nd b).map V.int))->(∀ c o,H c=some o->c≠p->c≠el->H' c=some o)->Q .non H'
theorem yyz (T:Txt K mg a):wv P w K mg base CX0 1 a.f_q42 a.d_q42 ["self","bit"] (ys2 a):=by
 refine T.y_q42.F.ok yzj (fun vs H Q E h=>?_) (fun cdv A outer s H vs Q E hr h=>?_)
 ·obtain ⟨p,dp,ll,bl,mp,el,pl,nd,b,sg,rfl,_⟩:=h
  rfl
 ·obtain ⟨p,dp,ll,bl,mp,el,pl,nd,b,sg,rfl,hp,he,hz,h0,k⟩:=h
  refine ⟨_,(yi (v7 (pv 0) (yo wu (yo w8 yg (yw (pv 0) rfl)) (pv 1)) rfl) (yf (wj (yz vbo (yw (pv 0) rfl) (v9 rfl T.c_NODES_END) (vq _)) (yi (vz (yhc PySem.F.plainAttrs_list PySem.F.slot_list_append PySem.F.type_list_append xh (yw (pv 0) rfl) (yb (yo ux (yw (pv 0) rfl) (v9 rfl T.c_NODES_END)) yd (ya rfl)))) (yf (v7 (pv 0) yg rfl))) vf))),?_⟩
  try dsimp only [wk]
  refine yn (σ':=[some _,some _]) rfl ?_
  unfold ndN sgN at k
  rw [if_pos h0,if_pos h0] at k
  have nep:el≠p:=uh he hp (by intro z; cases z)
  walk_at "rd"
  have hp1:upd H p (.ins a.C_Ft dp (xx (.ref ll) (.ref bl) (.ref mp) (.ref el) (.int (2 * nd+b)) (.ref pl))) p=some (.ins a.C_Ft dp (xx (.ref ll) (.ref bl) (.ref mp) (.ref el) (.int (2 * nd+b)) (.ref pl))):=yc
  have he1:=yq (o':=HO.ins a.C_Ft dp (xx (.ref ll) (.ref bl) (.ref mp) (.ref el) (.int (2 * nd+b)) (.ref pl))) nep he
  have B1:But p H (upd H p (.ins a.C_Ft dp (xx (.ref ll) (.ref bl) (.ref mp) (.ref el) (.int (2 * nd+b)) (.ref pl)))):=But.upd
  generalize upd H p (.ins a.C_Ft dp (xx (.ref ll) (.ref bl) (.ref mp) (.ref el) (.int (2 * nd+b)) (.ref pl)))=H1 at hp1 he1 B1 ⊢
  walk_at "rd"
  refine zn (fun hb=>?_) (fun hb=>?_)
  ·rw [if_pos hb,if_pos hb] at k
   walk_at "rd"
   refine yfo he1 ?_
   walk_at "rd"
   refine jo he1 (wq (by rw [List.length_map]; omega)) ?_
   have hp2:=yq (o':=HO.lst (List.map V.int sg++[V.int (2 * nd+b - 256)])) (Ne.symm nep) hp1
   walk_at "rd"
   refine k _ yc ?_ fun c o e n1 n2=>yq n1 (yq n2 (B1 _ _ e n1))
   rw [yp nep,yc,List.map_append]
   rfl
  ·rw [if_neg hb,if_neg hb] at k
   walk_at "rd"
   exact k _ hp1 he1 fun c o e n1 n2=>B1 _ _ e n1
theorem yzu:ym ["self","bit"] ["self","bit"] (yj yu7):=⟨rfl,rfl,rfl,by decide +kernel,rfl,by decide +kernel,by decide +kernel⟩
def yn4 (a:Ads):Sp:=fun vs H Q _=>∃ (p dp ll bl mp el pl:Addr) (nd b:Int) (sg:List Int),vs=[.ref p,.int b]/\H p=some (.ins a.C_Ft dp (xx (.ref ll) (.ref bl) (.ref mp) (.ref el) (.int nd) (.ref pl)))/\H el=some (.lst (sg.map V.int))/\sg.length <= 100000/\0 <= nd /\
 ∀ (el':Addr) H',(el'=el\/H el'=none)->H' p=some (.ins a.C_Ft dp (xx (.ref ll) (.ref bl) (.ref mp) (.ref el') (.int (ndN nd b)) (.ref pl)))->H' el'=some (.lst ((sgN sg nd b).map V.int))->(∀ c o,H c=some o->c≠p->c≠el->H' c=some o)->(∃ o,H' el=some o)->Q .non H'
theorem yxv (T:Txt K mg a):wv P w K mg base CX0 2 a.f_q41 a.d_q41 ["self","bit"] (yn4 a):=by
 refine T.y_q41.F.ok yzu (fun vs H Q E h=>?_) (fun cdv A outer s H vs Q E hr h=>?_)
 ·obtain ⟨p,dp,ll,bl,mp,el,pl,nd,b,sg,rfl,_⟩:=h
  rfl
 ·obtain ⟨p,dp,ll,bl,mp,el,pl,nd,b,sg,rfl,hp,he,hz,h0,k⟩:=h
  refine ⟨_,(yf (wj (yz yu3 (yw (pv 0) rfl) yg (vq _)) (yf (vz (ut (pv 0) T.cl_Ft T.y_q42.m (yyz T) (hr.mono (by decide)) T.y_q42.B .nil vv (yb (pv 1) yd (ya rfl))))) (yf (wj (yz uj (pv 1) yg (vq _)) (yf (v7 (pv 0) yg rfl)) (yf (v7 (pv 0) (vk yd) rfl)))))),?_⟩
  try dsimp only [wk]
  refine yn (σ':=[some _,some _]) rfl ?_
  have nep:el≠p:=uh he hp (by intro z; cases z)
  walk_at "rd"
  refine zn (fun hn=>?_) (fun hn=>?_)
  ·walk_at "rd"
   exact ⟨p,dp,ll,bl,mp,el,pl,nd,b,sg,rfl,hp,he,hz,hn,fun H' h1 h2 h3=>k el H' (.inl rfl) h1 h2 h3 ⟨_,h2⟩⟩
  ·unfold ndN sgN at k
   rw [if_neg hn,if_neg hn] at k
   walk_at "rd"
   refine zn (fun hb=>?_) (fun hb=>?_)
   ·rw [if_pos hb,if_pos hb] at k
    walk_at "rd"
    exact k el _ (.inl rfl) yc (yq nep he) (fun c o e n1 _=>yq n1 e) ⟨_,yq nep he⟩
   ·rw [if_neg hb,if_neg hb] at k
    walk_at "rd"
    refine ⟨by walk_at "len",fun r hr0=>?_⟩
    with_reducible first | refine yh hr0 fun H1 S1 e1=>?_ | refine yk hr0 fun H1 S1 e1=>?_
    have hp1:=S1 _ _ hp
    walk_at "rd"
    have nrp:r≠p:=fun z=>by rw [z,hp] at hr0; cases hr0
    exact k r _ (.inr hr0) yc (yq nrp e1) (fun c o e n1 _=>yq n1 (S1 _ _ e)) ⟨_,yq nep (S1 _ _ he)⟩
theorem ypq:ym ["self","bit","slot"] ["self","bit"] (yj yvk):=⟨rfl,rfl,rfl,by decide +kernel,rfl,by decide +kernel,by decide +kernel⟩
def yry (K:W.Frag) (a:Ads):Sp:=fun vs H Q _=>∃ (p:Addr) (A:FA) (X:FX) (f:Nat->List Int->Option Slt) (O:Nat->Addr->Prop) (m:Nat) (b:Int),vs=[.ref p,.int b]/\z0 K a H p A X f O m/\0 <= b/\b <= 1/\m+20 < 1000000/\0 <= X.nd/\X.sg.length <= 100000 /\
 ∀ (ml el pl:Addr) (sl:Nat->Addr) (f':Nat->List Int->Option Slt) (O':Nat->Addr->Prop) (H':Hp),(el=A.el\/H el=none)->z0 K a H' p { A with ml:=ml,el:=el,pl:=pl,sl:=sl } (X.see A b) f' O' (m+A.n)->(∀ j c,j < A.n->O' j c->O j c\/H c=none) ->
  (∀ c o,H c=some o->c≠p->c≠A.mp->c≠A.el->(∀ j,j < A.n->¬ O j c)->H' c=some o)->(∀ c o,H c=some o->∃ o',H' c=some o')->H ml=none->Q .non H'
theorem yml (T:Txt K mg a):wv P w K mg base CX0 6 a.f_q40 a.d_q40 ["self","bit"] (yry K a):=by
 refine T.y_q40.F.ok ypq (fun vs H Q E h=>?_) (fun cdv A outer s H vs Q E hr h=>?_)
 ·obtain ⟨p,A,X,f,O,m,b,rfl,_⟩:=h
  rfl
 ·obtain ⟨p,A',X,f,O,m,b,rfl,h,b0,b1,hm,hnd,hsg,k⟩:=h
  have hp:=h.me
  have hmo:=h.mx.o
  have n6:=h.n6
  have hbit:=yxk b0 b1
  refine yu (vz (ve (yca T) (hr.mono (by decide)) rfl T.y_q10.m T.y_q10.F.kp T.y_q10.B .nil xm (yb (pv 1) yd (ya rfl)))) ?_
  refine yu (vz (zt (yw (pv 0) rfl) T.cl_Mx T.y_q35.m (yyb T) (hr.mono (by decide)) T.y_q35.B .nil xm (yb (xf (pv 0) T.cl_Ft T.y_q38.m (ypr T) (hr.mono (by decide)) T.y_q38.B .nil vv) (yb (pv 1) yd (ya rfl)) (ya rfl)))) ?_
  refine yu (ya7 PassesOwn.never rfl (xc (yw (pv 0) rfl)) (ub (i:=2) ypq.nd rfl (Or.inl rfl)) (yf (vz (yia (zt (pv 2) T.cl_Even T.y_q16.m (yzg T) (hr.mono (by decide)) T.y_q16.B .nil xm (yb (pv 1) yd (ya rfl))) (yia (zt (pv 2) T.cl_Quick T.y_q19.m (yx5 T) (hr.mono (by decide)) T.y_q19.B .nil xm (yb (pv 1) yd (ya rfl))) (zt (pv 2) T.cl_Run T.y_q22.m (yxd T) (hr.mono (by decide)) T.y_q22.B .nil xm (yb (pv 1) yd (ya rfl)))))))) ?_
  refine yu (vz (ut (pv 0) T.cl_Ft T.y_q41.m (yxv T) (hr.mono (by decide)) T.y_q41.B .nil vv (yb (pv 1) yd (ya rfl)))) ?_
  refine ⟨_,(yf (vz (xf (pv 0) T.cl_Ft T.y_q37.m (yrd T) (hr.mono (by decide)) T.y_q37.B .nil vv))),?_⟩
  try dsimp only [wk]
  refine yn (σ':=[some _,some _,none]) rfl ?_
  walk_at "rd"
  refine ⟨.int b,_,rfl,.int b,fun _=>?_,fun z=>(by rw [hbit] at z; cases z)⟩
  walk_at "rd"
  refine ⟨p,A',X,f,O,m,rfl,h,fun r H1 hr0 hr1 S1=>?_⟩
  have hmo1:=S1 _ _ hmo
  walk_at "rd"
  refine ⟨A'.mp,A'.mx,A'.ml,r,X.ws,X.cs A',A'.n,.int b,_,rfl,h.n1,n6,h.wok,h.cok,h.mx.same S1,SqL.of hr1,.int b,fun b' e _ _ ml H2 hml0 M2 B2=>?_,fun z=>(by rw [hbit] at z; cases z)⟩
  cases e
  have h1:=h.same S1
  have npm:p≠A'.mp:=fun z=>by
   have:=h.me
   rw [z,hmo] at this
   injection this with this
   injection this with _ _ e
   exact absurd (congrArg List.length e) (show ¬ (1=6) by decide)
  have hp2:=B2 _ _ h1.me npm
  have nl2:∀ {l:Addr} {xs:List V},H1 l=some (.lst xs)->l≠A'.mp:=fun {l xs} e z=>by rw [z,hmo1] at e; cases e
  have hbl2:=B2 _ _ h1.bl (nl2 h1.bl)
  have hel2:=B2 _ _ h1.el (nl2 h1.el)
  have hpl2:=B2 _ _ h1.pl (nl2 h1.pl)
  have Bk2:=h1.B.frame (O2:=fun c=>c=A'.mp) (fun c o e ne=>B2 c o e ne) (fun j c hj w z=>h.nm j hj (z ▸ w)) (fun j hj z=>by
   have:=(h1.B.b j hj).me
   rw [z,hmo1] at this
   injection this with this
   injection this with _ _ e
   exact absurd (congrArg List.length e) (show ¬ (1=2) by decide)) (fun t xs e=>by
   rcases e with (e | ⟨o,e⟩) | e
   ·exact .inl (.inl (B2 _ _ e (fun z=>by rw [z,hmo1] at e; cases e)))
   ·exact .inl (.inr ⟨o,B2 _ _ e (fun z=>by rw [z,hmo1] at e; cases e)⟩)
   ·exact .inr e)
  have at2:∀ j,j < A'.n->(∃ s,f j (X.key A' j)=some s)/\AtS H2 (A'.dd j) (X.key A' j) (A'.sl j):=fun j hj=>⟨(h1.at' j hj).1,(h1.at' j hj).2.told (h1.B.b j hj) (fun z=>h.nm j hj (by rw [<- z]; exact (h1.B.b j hj).dO)) B2⟩
  walk_at "rd"
  refine ⟨A'.pl,rfl,⟨_,SqL.of hpl2⟩,yam (K:=K) (a:=A'.pl) (xs:=xy A'.sl A'.n) (fun i σ2 G=>∃ (v:Option V) (f':Nat->List Int->Option Slt),σ2=[some (.ref p),some (.int b),v]/\Bks K a G A'.n A'.bk A'.dx A'.lk A'.dd A'.kd A'.ps f' O m /\
    (∀ j,j < A'.n->∀ k,(f' j k).getD (kd0 (A'.kd j))=if j < i/\k=X.key A' j then (X.g j k).see b else X.g j k)/\(∀ j,j < A'.n->(∃ s,f' j (X.key A' j)=some s)/\AtS G (A'.dd j) (X.key A' j) (A'.sl j))/\(∀ c o,H2 c=some o->(∀ j,j < A'.n->¬ O j c)->G c=some o))
   ⟨_,f,rfl,Bk2,fun j hj k'=>by rw [if_neg (fun z=>absurd z.1 (Nat.not_lt_zero j))]; exact h.ag j hj k',at2,fun c o e _=>e⟩ (fun i σ2 G _ ⟨_,_,_,_,_,_,w⟩=>SqL.of (w _ _ hpl2 (Bk2.nlst hpl2))) ?_ ?_⟩
  ·rintro i y σ2 G hy ⟨v,f',rfl,gB,gA,gS,gF⟩
   obtain ⟨rfl,hin⟩:=zq hy
   obtain ⟨⟨s',hs'⟩,hat⟩:=gS i hin
   have es:s'=X.g i (X.key A' i):=by
    have:=gA i hin (X.key A' i)
    rw [hs',if_neg (fun z=>absurd z.1 (Nat.lt_irrefl i))] at this
    exact this
   obtain ⟨dq,hq,ok,hkd,hOq⟩:=(gB.b i hin).slot hs' hat
   walk_at "rd"
   refine ytk (x:=.int b) (fun Q' h=>?_) (fun Q' h=>?_) hq ok (.int b) (fun b' e _ _ G3 h3 B3=>?_) (fun z=>by rw [hbit] at z; cases z) (fun z=>by rw [hbit] at z; cases z) (fun z=>by rw [hbit] at z; cases z)
   ·walk_at "rd"
    exact h
   ·walk_at "rd"
    exact h
   cases e
   have hb3:=(gB.b i hin).told hs' hat b0 b1 h3 B3
   have BO:ypg (O i) G G3:=fun c o e no=>B3 _ _ e fun z=>no (by rw [z]; exact hOq)
   have M3:=gB.move hin (Nat.le_refl m) hb3 (fun c w=>.inl w) BO
   have eO:(fun j=>if j=i then O i else O j)=O:=by
    funext j
    by_cases z:j=i
    ·rw [if_pos z,z]
    ·rw [if_neg z]
   rw [eO] at M3
   have ndq:A'.dd i≠A'.sl i:=fun z=>by
    obtain ⟨kvs,loc,w1,_⟩:=(gB.b i hin).tb
    obtain ⟨C,fs,eo⟩:=yfi a dq s'
    rw [z,hq,eo] at w1
    cases w1
   walk_at "rd"
   refine ⟨_,_,rfl,M3,fun j hj k'=>?_,fun j hj=>?_,fun c o e no=>?_⟩
   ·try dsimp only
    by_cases z:j=i
    ·subst z
     rw [if_pos rfl]
     unfold yd8
     by_cases w:k'=X.key A' j
     ·rw [if_pos w,if_pos ⟨Nat.lt_succ_self j,w⟩,w,<- es]
      rfl
     ·rw [if_neg w,if_neg (fun z=>w z.2)]
      have:=gA j hj k'
      rw [if_neg (fun z=>w z.2)] at this
      exact this
    ·rw [if_neg z,gA j hj k']
     have:(j < i/\k'=X.key A' j) ↔ (j < i+1/\k'=X.key A' j):=by constructor <;> (rintro ⟨u,v⟩; exact ⟨by omega,v⟩)
     by_cases w:j < i/\k'=X.key A' j
     ·rw [if_pos w,if_pos (this.mp w)]
     ·rw [if_neg w,if_neg (fun z=>w (this.mpr z))]
   ·try dsimp only
    by_cases z:j=i
    ·subst z
     rw [if_pos rfl]
     refine ⟨⟨s'.see b,?_⟩,hat.told (gB.b j hin) ndq B3⟩
     unfold yd8
     rw [if_pos rfl]
    ·rw [if_neg z]
     exact ⟨(gS j hj).1,(gS j hj).2.move gB hj hin z BO⟩
   ·exact BO _ _ (gF c o e no) (no i hin)
  ·rintro σ2 G ⟨v,f',rfl,gB,gA,gS,gF⟩
   rw [wc] at gA
   have gp:=gF _ _ hp2 h.np
   have gel:=gF _ _ hel2 (Bk2.nlst hel2)
   have gbl:=gF _ _ hbl2 (Bk2.nlst hbl2)
   have gmo:=gF _ _ M2.o h.nm
   have gml:=gF _ _ M2.l (Bk2.nlst M2.l)
   walk_at "rd"
   refine ⟨p,A'.dp,A'.ll,A'.bl,A'.mp,A'.el,A'.pl,X.nd,b,X.sg,rfl,gp,gel,hsg,hnd,fun el H4 hel' me4 el4 F4 L4=>?_⟩
   have nlp:∀ {l:Addr} {xs:List V},G l=some (.lst xs)->l≠p:=fun {l xs} e z=>by rw [z,gp] at e; cases e
   have npO:∀ j,j < A'.n->¬ O j p:=h.np
   have nelO:=gB.nlst gel
   have Bk4:=gB.frame (O2:=fun c=>c=p\/c=A'.el) (fun c o e ne=>F4 c o e (fun z=>ne (.inl z)) (fun z=>ne (.inr z))) (fun j c hj w z=>by
    rcases z with z | z
    ·exact npO j hj (z ▸ w)
    ·exact nelO j hj (z ▸ w)) (fun j hj z=>by
    have:=(gB.b j hj).me
    rcases z with z | z
    ·rw [z,gp] at this
     injection this with this
     injection this with _ _ e
     exact absurd (congrArg List.length e) (show ¬ (6=2) by decide)
    ·rw [z,gel] at this
     cases this) (fun t xs e=>by
    rcases e with (e | ⟨o,e⟩) | e
    ·exact .inl (.inl (F4 _ _ e (fun z=>by rw [z,gp] at e; cases e) (fun z=>by rw [z,gel] at e; cases e)))
    ·exact .inl (.inr ⟨o,F4 _ _ e (fun z=>by rw [z,gp] at e; cases e) (fun z=>by rw [z,gel] at e; cases e)⟩)
    ·exact .inr e)
   have nbe:A'.bl≠A'.el:=fun z=>by
    have e:=h.bl
    rw [z,h.el] at e
    injection e with e
    injection e with e
    have e0:=congrArg (fun l:List V=>l[0]?) e
    have r0:(xy A'.bk A'.n)[0]?=some (.ref (A'.bk 0)):=by
     unfold xy
     rw [List.getElem?_map,List.getElem?_range h.n1]
     rfl
    try dsimp only at e0
    rw [r0,List.getElem?_map] at e0
    cases hs:X.sg[0]? with
    | none=>rw [hs] at e0; cases e0
    | some c=>rw [hs] at e0; cases e0
   have nme:ml≠A'.el:=(ye h1.el hml0).symm
   have bl4:=F4 _ _ gbl (nlp gbl) nbe
   have mo4:=F4 _ _ gmo (Ne.symm npm) (fun z=>by rw [z,gel] at gmo; cases gmo)
   have ml4:=F4 _ _ gml (nlp gml) nme
   have live4:∀ c o,H c=some o->∃ o',H4 c=some o':=fun c o e=>by
    by_cases zp:c=p
    ·exact ⟨_,zp ▸ me4⟩
    by_cases ze:c=A'.el
    ·rw [ze]
     exact L4
    have gc:∃ o',G c=some o':=by
     by_cases zm:c=A'.mp
     ·exact ⟨_,zm ▸ gmo⟩
     by_cases zo:∀ j,j < A'.n->¬ O j c
     ·exact ⟨o,gF _ _ (B2 _ _ (S1 _ _ e) zm) zo⟩
     ·have:∃ j,j < A'.n/\O j c:=Classical.byContradiction fun w=>zo fun j hj w'=>w ⟨j,hj,w'⟩
      obtain ⟨j,hj,w⟩:=this
      obtain ⟨o',ho',_⟩:=(gB.b j hj).own c w
      exact ⟨o',ho'⟩
    obtain ⟨o',ho'⟩:=gc
    exact ⟨o',F4 _ _ ho' zp ze⟩
   have ag4:ypf A'.n A'.kd f' (X.see A' b).g:=fun j hj k'=>by
    rw [gA j hj k']
    show _=if k'=X.key A' j then (X.g j k').see b else X.g j k'
    by_cases w:k'=X.key A' j
    ·rw [if_pos ⟨hj,w⟩,if_pos w]
    ·rw [if_neg (fun z=>w z.2),if_neg w]
   walk_at "rd"
   refine ⟨p,A'.dp,A'.ll,A'.bl,A'.mp,el,A'.pl,ndN X.nd b,sgN X.sg X.nd b,A'.n,m,A'.bk,A'.dx,A'.lk,A'.dd,A'.kd,A'.ps,f',O,(X.see A' b).g,rfl,me4,bl4,el4,Bk4,ag4,n6,by omega,h.np,fun pl sl f2 O2 H5 me5 pl5 hpl0 B5 ag5 at5 hO5 F5 L5=>?_⟩
   have nlO4:∀ {l:Addr} {xs:List V},H4 l=some (.lst xs)->l≠p:=fun {l xs} e z=>by rw [z,me4] at e; cases e
   have n2:∀ j c,j < A'.n->O2 j c->O j c\/H c=none:=fun j c hj w=>by
    rcases hO5 j c hj w with v | v
    ·exact .inl v
    ·refine .inr ?_
     cases e:H c with
     | none=>rfl
     | some o =>
      obtain ⟨o',ho'⟩:=live4 c o e
      rw [ho'] at v
      cases v
   refine k ml el pl sl f2 O2 H5 ?_ ⟨me5,F5 _ _ bl4 (nlO4 bl4) (Bk4.nlst bl4),F5 _ _ el4 (nlO4 el4) (Bk4.nlst el4),⟨F5 _ _ mo4 (Ne.symm npm) h.nm,F5 _ _ ml4 (nlO4 ml4) (Bk4.nlst ml4)⟩,yqv h.n1 n6 h.wok h.cok,pl5,B5,ag5,at5,fun j hj w=>?_,fun j hj w=>?_,h.n1,n6⟩ n2 (fun c o e c1 c2 c3 no=>F5 _ _ (F4 _ _ (gF _ _ (B2 _ _ (S1 _ _ e) c2) no) c1 c3) c1 no) (fun c o e=>let ⟨o',w⟩:=live4 c o e; L5 c o' w) (S1.free hml0)
   ·rcases hel' with z | z
    ·exact .inl z
    ·refine .inr ?_
     cases e:H el with
     | none=>rfl
     | some o =>
      exfalso
      by_cases zp:el=p
      ·rw [zp,gp] at z; cases z
      by_cases zm:el=A'.mp
      ·rw [zm,gmo] at z; cases z
      by_cases zo:∀ j,j < A'.n->¬ O j el
      ·rw [gF _ _ (B2 _ _ (S1 _ _ e) zm) zo] at z; cases z
      ·have:∃ j,j < A'.n/\O j el:=Classical.byContradiction fun w=>zo fun j hj w'=>w ⟨j,hj,w'⟩
       obtain ⟨j,hj,w⟩:=this
       obtain ⟨o',ho',_⟩:=(gB.b j hj).own el w
       rw [ho'] at z
       cases z
   ·rcases n2 j p hj w with v | v
    ·exact h.np j hj v
    ·rw [hp] at v; cases v
   ·rcases n2 j A'.mp hj w with v | v
    ·exact h.nm j hj v
    ·rw [hmo] at v; cases v
theorem ymu:ym ["number","size","places"] ["number","size"] (yj yul):=⟨rfl,rfl,rfl,by decide +kernel,rfl,by decide +kernel,by decide +kernel⟩
def yi2:Sp:=fun vs H Q _=>∃ (n:Int) (k:Nat),vs=[.int n,.int k]/\k <= 100000/\∀ t H',H t=none->H' t=some (.lst ((wr k n).map V.int))->vi H H'->Q (.ref t) H'
theorem yy5 (T:Txt K mg a):wv P w K mg base CX0 1 a.f_q43 a.d_q43 ["number","size"] yi2:=by
 refine T.y_q43.F.ok ymu (fun vs H Q E h=>?_) (fun cdv A outer s H vs Q E hr h=>?_)
 ·obtain ⟨n,k',rfl,_⟩:=h
  rfl
 ·obtain ⟨n,k',rfl,hk,k⟩:=h
  refine ⟨_,(yi (yy (i:=2) ymu.nd rfl (Or.inl rfl) (vk yd)) (yi (yai PassesOwn.never (yz yfr (yt vn rfl T.z_len (by decide +kernel) (yb (pv 2) yd (ya rfl))) (pv 1) (vq _)) (yi (vz (yhc PySem.F.plainAttrs_list PySem.F.slot_list_append PySem.F.type_list_append xh (pv 2) (yb (yo wn (pv 0) yg) yd (ya rfl)))) (yf (yy (i:=0) ymu.nd rfl (Or.inl rfl) (yo wa (pv 0) yg))))) (yi (vz (yq6 PySem.F.plainAttrs_list PySem.F.slot_list_reverse PySem.F.type_list_reverse yi8 (pv 2))) (yf (yv (pv 2)))))),?_⟩
  try dsimp only [wk]
  refine yn (σ':=[some _,some _,none]) rfl ?_
  walk_at "rd"
  refine ⟨by walk_at "len",fun t ht=>?_⟩
  walk_at "rd"
  refine ⟨fun m σ' H1=>∃ (n':Int) (xs:List Int),σ'=[some (.int n'),some (.int k'),some (.ref t)]/\H1 t=some (.lst (xs.map V.int))/\vi H H1/\xs++lo (k' - xs.length) n'=lo k' n/\xs.length <= k'/\m=k' - xs.length,⟨_,n,[],rfl,yc,vh ht,rfl,Nat.zero_le _,rfl⟩,?_⟩
  rintro m σ2 H2 ⟨n',xs,rfl,h2,S2,e2,l2,rfl⟩
  walk_at "rd"
  refine yap (SqL.of h2) ?_
  rw [List.length_map]
  walk_at "rd"
  refine zn (fun hb=>?_) (fun hb=>?_)
  ·refine yfl ?_
   walk_at "rd"
   refine yfo h2 ?_
   walk_at "rd"
   refine jo h2 (by rw [List.length_map]; exact wq (by omega)) ?_
   walk_at "rd"
   refine ⟨_,?_,n' / 256,xs++[n' % 256],rfl,(yc.trans (by rw [yn5])),fun b o e=>?_,?_,?_,rfl⟩
   ·rw [List.length_append]
    show k' - (xs.length+1) < k' - xs.length
    omega
   ·rw [yp (ye e ht)]
    exact S2 b o e
   ·have el:k' - xs.length=k' - (xs++[n' % 256]).length+1:=by
     rw [List.length_append]
     show k' - xs.length=k' - (xs.length+1)+1
     omega
    rw [el] at e2
    rw [<- e2,List.append_assoc]
    rfl
   ·rw [List.length_append]
    show xs.length+1 <= k'
    omega
  ·walk_at "rd"
   have el:k' - xs.length=0:=by omega
   rw [el] at e2
   have e3:xs=lo k' n:=by rw [<- e2]; simp [lo]
   refine yfo h2 ?_
   refine yln h2 ?_
   walk_at "rd"
   refine k t _ ht ?_ fun b o e=>?_
   ·rw [yc,ysg,e3]
    rfl
   ·rw [yp (ye e ht)]
    exact S2 b o e
theorem ywr:ym ["low","unit"] ["low","unit"] (yj yut):=⟨rfl,rfl,rfl,by decide +kernel,rfl,by decide +kernel,by decide +kernel⟩
def ych:Sp:=fun vs H Q _=>∃ l e:Int,vs=[.int l,.int e]/\0 < e/\e < 2 ^ 63/\Q (.int (blk l e)) H
theorem ypv (T:Txt K mg a):wv P w K mg base CX0 1 a.f_q44 a.d_q44 ["low","unit"] ych:=by
 refine T.y_q44.F.ok ywr (fun vs H Q E h=>?_) (fun cdv A outer s H vs Q E hr h=>?_)
 ·obtain ⟨l,e,rfl,_⟩:=h
  rfl
 ·obtain ⟨l,e,rfl,h1,h2,k⟩:=h
  refine ⟨_,(yf (yv (yo wa (yo ux (yo wu (pv 0) (pv 1)) yg) (pv 1)))),?_⟩
  try dsimp only [wk]
  refine yn (σ':=[some _,some _]) rfl ?_
  walk_at "rd"
  exact k
theorem ywj:ym ["self"] ["self"] (yj yvm):=⟨rfl,rfl,rfl,by decide +kernel,rfl,by decide +kernel,by decide +kernel⟩
def yrq (C:Addr):Sp:=fun vs H Q _=>∃ (p dx:Addr),vs=[.ref p]/\H p=some (.ins C dx [])/\∀ H',H' p=some (.ins C dx (jl s0))->But p H H'->Q .non H'
theorem yqi (T:Txt K mg a):wv P w K mg base CX0 1 a.f_q45 a.d_q45 ["self"] (yrq a.C_Span):=by
 refine T.y_q45.F.ok ywj (fun vs H Q E h=>?_) (fun cdv A outer s H vs Q E hr h=>?_)
 ·obtain ⟨p,dx,rfl,_⟩:=h
  rfl
 ·obtain ⟨p,dx,rfl,hp,k⟩:=h
  refine ⟨_,(yi (v7 (pv 0) yg rfl) (yi (v7 (pv 0) (v9 rfl T.c_FIRST_WIDTH) rfl) (yf (v7 (pv 0) (v9 rfl T.c_FIRST_SIZE) rfl)))),?_⟩
  try dsimp only [wk]
  refine yn (σ':=[some _]) rfl ?_
  walk_at "rd"
  refine ⟨p,_,dx,_,rfl,hp,T.cl_Span,T.n_Span_low,by show 0 < 1000; decide,?_⟩
  walk_at "rd"
  refine ⟨p,_,dx,_,rfl,yc,T.cl_Span,T.n_Span_width,by show 1 < 1000; decide,?_⟩
  walk_at "rd"
  refine ⟨p,_,dx,_,rfl,yc,T.cl_Span,T.n_Span_size,by show 2 < 1000; decide,?_⟩
  have e:wo "size" (.int 5) (wo "width" (.int 1099511627776) (wo "low" (.int 0) []))=jl s0:=by
   rw [xo,we nLW xo,we nLS (we nWS xo)]
   rfl
  refine k _ (yc.trans (congrArg (fun l=>some (HO.ins a.C_Span dx l)) e)) fun b o h n=>?_
  rw [yp n,yp n,yp n]
  exact h
theorem yx6:ym ["self","chance"] ["self","chance"] (yj yvv):=⟨rfl,rfl,rfl,by decide +kernel,rfl,by decide +kernel,by decide +kernel⟩
def yv7 (C:Addr):Sp:=fun vs H Q _=>∃ (p dx:Addr) (x:Sn) (c:Int),vs=[.ref p,.int c]/\H p=some (.ins C dx (jl x))/\Ch c/\Q (.int (cut x.2.1 c)) H
theorem yp5 (T:Txt K mg a):wv P w K mg base CX0 1 a.f_q46 a.d_q46 ["self","chance"] (yv7 a.C_Span):=by
 refine T.y_q46.F.ok yx6 (fun vs H Q E h=>?_) (fun cdv A outer s H vs Q E hr h=>?_)
 ·obtain ⟨p,dx,x,c,rfl,_⟩:=h
  rfl
 ·obtain ⟨p,dx,x,c,rfl,hp,⟨c1,c2⟩,k⟩:=h
  refine ⟨_,(yf (yv (yo wa (yo w8 (yw (pv 0) rfl) (pv 1)) (v9 rfl T.c_ONE)))),?_⟩
  try dsimp only [wk]
  refine yn (σ':=[some _,some _]) rfl ?_
  walk_at "rd"
  exact k
theorem yp2:ym ["self","chance","bit","cut"] ["self","chance","bit"] (yj yvw):=⟨rfl,rfl,rfl,by decide +kernel,rfl,by decide +kernel,by decide +kernel⟩
def yli (K:W.Frag) (C Nc Nb:Addr):Sp:=fun vs H Q E=>∃ (p dx:Addr) (x:Sn) (vc vb:V) (n m:String),vs=[.ref p,vc,vb]/\H p=some (.ins C dx (jl x))/\Ok x/\xw K H vc (.type n)/\xw K H vb (.type m) /\
 (chV vc=false->E (.ref Nc) none H)/\(chV vc=true->ybg vb=false->E (.ref Nb) none H) /\
 ∀ c b:Int,vc=.int c->vb=.int b->Ch c->0 <= b->b <= 1->∀ H',H' p=some (.ins C dx (jl (nar x c b)))->But p H H'->Q .non H'
theorem yqd (T:Txt K mg a):wv P w K mg base (CXe P w) 4 a.f_q47 a.d_q47 ["self","chance","bit"] (yli K a.C_Span a.C_NC a.C_NB):=by
 refine T.y_q47.F.okE yp2 (fun vs H Q E h=>?_) (fun cdv A outer s H vs Q E hr h=>?_)
 ·obtain ⟨p,dx,x,vc,vb,n,m,rfl,_⟩:=h
  rfl
 ·obtain ⟨p,dx,x,vc,vb,n,m,rfl,hp,hx,tc,tb,k1,k2,k⟩:=h
  refine ⟨_,(yi (vz (ve (yuw T) (hr.mono (by decide)) rfl T.y_q9.m T.y_q9.F.kp T.y_q9.B .nil v6 (yb (pv 1) yd (ya rfl)))) (yi (vz (ve (yca T) (hr.mono (by decide)) rfl T.y_q10.m T.y_q10.F.kp T.y_q10.B .nil v6 (yb (pv 2) yd (ya rfl)))) (yi (yy (i:=3) yp2.nd rfl (Or.inl rfl) (ut (pv 0) T.cl_Span T.y_q46.m (yp5 T) (hr.mono (by decide)) T.y_q46.B .nil vv (yb (pv 1) yd (ya rfl)))) (yi (jx (wj (yz uj (pv 2) yg (vq _)) (yf (v7 (pv 0) (pv 3) rfl)) (yi (v7 (pv 0) (yo wu (yw (pv 0) rfl) (pv 3)) rfl) (yf (v7 (pv 0) (yo ux (yw (pv 0) rfl) (pv 3)) rfl))))) (yf (PS.nox (yai PassesOwn.never (yz yfr (yw (pv 0) rfl) (v9 rfl T.c_LEAST_WIDTH) (vq _)) (yi (v7 (pv 0) (yo w8 (yw (pv 0) rfl) yg) rfl) (yi (v7 (pv 0) (yo w8 (yw (pv 0) rfl) yg) rfl) (yf (v7 (pv 0) (yo wu (yw (pv 0) rfl) yg) rfl))))))))))),?_⟩
  try dsimp only [wk]
  refine yn (σ':=[some _,some _,some _,none]) rfl ?_
  have hw0:=hx.w0
  have hw1:=hx.w1
  walk_at "rd"
  refine ⟨vc,n,rfl,tc,fun hvc=>?_,k1⟩
  walk_at "rd"
  refine ⟨vb,m,rfl,tb,fun hvb=>?_,k2 hvc⟩
  obtain ⟨c,rfl,c1,c2⟩:=ygy hvc
  obtain ⟨b,rfl,b0,b1⟩:=yhz hvb
  have hc:Ch c:=⟨c1,c2⟩
  have k:=k c b rfl rfl hc b0 b1
  walk_at "rd"
  refine ⟨p,dx,_,rfl,hp,lkN _ (by decide +kernel) (by decide +kernel) (by decide +kernel),?_⟩
  walk_at "rd"
  refine ⟨p,dx,x,c,rfl,hp,hc,?_⟩
  walk_at "rd"
  obtain ⟨a1,a2,a3⟩:=yig hw0 hw1 hc
  refine ycj (fun σ' H'=>∃ y:Sn,σ'=[some (.ref p),some (.int c),some (.int b),some (.int (cut x.2.1 c))]/\H' p=some (.ins a.C_Span dx (jl y))/\8388608 <= y.2.1/\y.2.1 <= 1099511627776/\ren y.1 y.2.1 y.2.2=nar x c b/\But p H H') ?_ ?_
  ·walk_at "rd"
   refine zn (fun hb=>?_) (fun hb=>?_)
   ·walk_at "rd"
    refine ⟨_,rfl,yc,a1,Int.le_of_lt a3,?_,But.upd⟩
    unfold nar
    (rw [if_pos hb]) <;> rfl
   ·walk_at "rd"
    refine ⟨_,rfl,yc,a2,?_,?_,But.upd.trans But.upd⟩
    ·show x.2.1 - cut x.2.1 c <= _
     omega
    ·unfold nar
     (rw [if_neg hb]) <;> rfl
  ·rintro σ' H' ⟨y,rfl,hp',y1,y2,y3,y4⟩
   refine ⟨fun m σ' H'=>∃ y:Sn,σ'=[some (.ref p),some (.int c),some (.int b),some (.int (cut x.2.1 c))]/\H' p=some (.ins a.C_Span dx (jl y))/\8388608 <= y.2.1/\y.2.1 <= 1099511627776/\ren y.1 y.2.1 y.2.2=nar x c b/\But p H H'/\m=(4294967296 - y.2.1).toNat,⟨_,y,rfl,hp',y1,y2,y3,y4,rfl⟩,?_⟩
   rintro m σ2 H2 ⟨z,rfl,hz,z1,z2,z3,z4,rfl⟩
   walk_at "rd"
   refine zn (fun hb=>?_) (fun hb=>?_)
   ·refine yfl ?_
    walk_at "rd"
    refine ⟨_,?_,(z.1 * 256,z.2.1 * 256,z.2.2+1),rfl,yc,?_,?_,(yn6 hb z1).trans z3,((z4.trans But.upd).trans But.upd).trans But.upd,rfl⟩
    ·show (4294967296 - z.2.1 * 256).toNat < (4294967296 - z.2.1).toNat
     omega
    ·show 8388608 <= z.2.1 * 256
     omega
    ·show z.2.1 * 256 <= 1099511627776
     omega
   ·rw [ytn hb] at z3
    refine k _ ?_ z4
    rw [<- z3]
    exact hz
theorem ywm:ym ["self","unit"] ["self","unit"] (yj yvd):=⟨rfl,rfl,rfl,by decide +kernel,rfl,by decide +kernel,by decide +kernel⟩
def yod (C:Addr):Sp:=fun vs H Q _=>∃ (p dx:Addr) (x:Sn) (j:Nat),vs=[.ref p,.int (pw j)]/\H p=some (.ins C dx (jl x))/\j <= 6/\Q (.bl (decide (yj4 x.1 x.2.1 j))) H
theorem yzs (T:Txt K mg a):wv P w K mg base CX0 2 a.f_q48 a.d_q48 ["self","unit"] (yod a.C_Span):=by
 refine T.y_q48.F.ok ywm (fun vs H Q E h=>?_) (fun cdv A outer s H vs Q E hr h=>?_)
 ·obtain ⟨p,dx,x,j,rfl,_⟩:=h
  rfl
 ·obtain ⟨p,dx,x,j,rfl,hp,hj,k⟩:=h
  refine ⟨_,(yf (yv (yaz jj (yo w8 (yo wu (vg (ypv T) (hr.mono (by decide)) rfl T.y_q44.m T.y_q44.F.kp T.y_q44.B .nil vv (yb (yw (pv 0) rfl) (yb (pv 1) yd (ya rfl)) (ya rfl))) yg) (pv 1)) (yo wu (yw (pv 0) rfl) (yw (pv 0) rfl)) (vq _)))),?_⟩
  try dsimp only [wk]
  refine yn (σ':=[some _,some _]) rfl ?_
  have q1:=yhw hj
  have q2:=uy j
  walk_at "rd"
  refine ⟨_,_,rfl,q2,by omega,?_⟩
  walk_at "rd"
  exact k
theorem yfn:ym ["self","unit","size"] ["self"] (yj yu8):=⟨rfl,rfl,rfl,by decide +kernel,rfl,by decide +kernel,by decide +kernel⟩
def ytj (C:Addr):Sp:=fun vs H Q _=>∃ (p dx:Addr) (x:Sn),vs=[.ref p]/\H p=some (.ins C dx (jl x))/\OkS x/\sz x <= 100000/\∀ t H',H t=none->H' t=some (.lst ((tL x).map V.int))->vi H H'->Q (.ref t) H'
theorem yqy (T:Txt K mg a):wv P w K mg base CX0 3 a.f_q49 a.d_q49 ["self"] (ytj a.C_Span):=by
 refine T.y_q49.F.ok yfn (fun vs H Q E h=>?_) (fun cdv A outer s H vs Q E hr h=>?_)
 ·obtain ⟨p,dx,x,rfl,_⟩:=h
  rfl
 ·obtain ⟨p,dx,x,rfl,hp,hx,hz,k⟩:=h
  refine ⟨_,(yi (yy (i:=1) yfn.nd rfl (Or.inl rfl) yg) (yi (yy (i:=2) yfn.nd rfl (Or.inl rfl) (yw (pv 0) rfl)) (yi (yai PassesOwn.never (xr (ut (pv 0) T.cl_Span T.y_q48.m (yzs T) (hr.mono (by decide)) T.y_q48.B .nil vv (yb (yo w8 (pv 1) yg) yd (ya rfl)))) (yi (yy (i:=1) yfn.nd rfl (Or.inl rfl) (yo w8 (pv 1) yg)) (yf (yy (i:=2) yfn.nd rfl (Or.inl rfl) (yo ux (pv 2) yg))))) (yf (yv (vg (yy5 T) (hr.mono (by decide)) rfl T.y_q43.m T.y_q43.F.kp T.y_q43.B .nil vv (yb (vg (ypv T) (hr.mono (by decide)) rfl T.y_q44.m T.y_q44.F.kp T.y_q44.B .nil vv (yb (yw (pv 0) rfl) (yb (pv 1) yd (ya rfl)) (ya rfl))) (yb (pv 2) yd (ya rfl)) (ya rfl)))))))),?_⟩
  try dsimp only [wk]
  refine yn (σ':=[some _,none,none]) rfl ?_
  walk_at "rd"
  refine ⟨fun m σ' H1=>H1=H/\∃ j:Nat,σ'=[some (.ref p),some (.int (pw j)),some (.int (x.2.2 - j))]/\j <= 5/\tel x.1 x.2.1 (5 - j) j=tK x/\m=6 - j,⟨_,rfl,0,by simp [pw],by decide,rfl,rfl⟩,?_⟩
  rintro m σ2 H2 ⟨rfl,j,rfl,hj,ej,rfl⟩
  have q1:=yhw (show j <= 6 by omega)
  have q2:=uy j
  walk_at "rd"
  refine ⟨p,dx,_,rfl,hp,lkN _ (by decide +kernel) (by decide +kernel) (by decide +kernel),?_⟩
  walk_at "rd"
  refine ⟨p,dx,x,j+1,rfl,hp,by omega,?_⟩
  walk_at "rd"
  refine zn (fun hb=>?_) (fun hb=>?_)
  ·refine yfl ?_
   walk_at "rd"
   have h5:=yqs hx.ok.w1 hb
   refine ⟨_,?_,rfl,j+1,?_,h5,?_,rfl⟩
   ·show 6 - (j+1) < 6 - j
    omega
   ·have e1:x.2.2 - (j:Int) - 1=x.2.2 - ((j+1:Nat):Int):=by omega
    rw [e1]
    rfl
   ·rw [yoe hb,<- ej]
    congr 1
    omega
  ·have ej':j=tK x:=by rw [<- ej,ysv hb]
   subst ej'
   walk_at "rd"
   refine ⟨_,_,rfl,q2,by omega,?_⟩
   walk_at "rd"
   have hs:=hx.sz
   have ht:=(yvn hx).2
   have e1:x.2.2 - (tK x:Int)=((sz x - tK x:Nat):Int):=by omega
   rw [e1]
   exact ⟨_,_,rfl,by omega,k⟩
theorem yyr:ym ["self","place"] ["self","place"] (yj yvi):=⟨rfl,rfl,rfl,by decide +kernel,rfl,by decide +kernel,by decide +kernel⟩
def yjq (C:Addr):Sp:=fun vs H Q _=>∃ (p dx pd:Addr) (v1 v2 v3:V) (d:List Int) (k:Nat),vs=[.ref p,.int k]/\H p=some (.ins C dx (jk (.ref pd) v1 v2 v3))/\H pd=some (.lst (d.map V.int))/\Q (.int ((d[k]?).getD 0)) H
theorem yz5 (T:Txt K mg a):wv P w K mg base CX0 1 a.f_q52 a.d_q52 ["self","place"] (yjq a.C_Sk):=by
 refine T.y_q52.F.ok yyr (fun vs H Q E h=>?_) (fun cdv A outer s H vs Q E hr h=>?_)
 ·obtain ⟨p,dx,pd,v1,v2,v3,d,k,rfl,_⟩:=h
  rfl
 ·obtain ⟨p,dx,pd,v1,v2,v3,d,k',rfl,hp,hd,k⟩:=h
  refine ⟨_,(yf (yv (yak (yz yfr (pv 1) (yt vn rfl T.z_len (by decide +kernel) (yb (yw (pv 0) rfl) yd (ya rfl))) (vq _)) (zd xq (yw (pv 0) rfl) (pv 1) (fun _ _=>rfl)) yg))),?_⟩
  try dsimp only [wk]
  refine yn (σ':=[some _,some _]) rfl ?_
  walk_at "rd"
  refine yap (SqL.of hd) ?_
  rw [List.length_map]
  walk_at "rd"
  refine zn (fun hb=>?_) (fun hb=>?_)
  ·have hk:k' < d.length:=by omega
   rw [List.getElem?_eq_getElem hk] at k
   walk_at "rd"
   exact j6 (SqL.of hd) (uf (by rw [List.getElem?_map,List.getElem?_eq_getElem hk]; rfl)) k
  ·rw [List.getElem?_eq_none (by omega)] at k
   walk_at "rd"
   exact k
theorem yxb:ym ["self"] ["self"] (yj ytx):=⟨rfl,rfl,rfl,by decide +kernel,rfl,by decide +kernel,by decide +kernel⟩
def ykl (C D:Addr):Sp:=fun vs H Q _=>∃ (p dx pd ps ds:Addr) (d:List Int) (x:Sn) (r:Nat),vs=[.ref p]/\H p=some (.ins C dx (jk (.ref pd) (.ref ps) (.int (rn d r)) (.int r)))/\H pd=some (.lst (d.map V.int))/\H ps=some (.ins D ds (jl x))/\p≠ps/\OkS x/\r <= sz x /\
 ∀ H',H' p=some (.ins C dx (jk (.ref pd) (.ref ps) (.int (rn d (sz x))) (.int x.2.2)))->But p H H'->Q .non H'
theorem yqg (T:Txt K mg a):wv P w K mg base CX0 2 a.f_q51 a.d_q51 ["self"] (ykl a.C_Sk a.C_Span):=by
 refine T.y_q51.F.ok yxb (fun vs H Q E h=>?_) (fun cdv A outer s H vs Q E hr h=>?_)
 ·obtain ⟨p,dx,pd,ps,ds,d,x,r,rfl,_⟩:=h
  rfl
 ·obtain ⟨p,dx,pd,ps,ds,d,x,r,rfl,hp,hd,hs,nps,hx,hr',k⟩:=h
  refine ⟨_,(yf (yai PassesOwn.never (yz yfr (yw (pv 0) rfl) (yw (yw (pv 0) rfl) rfl) (vq _)) (yi (v7 (pv 0) (yo wu (yo w8 (yw (pv 0) rfl) yg) (ut (pv 0) T.cl_Sk T.y_q52.m (yz5 T) (hr.mono (by decide)) T.y_q52.B .nil vv (yb (yw (pv 0) rfl) yd (ya rfl)))) rfl) (yf (v7 (pv 0) (yo wu (yw (pv 0) rfl) yg) rfl))))),?_⟩
  try dsimp only [wk]
  refine yn (σ':=[some _]) rfl ?_
  have hz:=hx.sz
  refine ⟨fun m σ' H1=>∃ r:Nat,σ'=[some (.ref p)]/\H1 p=some (.ins a.C_Sk dx (jk (.ref pd) (.ref ps) (.int (rn d r)) (.int r)))/\r <= sz x/\But p H H1/\m=sz x - r,⟨_,r,rfl,hp,hr',But.refl,rfl⟩,?_⟩
  rintro m σ2 H2 ⟨r,rfl,hp2,hr2,B2,rfl⟩
  have hs2:H2 ps=some (.ins a.C_Span ds (jl x)):=B2 _ _ hs nps.symm
  have hd2:=B2.lst hp hd
  walk_at "rd"
  refine zn (fun hb=>?_) (fun hb=>?_)
  ·refine yfl ?_
   walk_at "rd"
   refine ⟨p,dx,pd,_,_,_,d,r,rfl,hp2,hd2,?_⟩
   walk_at "rd"
   refine ⟨_,?_,r+1,rfl,?_,by omega,(B2.trans But.upd).trans But.upd,rfl⟩
   ·omega
   ·rw [yc]
    rfl
  ·have er:r=sz x:=by omega
   subst er
   walk_at "rd"
   refine k _ ?_ B2
   rw [<- hz]
   exact hp2
theorem yyf:ym ["self","data"] ["self","data"] (yj yt7):=⟨rfl,rfl,rfl,by decide +kernel,rfl,by decide +kernel,by decide +kernel⟩
def yk2 (K:W.Frag) (a:Ads):Sp:=fun vs H Q E=>∃ (p dx:Addr) (v:V) (n:String),vs=[.ref p,v]/\H p=some (.ins a.C_Sk dx [])/\xw K H v (.type n) /\
 ((Bad K H v n 12000/\∀ H',vi H H'->E (.ref a.C_NY) none H')\/∃ d:List Int,va5 K H v (d.map V.int) 12000/\∀ pd ps ds H',H pd=none->H ps=none->yka a H' p dx pd ps ds d s0->But p H H'->Q .non H')
theorem yyu (T:Txt K mg a):wv P w K mg base (CXe P w) 5 a.f_q50 a.d_q50 ["self","data"] (yk2 K a):=by
 refine T.y_q50.F.okE yyf (fun vs H Q E h=>?_) (fun cdv A outer s H vs Q E hr h=>?_)
 ·obtain ⟨p,dx,v,n,rfl,_⟩:=h
  rfl
 ·obtain ⟨p,dx,v,n,rfl,hp,ty,h⟩:=h
  refine ⟨_,(yi (v7 (pv 0) (ve (vau T) (hr.mono (by decide)) rfl T.y_q7.m T.y_q7.F.kp T.y_q7.B .nil v6 (yb (pv 1) yd (ya rfl))) rfl) (yi (v7 (pv 0) (yaj T.k_Span (yqi T) (hr.mono (by decide)) rfl T.m_Span T.y_q45.B .nil vv) rfl) (yi (v7 (pv 0) yg rfl) (yi (v7 (pv 0) yg rfl) (yf (vz (xf (pv 0) T.cl_Sk T.y_q51.m (yqg T) (hr.mono (by decide)) T.y_q51.B .nil vv))))))),?_⟩
  try dsimp only [wk]
  refine yn (σ':=[some _,some _]) rfl ?_
  walk_at "rd"
  refine ⟨v,n,rfl,ty,?_⟩
  rcases h with ⟨hb,k⟩ | ⟨d,hg,k⟩
  ·exact .inl ⟨hb,k⟩
  ·refine .inr ⟨d.map V.int,hg,fun pd H1 hd0 hd1 S1=>?_⟩
   have hp1:=S1 _ _ hp
   have npd:pd≠p:=fun z=>by rw [z,hp] at hd0; cases hd0
   walk_at "rd"
   have B2:But p H (upd H1 p (.ins a.C_Sk dx ([("data",V.ref pd)]:List (Str × V)))):=(But.of S1).trans But.upd
   have hp2:upd H1 p (.ins a.C_Sk dx ([("data",V.ref pd)]:List (Str × V))) p=some (.ins a.C_Sk dx ([("data",V.ref pd)]:List (Str × V))):=yc
   have hd2:upd H1 p (.ins a.C_Sk dx ([("data",V.ref pd)]:List (Str × V))) pd=some (.lst (d.map V.int)):=yq npd hd1
   generalize upd H1 p (.ins a.C_Sk dx ([("data",V.ref pd)]:List (Str × V)))=H2 at B2 hp2 hd2 ⊢
   intro ps ds nps nds ne
   refine ⟨ps,ds,rfl,yc,fun H3 hs3 B3=>⟨rfl,?_⟩⟩
   have S3:vi H2 H3:=fun b o e=>B3 b o (by rw [yp (ye e nps),yp (ye e nds)]; exact e) (ye e nps)
   have hp3:=S3 _ _ hp2
   have hd3:=S3 _ _ hd2
   have nsp:p≠ps:=ye hp2 nps
   have hs0:H ps=none:=by
    cases e:H ps with
    | none=>rfl
    | some o=>exact absurd (B2 _ _ e nsp.symm) (by rw [nps]; exact fun z=>nomatch z)
   walk_at "rd"
   refine ⟨p,dx,pd,ps,ds,d,s0,0,rfl,yc,?_,?_,nsp,vct,Nat.zero_le _,fun H4 hp4 B4=>?_⟩
   ·exact yq npd (yq npd (yq npd hd3))
   ·exact yq nsp.symm (yq nsp.symm (yq nsp.symm hs3))
   ·walk_at "rd"
    have B34:But p H3 H4:=((But.upd.trans But.upd).trans But.upd).trans B4
    exact k pd ps ds H4 hd0 hs0 ⟨hp4,B34 _ _ hd3 npd,B34 _ _ hs3 nsp.symm,nsp⟩ ((B2.trans (But.of S3)).trans B34)
theorem ypu:ym ["self","chance","bit"] ["self","chance"] (yj yu6):=⟨rfl,rfl,rfl,by decide +kernel,rfl,by decide +kernel,by decide +kernel⟩
def yoh (K:W.Frag) (a:Ads):Sp:=fun vs H Q E=>∃ (p dx pd ps ds:Addr) (d:List Int) (x:Sn) (v:V) (n:String),vs=[.ref p,v]/\yka a H p dx pd ps ds d x/\OkS x/\xw K H v (.type n)/\(chV v=false->E (.ref a.C_NC) none H) /\
 ∀ c:Int,v=.int c->Ch c->∀ H',yka a H' p dx pd ps ds d (nar x c (ybf d x c))->ynk p ps H H'->Q (.int (ybf d x c)) H'
theorem yyy {x:Sn} {c b:Int} (h:Ok x) (hc:Ch c):sz x <= sz (nar x c b):=by
 obtain ⟨r,e⟩:=vas (if b=1 then x.1 else x.1+cut x.2.1 c) (if b=1 then cut x.2.1 c else x.2.1 - cut x.2.1 c) x.2.2
 have e2:nar x c b=ren (if b=1 then x.1 else x.1+cut x.2.1 c) (if b=1 then cut x.2.1 c else x.2.1 - cut x.2.1 c) x.2.2:=by
  unfold nar
  split <;> rfl
 rw [e2,e]
 unfold sz
 dsimp only
 omega
theorem yzb (T:Txt K mg a):wv P w K mg base (CXe P w) 5 a.f_q53 a.d_q53 ["self","chance"] (yoh K a):=by
 refine T.y_q53.F.okE ypu (fun vs H Q E h=>?_) (fun cdv A outer s H vs Q E hr h=>?_)
 ·obtain ⟨p,dx,pd,ps,ds,d,x,v,n,rfl,_⟩:=h
  rfl
 ·obtain ⟨p,dx,pd,ps,ds,d,x,v,n,rfl,hk,hx,ty,k1,k⟩:=h
  refine ⟨_,(yi (vz (ve (yuw T) (hr.mono (by decide)) rfl T.y_q9.m T.y_q9.F.kp T.y_q9.B .nil v6 (yb (pv 1) yd (ya rfl)))) (yi (jx (yy (i:=2) ypu.nd rfl (Or.inl rfl) (yak (yz yfr (yw (pv 0) rfl) (yo wu (yw (yw (pv 0) rfl) rfl) (ut (yw (pv 0) rfl) T.cl_Span T.y_q46.m (yp5 T) (hr.mono (by decide)) T.y_q46.B .nil vv (yb (pv 1) yd (ya rfl)))) (vq _)) yg yg))) (yi (vz (zt (yw (pv 0) rfl) T.cl_Span T.y_q47.m (yqd T) (hr.mono (by decide)) T.y_q47.B .nil v6 (yb (pv 1) (yb (pv 2) yd (ya rfl)) (ya rfl)))) (yi (vz (xf (pv 0) T.cl_Sk T.y_q51.m (yqg T) (hr.mono (by decide)) T.y_q51.B .nil vv)) (yf (yv (pv 2))))))),?_⟩
  try dsimp only [wk]
  refine yn (σ':=[some _,some _,none]) rfl ?_
  walk_at "rd"
  refine ⟨v,n,rfl,ty,fun hv=>?_,k1⟩
  obtain ⟨c,rfl,c1,c2⟩:=ygy hv
  have hc:Ch c:=⟨c1,c2⟩
  have k:=k c rfl hc
  have hme:=hk.me
  have hsp:=hk.sp
  walk_at "rd"
  refine ycj (fun σ' H'=>σ'=[some (.ref p),some (.int c),some (.int (ybf d x c))]/\H=H') ?_ ?_
  ·walk_at "rd"
   refine ⟨ps,ds,_,rfl,hsp,lkN _ (by decide +kernel) (by decide +kernel) (by decide +kernel),?_⟩
   walk_at "rd"
   refine ⟨ps,ds,x,c,rfl,hsp,hc,?_⟩
   walk_at "rd"
   unfold ybf
   refine zn (fun hb=>?_) (fun hb=>?_)
   ·rw [if_pos hb]
    walk_at "rd"
    exact ⟨rfl,rfl⟩
   ·rw [if_neg hb]
    walk_at "rd"
    exact ⟨rfl,rfl⟩
  ·rintro σ' H' ⟨rfl,rfl⟩
   have hb2:=ydy d x c
   generalize hb:ybf d x c=b at hb2 k ⊢
   walk_at "rd"
   refine ⟨ps,ds,_,rfl,hsp,lkN _ (by decide +kernel) (by decide +kernel) (by decide +kernel),?_⟩
   walk_at "rd"
   refine ⟨ps,ds,x,.int c,.int b,_,_,rfl,hsp,hx.ok,.int c,.int b,(fun z=>by rw [yin hc] at z; cases z),(fun _ z=>by rw [ygv (by omega) (by omega)] at z; cases z),fun c' b' ec eb _ _ _ H1 hs1 B1=>?_⟩
   obtain rfl:c=c':=V.int.inj ec
   obtain rfl:b=b':=V.int.inj eb
   have hme1:=B1 _ _ hme hk.ne
   have hdt1:=B1.lst hsp hk.dt
   walk_at "rd"
   have hme1':H1 p=some (.ins a.C_Sk dx (jk (.ref pd) (.ref ps) (.int (rn d (sz x))) (.int ((sz x:Nat):Int)))):=by rw [hx.sz]; exact hme1
   refine ⟨p,dx,pd,ps,ds,d,nar x c b,sz x,rfl,hme1',hdt1,hs1,hk.ne,ygx hx hc,yyy hx.ok hc,fun H2 hp2 B2=>?_⟩
   walk_at "rd"
   exact k H2 ⟨hp2,B2.lst hme1 hdt1,B2 _ _ hs1 hk.ne.symm,hk.ne⟩ (B1.two'.trans B2.two)
theorem yx3:ym ["self"] ["self"] (yj yvb):=⟨rfl,rfl,rfl,by decide +kernel,rfl,by decide +kernel,by decide +kernel⟩
def ylh (a:Ads):Sp:=fun vs H Q _=>∃ (p dx pd ps ds:Addr) (d:List Int) (x:Sn),vs=[.ref p]/\yka a H p dx pd ps ds d x/\OkS x/\sz x <= tMx/\∀ t H',H t=none->H' t=some (.lst ((tL x).map V.int))->vi H H'->Q (.ref t) H'
theorem yzh (T:Txt K mg a):wv P w K mg base CX0 4 a.f_q54 a.d_q54 ["self"] (ylh a):=by
 refine T.y_q54.F.ok yx3 (fun vs H Q E h=>?_) (fun cdv A outer s H vs Q E hr h=>?_)
 ·obtain ⟨p,dx,pd,ps,ds,d,x,rfl,_⟩:=h
  rfl
 ·obtain ⟨p,dx,pd,ps,ds,d,x,rfl,hk,hx,hz,k⟩:=h
  have hme:=hk.me
  have hsp:=hk.sp
  refine ⟨_,(yf (yv (xf (yw (pv 0) rfl) T.cl_Span T.y_q49.m (yqy T) (hr.mono (by decide)) T.y_q49.B .nil vv))),?_⟩
  try dsimp only [wk]
  refine yn (σ':=[some _]) rfl ?_
  walk_at "rd"
  refine ⟨ps,ds,_,rfl,hsp,lkN _ (by decide +kernel) (by decide +kernel) (by decide +kernel),?_⟩
  walk_at "rd"
  exact ⟨ps,ds,x,rfl,hsp,hx,hz,k⟩
abbrev FA.re (A:FA) (ml el pl:Addr) (sl:Nat->Addr):FA:={ A with ml:=ml,el:=el,pl:=pl,sl:=sl }
def FX.run (A:FA) (X:FX):List Int->FX
 | []=>X
 | b :: r=>FX.run A (X.see A b) r
theorem ygt (A:FA):∀ (bs cs:List Int) (X:FX),X.run A (bs++cs)=(X.run A bs).run A cs
 | [],_,_=>rfl
 | b :: r,cs,X=>ygt A r cs (X.see A b)
theorem yo4 (A:FA) (bs:List Int) (b:Int) (X:FX):X.run A (bs++[b])=(X.run A bs).see A b:=ygt A bs [b] X
theorem yag {A:FA} {X:FX} {bs:List Int} {k:Nat} {b:Int} (h:bs[k]?=some b):X.run A (bs.take (k+1))=(X.run A (bs.take k)).see A b:=by
 rw [yat h,yo4]
structure FGo (p:Addr) (A:FA) (O:Nat->Addr->Prop) (H H':Hp) (el:Addr) (O':Nat->Addr->Prop):Prop where
 he:el=A.el\/H el=none
 hO:∀ j c,j < A.n->O' j c->O j c\/H c=none
 fr:∀ c o,H c=some o->c≠p->c≠A.mp->c≠A.el->(∀ j,j < A.n->¬ O j c)->H' c=some o
 live:∀ c o,H c=some o->∃ o',H' c=some o'
theorem FGo.free {p:Addr} {A:FA} {O O':Nat->Addr->Prop} {H H':Hp} {el c:Addr} (h:FGo p A O H H' el O') (hc:H' c=none):H c=none:=by
 cases e:H c with
 | none=>rfl
 | some o =>
  obtain ⟨o',w⟩:=h.live c o e
  rw [hc] at w
  cases w
theorem FGo.refl {p:Addr} {A:FA} {O:Nat->Addr->Prop} {H:Hp}:FGo p A O H H A.el O:=⟨.inl rfl,fun _ _ _ w=>.inl w,fun _ _ e _ _ _ _=>e,fun _ o e=>⟨o,e⟩⟩
theorem FGo.trans {p:Addr} {A:FA} {O O1 O2:Nat->Addr->Prop} {H H1 H2:Hp} {ml el pl el2:Addr} {sl:Nat->Addr} (h:FGo p A O H H1 el O1) (k:FGo p (A.re ml el pl sl) O1 H1 H2 el2 O2):FGo p A O H H2 el2 O2:=by
 refine ⟨?_,fun j c hj w=>?_,fun c o e c1 c2 c3 no=>?_,fun c o e=>?_⟩
 ·rcases k.he with z | z
  ·rcases h.he with y | y
   ·exact .inl (z.trans y)
   ·exact .inr (by rw [show el2=el from z]; exact y)
  ·exact .inr (h.free z)
 ·rcases k.hO j c hj w with v | v
  ·exact h.hO j c hj v
  ·exact .inr (h.free v)
 ·refine k.fr c o (h.fr c o e c1 c2 c3 no) c1 c2 (fun z=>?_) (fun j hj w=>?_)
  ·rcases h.he with y | y
   ·exact c3 (z.trans y)
   ·rw [show c=el from z,y] at e
    cases e
  ·rcases h.hO j c hj w with v | v
   ·exact no j hj v
   ·rw [e] at v
    cases v
 ·obtain ⟨o1,w1⟩:=h.live c o e
  exact k.live c o1 w1
theorem FGo.same {p:Addr} {A:FA} {O O':Nat->Addr->Prop} {H H1 H2:Hp} {el:Addr} (h:FGo p A O H H1 el O') (S:vi H1 H2):FGo p A O H H2 el O' :=
 ⟨h.he,h.hO,fun c o e c1 c2 c3 no=>S _ _ (h.fr c o e c1 c2 c3 no),fun c o e=>let ⟨o',w⟩:=h.live c o e; ⟨o',S _ _ w⟩⟩
theorem FGo.ahead {p:Addr} {A:FA} {O O':Nat->Addr->Prop} {H H1 H2:Hp} {el:Addr} (S:vi H H1) (h:FGo p A O H1 H2 el O'):FGo p A O H H2 el O' :=
 ⟨h.he.imp id S.free,fun j c hj w=>(h.hO j c hj w).imp id S.free,fun c o e=>h.fr c o (S _ _ e),fun c o e=>h.live c o (S _ _ e)⟩
theorem FGo.kpa {K:W.Frag} {a:Ads} {p:Addr} {A:FA} {X:FX} {f:Nat->List Int->Option Slt} {O O':Nat->Addr->Prop} {m:Nat} {H H':Hp} {el:Addr} (hf:z0 K a H p A X f O m) (h:FGo p A O H H' el O'):KpA H H' A.el el:=fun c o e hi ne=>by
 refine ⟨?_,h.fr c o e (fun z=>by rw [z,hf.me] at e; cases e; cases hi) (fun z=>by rw [z,hf.mx.o] at e; cases e; cases hi) ne fun j hj w=>?_⟩
 ·rcases h.he with z | z
  ·rw [z]
   exact ne
  ·exact ye e z
 ·obtain ⟨o',ho',hi'⟩:=(hf.B.b j hj).own c w
  rw [e] at ho'
  cases ho'
  rw [hi] at hi'
  cases hi'
theorem ywi {g:Nat->Addr} {n:Nat} (h:1 <= n):(xy g n)[0]?=some (.ref (g 0)):=by
 unfold xy
 rw [List.getElem?_map,List.getElem?_range h]
 rfl
structure ycf (H:Hp) (t:Addr) (ts:List Int) (w:Nat):Prop where
 l:H t=some (.lst (ts.map V.int))
 s:Sgs ts
 z:ts.length <= w
theorem ycf.same {H H':Hp} {t:Addr} {ts:List Int} {w:Nat} (h:ycf H t ts w) (S:vi H H'):ycf H' t ts w:=⟨S _ _ h.l,h.s,h.z⟩
def za (tt:Nat->List Int):Nat->List Int
 | 0=>[]
 | i+1=>za tt i++dec (tt i)
def ypi (K:W.Frag) (H:Hp) (x:V):Prop:=(∃ n,xw K H x (.type n)/\n≠"list"/\x≠.non) \/
 ∃ (l:Addr) (m:Nat) (tx:Nat->Addr) (tt:Nat->List Int) (y:V) (zb:List V) (n:String),x=.ref l/\H l=some (.lst (xy tx m++y :: zb))/\m <= 1000/\zb.length <= 1000/\(∀ i,i < m->ycf H (tx i) (tt i) 1000)/\xw K H y (.type n)/\Bad K H y n 1000
theorem ypi.same {K:W.Frag} {H H':Hp} {x:V} (h:ypi K H x) (S:vi H H'):ypi K H' x:=by
 rcases h with ⟨n,ty,hn,hx⟩ | ⟨l,m,tx,tt,y,zb,n,e,hl,hm,hr,ht,ty,hb⟩
 ·exact .inl ⟨n,xv S ty,hn,hx⟩
 ·exact .inr ⟨l,m,tx,tt,y,zb,n,e,S _ _ hl,hm,hr,fun i hi=>(ht i hi).same S,xv S ty,hb.same S⟩
theorem yw6:ym ["thing"] ["thing"] (yj yui):=⟨rfl,rfl,rfl,by decide +kernel,rfl,by decide +kernel,by decide +kernel⟩
def yct (K:W.Frag) (C:Addr):Sp:=fun vs H Q E=>(∃ x,vs=[x]/\ypi K H x/\∀ H',vi H H'->E (.ref C) none H')\/(vs=[.non]/\∀ r H',H r=none->H' r=some (.lst [])->vi H H'->Q (.ref r) H')\/∃ (l:Addr) (n:Nat) (tx:Nat->Addr) (tt:Nat->List Int),vs=[.ref l]/\H l=some (.lst (xy tx n))/\n <= 1000/\(∀ i,i < n->ycf H (tx i) (tt i) 1000) /\
 ∀ r (cx:Nat->Addr) H',H r=none->H' r=some (.lst (xy cx n))->(∀ i,i < n->H (cx i)=none/\H' (cx i)=some (.lst ((tt i).map V.int)))->vi H H'->Q (.ref r) H'
theorem yp8 (T:Txt K mg a):wv P w K mg base (CXe P w) 5 a.f_q55 a.d_q55 ["thing"] (yct K a.C_NT):=by
 refine T.y_q55.F.okE yw6 (fun vs H Q E h=>?_) (fun cdv A outer s H vs Q E hr h=>?_)
 ·rcases h with ⟨x,rfl,_⟩ | ⟨rfl,_⟩ | ⟨l,n,tx,tt,rfl,_⟩ <;> rfl
 ·rcases h with ⟨x,rfl,hb,k⟩ | ⟨rfl,k⟩ | ⟨l,n,tx,tt,rfl,hl,hn,ht,k⟩
  ·rcases hb with ⟨n,ty,hn,hx⟩ | ⟨l,m,tx,tt,y0,zb,n,rfl,hl,hm,hrest,ht,ty,hbad⟩
   ·refine ⟨_,(yi (wj (yz yio (pv 0) ya9 (vq _)) (yf (yv (vk yd))) vf) (yi (wj (ud (xr (yt wg rfl T.z_isinstance (by decide +kernel) (yb (pv 0) (yb (zj (T:="list") rfl T.z_list (by decide +kernel)) yd (ya rfl)) (ya rfl))))) (yf (xg rfl T.m_NT T.r_NT (yb vo yd (ya rfl)))) vf) (yf (yv (ybl rfl (xc (pv 0)) (fun C s2 H2 fp pn Ex=>(ve (yjx T) (hr.mono (by decide)) rfl T.y_q6.m T.y_q6.F.kp T.y_q6.B .nil jp (yb (pv 0) yd (ya rfl)))) ⟨rfl,rfl⟩ yab))))),?_⟩
    refine yn (σ':=[some _]) rfl ?_
    walk_at "rd"
    refine yck hx ?_
    walk_at "rd"
    refine ya0 ty (ydw ty) ?_
    rw [decide_eq_false hn]
    walk_at "rd"
    exact ⟨by walk_at "len",k _ (vi.refl _)⟩
   ·refine ⟨_,(yi (wj (yz yio (pv 0) ya9 (vq _)) (yf (yv (vk yd))) vf) (yi (wj (ud (xr (yt wg rfl T.z_isinstance (by decide +kernel) (yb (pv 0) (yb (zj (T:="list") rfl T.z_list (by decide +kernel)) yd (ya rfl)) (ya rfl))))) (yf (xg rfl T.m_NT T.r_NT (yb vo yd (ya rfl)))) vf) (yf (yv (ybl rfl (xc (pv 0)) (fun C s2 H2 fp pn Ex=>(ve (yjx T) (hr.mono (by decide)) rfl T.y_q6.m T.y_q6.F.kp T.y_q6.B .nil jp (yb (pv 0) yd (ya rfl)))) ⟨rfl,rfl⟩ yab))))),?_⟩
    refine yn (σ':=[some _]) rfl ?_
    walk_at "rd"
    refine yck (fun z=>nomatch z) ?_
    walk_at "rd"
    refine ya0 (.lst hl) (yhr _ _) ?_
    walk_at "rd"
    refine yma ?_
    walk_at "rd"
    refine ⟨l,rfl,⟨_,SqL.of hl⟩,fun D hD=>?_⟩
    have hlen:(xy tx m++y0 :: zb).length=m+1+zb.length:=by rw [List.length_append,wc,List.length_cons]; omega
    refine uo (K:=K) (xs:=xy tx m++y0 :: zb) (fun i G=>i <= m/\(∃ cx:Nat->Addr,G D=some (.lst (xy cx i)))/\vi H G) ⟨Nat.zero_le _,⟨fun _=>0,yc⟩,vh hD⟩ (fun i G _ ⟨_,_,S⟩=>SqL.of (S _ _ hl)) (fun i y G hy hi z=>?_) (fun G z=>?_)
    ·obtain ⟨him,⟨cx,gD⟩,S⟩:=z
     by_cases hlt:i < m
     ·rw [List.getElem?_append_left (by rw [wc]; exact hlt)] at hy
      obtain ⟨rfl,_⟩:=zq hy
      have hti:=(ht i hlt).same S
      walk_at "rd"
      refine ⟨.ref (tx i),_,rfl,.lst hti.l,.inr ⟨(tt i).map V.int,ybk hti.l hti.s hti.z,fun c G2 hc0 hc2 S2=>?_⟩⟩
      refine xz (n:=(xy tx m++y0 :: zb).length) (S2 _ _ gD) (wq (by rw [wc]; omega)) hi ?_
      refine ⟨hlt,⟨upN cx i c,?_⟩,fun b o e=>yq (ye e hD) (S2 _ _ (S b o e))⟩
      rw [yc,jd,xn]
      congr 3
      exact zf fun j hj=>(xj hj).symm
     ·have ei:i=m:=by omega
      rw [ei,List.getElem?_append_right (by rw [wc]; exact Nat.le_refl _),wc,Nat.sub_self] at hy
      cases hy
      walk_at "rd"
      exact ⟨y0,n,rfl,xv S ty,.inl ⟨hbad.same S,fun G2 S2=>k _ (S.trans S2)⟩⟩
    ·obtain ⟨him,_⟩:=z
     omega
  ·refine ⟨_,(yi (wj (yz yio (pv 0) ya9 (vq _)) (yf (yv (vk yd))) vf) (yi (wj (ud (xr (yt wg rfl T.z_isinstance (by decide +kernel) (yb (pv 0) (yb (zj (T:="list") rfl T.z_list (by decide +kernel)) yd (ya rfl)) (ya rfl))))) (yf (xg rfl T.m_NT T.r_NT (yb vo yd (ya rfl)))) vf) (yf (yv (ybl rfl (xc (pv 0)) (fun C s2 H2 fp pn Ex=>(ve (yjx T) (hr.mono (by decide)) rfl T.y_q6.m T.y_q6.F.kp T.y_q6.B .nil jp (yb (pv 0) yd (ya rfl)))) ⟨rfl,rfl⟩ yab))))),?_⟩
   refine yn (σ':=[some _]) rfl ?_
   walk_at "rd"
   refine vb9 ?_
   walk_at "rd"
   refine ⟨by walk_at "len",fun r hr0=>?_⟩
   exact k r _ hr0 yc (vh hr0)
  ·refine ⟨_,(yi (wj (yz yio (pv 0) ya9 (vq _)) (yf (yv (vk yd))) vf) (yi (wj (ud (xr (yt wg rfl T.z_isinstance (by decide +kernel) (yb (pv 0) (yb (zj (T:="list") rfl T.z_list (by decide +kernel)) yd (ya rfl)) (ya rfl))))) (yf (xg rfl T.m_NT T.r_NT (yb vo yd (ya rfl)))) vf) (yf (yv (ybl rfl (xc (pv 0)) (fun C s2 H2 fp pn Ex=>(ve (yjx T) (hr.mono (by decide)) rfl T.y_q6.m T.y_q6.F.kp T.y_q6.B .nil jp (yb (pv 0) yd (ya rfl)))) ⟨rfl,rfl⟩ yab))))),?_⟩
   refine yn (σ':=[some _]) rfl ?_
   walk_at "rd"
   refine yck (fun z=>nomatch z) ?_
   walk_at "rd"
   refine ya0 (.lst hl) (yhr _ _) ?_
   walk_at "rd"
   refine yma ?_
   walk_at "rd"
   refine ⟨l,rfl,⟨_,SqL.of hl⟩,fun D hD=>?_⟩
   refine uo (K:=K) (xs:=xy tx n) (fun i G=>∃ cx:Nat->Addr,G D=some (.lst (xy cx i))/\(∀ j,j < i->H (cx j)=none/\G (cx j)=some (.lst ((tt j).map V.int))/\cx j≠D)/\vi H G)
    ⟨fun _=>0,yc,fun j hj=>absurd hj (Nat.not_lt_zero j),vh hD⟩ (fun i G _ ⟨_,_,_,S⟩=>SqL.of (S _ _ hl)) (fun i y G hy hi z=>?_) (fun G z=>?_)
   ·obtain ⟨cx,gD,gC,S⟩:=z
    obtain ⟨rfl,hin⟩:=zq hy
    have hti:=(ht i hin).same S
    walk_at "rd"
    refine ⟨.ref (tx i),_,rfl,.lst hti.l,.inr ⟨(tt i).map V.int,ybk hti.l hti.s hti.z,fun c G2 hc0 hc2 S2=>?_⟩⟩
    have nc:c≠D:=(ye gD hc0).symm
    refine xz (n:=(xy tx n).length) (S2 _ _ gD) (wq (by rw [wc]; omega)) hi ?_
    refine ⟨upN cx i c,?_,fun j hj=>?_,fun b o e=>yq (ye e hD) (S2 _ _ (S b o e))⟩
    ·rw [yc,jd,xn]
     congr 3
     exact zf fun j hj=>(xj hj).symm
    ·by_cases z:j=i
     ·rw [z,xn]
      exact ⟨S.free hc0,yq nc hc2,nc⟩
     ·have hji:j < i:=by omega
      rw [xj hji]
      obtain ⟨g1,g2,g3⟩:=gC j hji
      exact ⟨g1,yq g3 (S2 _ _ g2),g3⟩
   ·obtain ⟨cx,gD,gC,S⟩:=z
    rw [wc] at gD gC
    exact k D cx G hD gD (fun i hi=>⟨(gC i hi).1,(gC i hi).2.1⟩) S
def fa0 (n:Nat) (ps:Nat->List Int):FA:={ dp:=0,ll:=0,bl:=0,mp:=0,mx:=0,ml:=0,el:=0,pl:=0,n:=n,bk:=fun _=>0,dx:=fun _=>0,lk:=fun _=>0,dd:=fun _=>0,sl:=fun _=>0,kd:=fun _=>0,ps:=ps }
theorem yd2 (A:FA):∀ (bs:List Int) (X:FX),X.run A bs=X.run (fa0 A.n A.ps) bs
 | [],_=>rfl
 | b :: r,X=>yd2 A r (X.see A b)
def fX (n:Nat) (kd:Nat->Fin 3) (ps:Nat->List Int) (pre:List Int) (ts:List Int) (k:Nat):FX:=((FX0 n kd).run (fa0 n ps) pre).run (fa0 n ps) ((dec ts).take k)
def ya3 (n:Nat) (kd:Nat->Fin 3) (ps:Nat->List Int) (pre:List Int) (ts:List Int) (k:Nat):Int:=yrk (fX n kd ps pre ts k).ws ((fX n kd ps pre ts k).cs (fa0 n ps))
def w6 (ts:List Int) (k:Nat):Int:=((dec ts)[k]?).getD 0
theorem yoa (ts:List Int) (k:Nat) (h:k < (dec ts).length):0 <= w6 ts k/\w6 ts k <= 1:=by
 unfold w6
 rw [List.getElem?_eq_getElem h]
 exact jt ts _ (List.getElem_mem h)
def yph (H:Hp) (lx:V) (N w:Nat) (lt:Nat->Addr) (tt:Nat->List Int):Prop:=((lx=.non/\N=0)\/∃ ll,lx=.ref ll/\H ll=some (.lst (xy lt N)))/\∀ i,i < N->ycf H (lt i) (tt i) w
theorem yph.same {H H':Hp} {lx:V} {N w:Nat} {lt:Nat->Addr} {tt:Nat->List Int} (h:yph H lx N w lt tt) (S:vi H H'):yph H' lx N w lt tt :=
 ⟨h.1.imp id fun ⟨ll,e,z⟩=>⟨ll,e,S _ _ z⟩,fun i hi=>(h.2 i hi).same S⟩
structure vej (H:Hp) (L tx:Addr) (lx:V) (n:Nat) (lk:Nat->Addr) (kd:Nat->Fin 3) (tp:Nat->Addr) (ps:Nat->List Int) (ts:List Int) (N w:Nat) (lt:Nat->Addr) (tt:Nat->List Int):Prop where
 l:H L=some (.lst (xy lk n))
 n1:1 <= n
 n6:n <= 6
 r:ya2 H n lk kd tp ps
 t:ycf H tx ts 1000
 lr:yph H lx N w lt tt
 w1:w <= 1000
 N1:N <= 1000
 b:6+6 * (N * (9 * w+1))+6 * (9 * ts.length+1)+20 < 1000000
structure vei (H H':Hp) (r:Addr) (m:Nat) (tu cl:Nat->Addr) (mx:Nat->Int) (cs:Nat->List Int) (bt:Nat->Int):Prop where
 r0:H r=none
 r:H' r=some (.lst (xy tu m))
 t:∀ j,j < m->H' (tu j)=some (.tup [.int (mx j),.ref (cl j),.int (bt j)])
 c:∀ j,j < m->H (cl j)=none/\H' (cl j)=some (.lst ((cs j).map V.int))
structure XOk (n:Nat) (X:FX):Prop where
 w:WOk n X.ws
 s:∀ i k,(X.g i k).ok
theorem XOk.cs {n:Nat} {X:FX} (h:XOk n X) (ps:Nat->List Int):COk n (X.cs (fa0 n ps)):=by
 refine ⟨by unfold FX.cs; rw [List.length_map,List.length_range]; rfl,fun c hc=>?_,fun c hc=>?_⟩
 ·obtain ⟨j,_,rfl⟩:=List.mem_map.mp hc
  exact (yih (h.s _ _)).1
 ·obtain ⟨j,_,rfl⟩:=List.mem_map.mp hc
  exact (yih (h.s _ _)).2
theorem XOk.see {n:Nat} {X:FX} (h:XOk n X) (n1:1 <= n) (n6:n <= 6) (ps:Nat->List Int) {b:Int} (b0:0 <= b) (b1:b <= 1):XOk n (X.see (fa0 n ps) b):=by
 refine ⟨yqv n1 n6 h.w (h.cs ps),fun i k=>?_⟩
 show (if k=X.key (fa0 n ps) i then (X.g i k).see b else X.g i k).ok
 split
 ·exact Slt.see_ok (h.s i k) b0 b1
 ·exact h.s i k
theorem XOk.run {n:Nat} (n1:1 <= n) (n6:n <= 6) (ps:Nat->List Int):∀ (bs:List Int) {X:FX},XOk n X->yj5 bs->XOk n (X.run (fa0 n ps) bs)
 | [],_,h,_=>h
 | b :: r,_,h,hb=>XOk.run n1 n6 ps r (h.see n1 n6 ps (hb b (by simp)).1 (hb b (by simp)).2) fun c hc=>hb c (by simp [hc])
theorem XOk.zero {n:Nat} (n1:1 <= n) (n6:n <= 6) (kd:Nat->Fin 3):XOk n (FX0 n kd):=⟨vav n n1 n6,fun i _=>yrf (kd i)⟩
theorem yfa (tt:Nat->List Int):∀ N,yj5 (za tt N)
 | 0=>fun _ z=>nomatch z
 | N+1=>yhv (yfa tt N) (jt _)
theorem ylg {bs:List Int} (h:yj5 bs) (k:Nat):yj5 (bs.take k):=fun b hb=>h b (List.mem_of_mem_take hb)
theorem vaz {n:Nat} (n1:1 <= n) (n6:n <= 6) {kd:Nat->Fin 3} {ps:Nat->List Int} {pre ts:List Int} (hp:yj5 pre) (k:Nat):XOk n (fX n kd ps pre ts k):=by
 unfold fX
 exact ((XOk.zero n1 n6 kd).run n1 n6 ps pre hp).run n1 n6 ps _ (ylg (jt ts) k)
theorem ylz {n:Nat} (n1:1 <= n) (n6:n <= 6) {kd:Nat->Fin 3} {ps:Nat->List Int} {pre ts:List Int} (hp:yj5 pre) (k:Nat):Ch (ya3 n kd ps pre ts k):=ym1 n1 (vaz (kd:=kd) (ps:=ps) (ts:=ts) n1 n6 hp k).w ((vaz (kd:=kd) (ps:=ps) (ts:=ts) n1 n6 hp k).cs ps)
theorem ycq {K:W.Frag} {C:Addr} {H:Hp} {lx:V} {N w:Nat} {lt:Nat->Addr} {tt:Nat->List Int} {Q:VK} {E:XK} (h:yph H lx N w lt tt) (hw:w <= 1000) (hN:N <= 1000)
  (k:∀ r (cx:Nat->Addr) H',H r=none->H' r=some (.lst (xy cx N))->(∀ i,i < N->H (cx i)=none/\H' (cx i)=some (.lst ((tt i).map V.int)))->vi H H'->Q (.ref r) H'):yct K C [lx] H Q E:=by
 obtain ⟨⟨rfl,rfl⟩ | ⟨ll,rfl,hl⟩,ht⟩:=h
 ·exact .inr (.inl ⟨rfl,fun r H' h0 h1 S=>k r (fun _=>0) H' h0 h1 (fun i hi=>absurd hi (Nat.not_lt_zero i)) S⟩)
 ·exact .inr (.inr ⟨ll,N,lt,tt,rfl,hl,hN,fun i hi=>⟨(ht i hi).l,(ht i hi).s,Nat.le_trans (ht i hi).z hw⟩,k⟩)
theorem ym2:ym ["foreteller","texts","text","bit"] ["foreteller","texts"] (yj yur):=⟨rfl,rfl,rfl,by decide +kernel,rfl,by decide +kernel,by decide +kernel⟩
def yof (K:W.Frag) (a:Ads):Sp:=fun vs H Q _=>∃ (p:Addr) (A:FA) (X:FX) (f:Nat->List Int->Option Slt) (O:Nat->Addr->Prop) (m:Nat) (tl:Addr) (n w:Nat) (tx:Nat->Addr) (tt:Nat->List Int),vs=[.ref p,.ref tl]/\z0 K a H p A X f O m/\X.sg=[]/\X.nd=0/\H tl=some (.lst (xy tx n))/\tl≠A.el/\(∀ i,i < n->ycf H (tx i) (tt i) w/\tx i≠A.el)/\w <= 1000/\m+6 * (n * (9 * w+1))+20 < 1000000 /\
 ∀ (ml el pl:Addr) (sl:Nat->Addr) (f':Nat->List Int->Option Slt) (O':Nat->Addr->Prop) (m':Nat) (H':Hp),z0 K a H' p (A.re ml el pl sl) (X.run A (za tt n)) f' O' m'->m' <= m+6 * (n * (9 * w+1))->FGo p A O H H' el O'->(X.run A (za tt n)).sg=[]->(X.run A (za tt n)).nd=0->Q .non H'
theorem ypt (T:Txt K mg a):wv P w K mg base CX0 7 a.f_q56 a.d_q56 ["foreteller","texts"] (yof K a):=by
 refine T.y_q56.F.ok ym2 (fun vs H Q E h=>?_) (fun cdv A outer s H vs Q E hr h=>?_)
 ·obtain ⟨p,A,X,f,O,m,tl,n,w,tx,tt,rfl,_⟩:=h
  rfl
 ·obtain ⟨p,A0,X,f,O,m,tl,n,w,tx,tt,rfl,hF,hsg,hnd,htl,ntl,htx,hw,hm,k⟩:=h
  refine ⟨_,(yf (ya7 PassesOwn.never rfl (xc (pv 1)) (ub (i:=2) ym2.nd rfl (Or.inl rfl)) (yf (ya7 PassesOwn.never rfl (xc (vg (yqh T) (hr.mono (by decide)) rfl T.y_q13.m T.y_q13.F.kp T.y_q13.B .nil vv (yb (pv 2) yd (ya rfl)))) (ub (i:=3) ym2.nd rfl (Or.inl rfl)) (yf (vz (ut (pv 0) T.cl_Ft T.y_q40.m (yml T) (hr.mono (by decide)) T.y_q40.B .nil vv (yb (pv 3) yd (ya rfl))))))))),?_⟩
  try dsimp only [wk]
  refine yn (σ':=[some _,some _,none,none]) rfl ?_
  walk_at "rd"
  refine ⟨tl,rfl,⟨_,SqL.of htl⟩,yam (K:=K) (a:=tl) (xs:=xy tx n) (fun i σ2 G=>∃ (v1 v2:Option V) (ml el pl:Addr) (sl:Nat->Addr) (f':Nat->List Int->Option Slt) (O':Nat->Addr->Prop) (m':Nat),σ2=[some (.ref p),some (.ref tl),v1,v2]/\z0 K a G p (A0.re ml el pl sl) (X.run A0 (za tt i)) f' O' m'/\m' <= m+6 * (i * (9 * w+1))/\FGo p A0 O H G el O'/\(X.run A0 (za tt i)).sg=[]/\(X.run A0 (za tt i)).nd=0)
   ⟨_,_,A0.ml,A0.el,A0.pl,A0.sl,f,O,m,rfl,hF,Nat.le_add_right _ _,FGo.refl,hsg,hnd⟩ (fun i σ2 G _ ⟨_,_,_,_,_,_,_,_,_,_,_,_,go,_,_⟩=>SqL.of ((go.kpa hF).lst htl ntl)) ?_ ?_⟩
  ·rintro i y σ2 G hy ⟨v1,v2,ml,el,pl,sl,f1,O1,m1,rfl,hF1,hm1,go1,hsg1,hnd1⟩
   obtain ⟨rfl,hin⟩:=zq hy
   obtain ⟨hti,nti⟩:=htx i hin
   have htiG:=(go1.kpa hF).lst hti.l nti
   have hts:=hti.s
   have hz:=hti.z
   have hbound:i * (9 * w+1)+(9 * w+1) <= n * (9 * w+1):=by
    have:(i+1) * (9 * w+1) <= n * (9 * w+1):=Nat.mul_le_mul_right _ hin
    rw [Nat.add_mul,Nat.one_mul] at this
    exact this
   have hdl:=yaw (tt i)
   walk_at "rd"
   refine ⟨tx i,tt i,rfl,htiG,hts,by omega,fun bt G1 hbt0 hbt1 S1=>?_⟩
   have hF1':=hF1.same S1
   have nbt:bt≠el:=(ye hF1.el hbt0).symm
   refine ⟨bt,rfl,⟨_,SqL.of hbt1⟩,yam (K:=K) (a:=bt) (xs:=(dec (tt i)).map V.int) (fun j σ2 G'=>∃ (v2:Option V) (ml' el' pl':Addr) (sl':Nat->Addr) (f':Nat->List Int->Option Slt) (O':Nat->Addr->Prop),σ2=[some (.ref p),some (.ref tl),some (.ref (tx i)),v2]/\z0 K a G' p (A0.re ml' el' pl' sl') ((X.run A0 (za tt i)).run A0 ((dec (tt i)).take j)) f' O' (m1+6 * j)/\FGo p (A0.re ml el pl sl) O1 G1 G' el' O'/\TxE (tt i) j ((X.run A0 (za tt i)).run A0 ((dec (tt i)).take j)).sg ((X.run A0 (za tt i)).run A0 ((dec (tt i)).take j)).nd)
    ⟨_,ml,el,pl,sl,f1,O1,rfl,hF1',FGo.refl,.inl ⟨Nat.zero_le _,by show yhf _ _ (X.run A0 (za tt i)).sg (X.run A0 (za tt i)).nd; rw [hsg1,hnd1]; exact yhf.zero _⟩⟩ (fun j σ2 G' _ ⟨_,_,_,_,_,_,_,_,_,go,_⟩=>SqL.of ((go.kpa hF1').lst hbt1 nbt)) ?_ ?_⟩
   ·rintro j y σ3 G' hy ⟨v2,ml2,el2,pl2,sl2,f2,O2,rfl,hF2,go2,hT⟩
    obtain ⟨b,rfl,hbm,hb,hj⟩:=zx hy
    obtain ⟨b0,b1⟩:=jt _ b hbm
    obtain ⟨hTx,hTn⟩:=hT.next hts hb
    obtain ⟨nd0,nd1⟩:=hTx.nd hts
    have hsl:=hTx.len
    have hp2:=hF2.me
    walk_at "rd"
    refine ⟨p,A0.re ml2 el2 pl2 sl2,_,f2,O2,m1+6 * j,b,rfl,hF2,b0,b1,by omega,nd0,by omega,fun ml3 el3 pl3 sl3 f3 O3 G3 he3 hF3 hO3 fr3 lv3 _=>?_⟩
    walk_at "rd"
    have n6:=hF2.n6
    refine ⟨_,ml3,el3,pl3,sl3,f3,O3,rfl,?_,go2.trans ⟨he3,hO3,fr3,lv3⟩,?_⟩
    ·rw [yag hb]
     exact hF3.up (by show m1+6 * j+A0.n <= _; have:A0.n <= 6:=n6; omega)
    ·rw [yag hb]
     exact hTn
   ·rintro σ3 G' ⟨v2,ml2,el2,pl2,sl2,f2,O2,rfl,hF2,go2,hT⟩
    rw [List.length_map] at hF2 hT
    rw [List.take_length] at hF2 hT
    have er:X.run A0 (za tt (i+1))=(X.run A0 (za tt i)).run A0 (dec (tt i)):=ygt A0 _ _ X
    rw [<- er] at hF2 hT
    have hend:(X.run A0 (za tt (i+1))).sg=[]/\(X.run A0 (za tt (i+1))).nd=0:=by
     rcases hT with ⟨h,_⟩ | ⟨_,h⟩
     ·omega
     ·exact h
    walk_at "rd"
    exact ⟨_,_,ml2,el2,pl2,sl2,f2,O2,_,rfl,hF2,by rw [Nat.add_mul,Nat.one_mul]; omega,go1.trans (FGo.ahead S1 go2),hend.1,hend.2⟩
  ·rintro σ2 G ⟨v1,v2,ml,el,pl,sl,f1,O1,m1,rfl,hF1,hm1,go1,hsg1,hnd1⟩
   rw [wc] at hF1 hm1 hsg1 hnd1
   walk_at "rd"
   exact k ml el pl sl f1 O1 m1 G hF1 hm1 go1 hsg1 hnd1
def snK (mx bt:Nat->Int):Nat->Sn
 | 0=>s0
 | k+1=>nar (snK mx bt k) (mx k) (bt k)
theorem ycz {mx bt:Nat->Int}:∀ m,(∀ j,j < m->Ch (mx j))->OkS (snK mx bt m)/\(snK mx bt m).2.2 <= 5+2 * (m:Int)
 | 0,_=>⟨vct,by show (5:Int) <= 5+2 * ((0:Nat):Int); decide⟩
 | m+1,h=>by
  obtain ⟨h1,h2⟩:=ycz m fun j hj=>h j (by omega)
  refine ⟨ygx h1 (h m (by omega)),?_⟩
  have:=yx2 (c:=mx m) (b:=bt m) h1.ok
  show (nar (snK mx bt m) (mx m) (bt m)).2.2 <= _
  omega
theorem yew {mx my bt bu:Nat->Int}:∀ m,(∀ j,j < m->mx j=my j/\bt j=bu j)->snK mx bt m=snK my bu m
 | 0,_=>rfl
 | m+1,h=>by
  show nar (snK mx bt m) (mx m) (bt m)=nar (snK my bu m) (my m) (bu m)
  rw [yew m fun j hj=>h j (by omega),(h m (by omega)).1,(h m (by omega)).2]
theorem FGo.but {p q:Addr} {A:FA} {O O':Nat->Addr->Prop} {H H1 H2:Hp} {el:Addr} {o':HO} (h:FGo p A O H H1 el O') (hq:H q=none) (B:But q H1 H2) (hq2:H2 q=some o'):FGo p A O H H2 el O' :=
 ⟨h.he,h.hO,fun c o e c1 c2 c3 no=>B _ _ (h.fr c o e c1 c2 c3 no) (ye e hq),fun c o e=>let ⟨o1,w⟩:=h.live c o e; ⟨o1,B _ _ w (ye e hq)⟩⟩
theorem z0.but {K:W.Frag} {a:Ads} {H H':Hp} {p q C dq:Addr} {A:FA} {X:FX} {f:Nat->List Int->Option Slt} {O:Nat->Addr->Prop} {m:Nat} {fs:List (Str × V)} (h:z0 K a H p A X f O m) (hq:H q=some (.ins C dq fs)) (hl:fs.length=3) (nO:∀ i,i < A.n->¬ O i q) (B:But q H H'):z0 K a H' p A X f O m:=by
 refine h.frame (O2:=fun c=>c=q) (fun c o e ne=>B c o e ne) (fun z=>uu h.me hq (by rw [hl]; show ¬ (6=3); decide) z) (fun z=>uu h.mx.o hq (by rw [hl]; show ¬ (1=3); decide) z) (fun i hi z=>uu (h.B.b i hi).me hq (by rw [hl]; show ¬ (2=3); decide) z) (fun i c hi w z=>nO i hi (z ▸ w)) (fun l xs _ e=>B.lst hq e) (fun t xs e=>?_)
 rcases e with (e | ⟨o,e⟩) | e
 ·exact .inl (.inl (B _ _ e (fun z=>by rw [z,hq] at e; cases e)))
 ·exact .inl (.inr ⟨o,B _ _ e (fun z=>by rw [z,hq] at e; cases e)⟩)
 ·exact .inr e
theorem yrc (A:FA) (ml el pl:Addr) (sl:Nat->Addr):∀ (bs:List Int) (X:FX),X.run (A.re ml el pl sl) bs=X.run A bs
 | [],_=>rfl
 | b :: r,X=>yrc A ml el pl sl r (X.see A b)
def yj8 (A:FA) (X:FX) (ts:List Int) (k:Nat):Int:=yrk (X.run A ((dec ts).take k)).ws ((X.run A ((dec ts).take k)).cs A)
theorem ymm:ym ["foreteller","text","span","bit"] ["foreteller","text"] (yj yva):=⟨rfl,rfl,rfl,by decide +kernel,rfl,by decide +kernel,by decide +kernel⟩
def yn2 (K:W.Frag) (a:Ads):Sp:=fun vs H Q _=>∃ (p:Addr) (A:FA) (X:FX) (f:Nat->List Int->Option Slt) (O:Nat->Addr->Prop) (m:Nat) (tx:Addr) (ts:List Int),vs=[.ref p,.ref tx]/\z0 K a H p A X f O m/\X.sg=[]/\X.nd=0/\ycf H tx ts 1000/\tx≠A.el/\m+6 * (dec ts).length+20 < 1000000 /\
 ∀ (r ml el pl:Addr) (sl:Nat->Addr) (f':Nat->List Int->Option Slt) (O':Nat->Addr->Prop) (m':Nat) (H':Hp),H r=none->H' r=some (.lst ((tL (snK (yj8 A X ts) (w6 ts) (dec ts).length)).map V.int))->z0 K a H' p (A.re ml el pl sl) (X.run A (dec ts)) f' O' m'->m' <= m+6 * (dec ts).length->FGo p A O H H' el O'->Q (.ref r) H'
theorem ywy (T:Txt K mg a):wv P w K mg base CX0 7 a.f_q57 a.d_q57 ["foreteller","text"] (yn2 K a):=by
 refine T.y_q57.F.ok ymm (fun vs H Q E h=>?_) (fun cdv A outer s H vs Q E hr h=>?_)
 ·obtain ⟨p,A,X,f,O,m,tx,ts,rfl,_⟩:=h
  rfl
 ·obtain ⟨p,A0,X,f,O,m,tx,ts,rfl,hF,hsg,hnd,htx,ntx,hm,k⟩:=h
  have hdl:=yaw ts
  have hz:=htx.z
  have hts:=htx.s
  refine yu (yy (i:=2) ymm.nd rfl (Or.inl rfl) (yaj T.k_Span (yqi T) (hr.mono (by decide)) rfl T.m_Span T.y_q45.B .nil vv)) ?_
  refine yu (ya7 PassesOwn.never rfl (xc (vg (yqh T) (hr.mono (by decide)) rfl T.y_q13.m T.y_q13.F.kp T.y_q13.B .nil vv (yb (pv 1) yd (ya rfl)))) (ub (i:=3) ymm.nd rfl (Or.inl rfl)) (yi (vz (zt (pv 2) T.cl_Span T.y_q47.m (yqd T) (hr.mono (by decide)) T.y_q47.B .nil xm (yb (xf (pv 0) T.cl_Ft T.y_q39.m (yq3 T) (hr.mono (by decide)) T.y_q39.B .nil vv) (yb (pv 3) yd (ya rfl)) (ya rfl)))) (yf (vz (ut (pv 0) T.cl_Ft T.y_q40.m (yml T) (hr.mono (by decide)) T.y_q40.B .nil vv (yb (pv 3) yd (ya rfl))))))) ?_
  refine ⟨_,(yf (yv (xf (pv 2) T.cl_Span T.y_q49.m (yqy T) (hr.mono (by decide)) T.y_q49.B .nil vv))),?_⟩
  try dsimp only [wk]
  refine yn (σ':=[some _,some _,none,none]) rfl ?_
  walk_at "rd"
  intro q dq nq ndq neq
  have SQ:vi H (upd (upd H dq (.own q)) q (.ins a.C_Span dq [])):=fun b o e=>by rw [yp (ye e nq),yp (ye e ndq)]; exact e
  refine ⟨q,dq,rfl,yc,fun H1 hq1 B1=>⟨rfl,?_⟩⟩
  have S1:vi H H1:=fun b o e=>B1 b o (SQ b o e) (ye e nq)
  walk_at "rd"
  refine ⟨tx,ts,rfl,S1 _ _ htx.l,hts,by omega,fun bt H2 hbt0 hbt2 S2=>?_⟩
  have S12:=S1.trans S2
  have hF2:=hF.same S12
  have nbt:bt≠A0.el:=(ye (hF.same S1).el hbt0).symm
  have nOq:∀ i,i < A0.n->¬ O i q:=fun i hi w=>by
   obtain ⟨o,ho,_⟩:=(hF.B.b i hi).own q w
   rw [nq] at ho
   cases ho
  refine ⟨bt,rfl,⟨_,SqL.of hbt2⟩,yam (K:=K) (a:=bt) (xs:=(dec ts).map V.int) (fun j σ2 G=>∃ (v:Option V) (ml el pl:Addr) (sl:Nat->Addr) (f':Nat->List Int->Option Slt) (O':Nat->Addr->Prop),σ2=[some (.ref p),some (.ref tx),some (.ref q),v]/\z0 K a G p (A0.re ml el pl sl) (X.run A0 ((dec ts).take j)) f' O' (m+6 * j)/\FGo p A0 O H G el O'/\TxE ts j (X.run A0 ((dec ts).take j)).sg (X.run A0 ((dec ts).take j)).nd/\G q=some (.ins a.C_Span dq (jl (snK (yj8 A0 X ts) (w6 ts) j)))/\(∀ i,i < A0.n->¬ O' i q)/\(G bt=some (.lst ((dec ts).map V.int))/\bt≠el)/\(∀ i,i < j->Ch (yj8 A0 X ts i)))
   ⟨_,A0.ml,A0.el,A0.pl,A0.sl,f,O,rfl,hF2,FGo.refl.same S12,.inl ⟨Nat.zero_le _,by show yhf _ _ X.sg X.nd; rw [hsg,hnd]; exact yhf.zero _⟩,S2 _ _ hq1,nOq,⟨hbt2,nbt⟩,fun i hi=>absurd hi (Nat.not_lt_zero i)⟩ (fun j σ2 G _ ⟨_,_,_,_,_,_,_,_,_,_,_,_,_,z,_⟩=>SqL.of z.1) ?_ ?_⟩
  ·rintro j y σ2 G hy ⟨v,ml1,el1,pl1,sl1,f1,O1,rfl,hF1,go,hT,hqG,nO1,⟨hbtG,nbt1⟩,hch⟩
   obtain ⟨b,rfl,hbm,hb,hj⟩:=zx hy
   obtain ⟨b0,b1⟩:=jt _ b hbm
   obtain ⟨hTx,hTn⟩:=hT.next hts hb
   obtain ⟨nd0,nd1⟩:=hTx.nd hts
   have hsl:=hTx.len
   have hbt':w6 ts j=b:=by unfold w6; rw [hb]; rfl
   have hpG:=hF1.me
   have hcm:Ch (yj8 A0 X ts j):=ym1 hF1.n1 hF1.wok hF1.cok
   have hcu:=yin hcm
   have hbu:=ygv b0 b1
   obtain ⟨sk1,sk2⟩:=ycz (mx:=yj8 A0 X ts) (bt:=w6 ts) j hch
   walk_at "rd"
   refine ⟨q,dq,_,rfl,hqG,lkN _ (by decide +kernel) (by decide +kernel) (by decide +kernel),?_⟩
   walk_at "rd"
   refine ⟨p,A0.re ml1 el1 pl1 sl1,_,f1,O1,_,rfl,hF1,fun G1 T1=>?_⟩
   walk_at "rd"
   refine ⟨q,dq,_,.int (yj8 A0 X ts j),.int b,_,_,rfl,T1 _ _ hqG,sk1.ok,.int _,.int _,fun z=>(by rw [hcu] at z; cases z),fun _ z=>(by rw [hbu] at z; cases z),fun c' b' ec eb _ _ _ G2 hq2 B2=>?_⟩
   cases ec
   cases eb
   have hF2':=(hF1.same T1).but (T1 _ _ hqG) rfl nO1 B2
   have go2:FGo p A0 O H G2 el1 O1:=(go.same T1).but nq B2 hq2
   have hbt2':G2 bt=some (.lst ((dec ts).map V.int)):=B2.lst (T1 _ _ hqG) (T1 _ _ hbtG)
   have hp2:=hF2'.me
   have n6:=hF1.n6
   walk_at "rd"
   refine ⟨p,A0.re ml1 el1 pl1 sl1,_,f1,O1,m+6 * j,b,rfl,hF2',b0,b1,by omega,nd0,by omega,fun ml3 el3 pl3 sl3 f3 O3 G3 he3 hF3 hO3 fr3 lv3 _=>?_⟩
   have go3:FGo p (A0.re ml1 el1 pl1 sl1) O1 G2 G3 el3 O3:=⟨he3,hO3,fr3,lv3⟩
   have kp3:=go3.kpa hF2'
   walk_at "rd"
   refine ⟨_,ml3,el3,pl3,sl3,f3,O3,rfl,?_,go2.trans go3,?_,?_,fun i hi w=>?_,⟨(kp3 _ _ hbt2' rfl nbt1).2,(kp3 _ _ hbt2' rfl nbt1).1⟩,fun i hi=>?_⟩
   ·rw [yag hb]
    exact hF3.up (by show m+6 * j+A0.n <= _; have:A0.n <= 6:=n6; omega)
   ·rw [yag hb]
    exact hTn
   ·have e:snK (yj8 A0 X ts) (w6 ts) (j+1)=nar (snK (yj8 A0 X ts) (w6 ts) j) (yj8 A0 X ts j) b:=by show nar _ _ (w6 ts j)=_; rw [hbt']
    rw [e]
    exact fr3 _ _ hq2 (uu hq2 hF2'.me (show ¬ (3=6) by decide)) (uu hq2 hF2'.mx.o (show ¬ (3=1) by decide)) (fun z=>by have e:=hF2'.el; rw [<- z,hq2] at e; cases e) nO1
   ·rcases hO3 i q hi w with v | v
    ·exact nO1 i hi v
    ·rw [hq2] at v
     cases v
   ·by_cases z:i=j
    ·rw [z]
     exact hcm
    ·exact hch i (by omega)
  ·rintro σ2 G ⟨v,ml1,el1,pl1,sl1,f1,O1,rfl,hF1,go,hT,hqG,nO1,_,hch⟩
   rw [List.length_map] at hF1 hqG hch
   rw [List.take_length] at hF1
   obtain ⟨sk1,sk2⟩:=ycz (mx:=yj8 A0 X ts) (bt:=w6 ts) (dec ts).length hch
   walk_at "rd"
   refine ⟨q,dq,_,rfl,hqG,lkN _ (by decide +kernel) (by decide +kernel) (by decide +kernel),?_⟩
   walk_at "rd"
   refine ⟨q,dq,_,rfl,hqG,sk1,by show Int.toNat _ <= 100000; omega,fun r G1 hr0 hr1 T1=>?_⟩
   exact k r ml1 el1 pl1 sl1 f1 O1 _ G1 (go.free hr0) hr1 (hF1.same T1) (Nat.le_refl _) (go.same T1)
def yv2 (K:W.Frag) (a:Ads) (H:Hp) (vl vt vx:V) (E:XK) (F:Nat->(Nat->Fin 3)->(Nat->List Int)->List Int->Nat->(Nat->List Int)->Prop):Prop :=
 ∃ nt:String,xw K H vt (.type nt)/\((yj9 K H vl/\∀ H',vi H H'->E (.ref a.C_NL) none H') \/
  ∃ (L:Addr) (n:Nat) (lk:Nat->Addr) (kd:Nat->Fin 3) (tp:Nat->Addr) (ps:Nat->List Int),vl=.ref L/\H L=some (.lst (xy lk n))/\1 <= n/\n <= 6/\ya2 H n lk kd tp ps /\
  ((Bad K H vt nt 1000/\∀ H',vi H H'->E (.ref a.C_NT) none H') \/
    ∃ (tx:Addr) (ts:List Int),vt=.ref tx/\ycf H tx ts 1000 /\
   ((ypi K H vx/\∀ H',vi H H'->E (.ref a.C_NT) none H') \/
     ∃ (N w:Nat) (lt:Nat->Addr) (tt:Nat->List Int),yph H vx N w lt tt/\w <= 1000/\N <= 1000/\6+6 * (N * (9 * w+1))+6 * (9 * ts.length+1)+20 < 1000000/\F n kd ps ts N tt)))
theorem ym9:ym ["looks","text","learned","foreteller","signs"] ["looks","text","learned"] (yj yj3):=⟨rfl,rfl,rfl,by decide +kernel,rfl,by decide +kernel,by decide +kernel⟩
def yxa (K:W.Frag) (a:Ads):Sp:=fun vs H Q E=>∃ (vl vt vx:V),vs=[vl,vt,vx]/\yv2 K a H vl vt vx E fun n kd ps ts N tt=>∀ r H',H r=none->H' r=some (.lst ((tL (snK (ya3 n kd ps (za tt N) ts) (w6 ts) (dec ts).length)).map V.int))->vi H H'->Q (.ref r) H'
theorem yna (T:Txt K mg a):wv P w K mg base (CXe P w) 8 a.f_q58 a.d_q58 ["looks","text","learned"] (yxa K a):=by
 refine T.F_q58.okE ym9 (fun vs H Q E h=>?_) (fun cdv A outer s H vs Q E hr h=>?_)
 ·obtain ⟨vl,vt,vx,rfl,_⟩:=h
  rfl
 ·obtain ⟨vl,vt,vx,rfl,nt,ttx,h⟩:=h
  refine yu (yy (i:=3) ym9.nd rfl (Or.inl rfl) (ydr T.k_Ft (yqb T) (hr.mono (by decide)) rfl T.m_Ft T.y_q36.B .nil v6 (yb (pv 0) yd (ya rfl)))) ?_
  refine yu (yy (i:=4) ym9.nd rfl (Or.inl rfl) (ve (yjx T) (hr.mono (by decide)) rfl T.y_q6.m T.y_q6.F.kp T.y_q6.B .nil v6 (yb (pv 1) yd (ya rfl)))) ?_
  refine yu (vz (vg (ypt T) (hr.mono (by decide)) rfl T.y_q56.m T.y_q56.F.kp T.y_q56.B .nil vv (yb (pv 3) (yb (ve (yp8 T) (hr.mono (by decide)) rfl T.y_q55.m T.y_q55.F.kp T.y_q55.B .nil v6 (yb (pv 2) yd (ya rfl))) yd (ya rfl)) (ya rfl)))) ?_
  refine ⟨_,(yf (yv (vg (ywy T) (hr.mono (by decide)) rfl T.y_q57.m T.y_q57.F.kp T.y_q57.B .nil vv (yb (pv 3) (yb (pv 4) yd (ya rfl)) (ya rfl))))),?_⟩
  try dsimp only [wk]
  refine yn (σ':=[some _,some _,some _,none,none]) rfl ?_
  walk_at "rd"
  intro p dp np ndp nep
  have S0:vi H (upd (upd H dp (.own p)) p (.ins a.C_Ft dp [])):=fun b o e=>by rw [yp (ye e np),yp (ye e ndp)]; exact e
  rcases h with ⟨hb,kE⟩ | ⟨L,n,lk,kd,tp,ps,rfl,hL,n1,n6,hRw,h⟩
  ·exact ⟨p,dp,vl,rfl,yc,.inl ⟨hb.same S0,fun H' S'=>kE H' (S0.trans S')⟩⟩
  refine ⟨p,dp,.ref L,rfl,yc,.inr ⟨L,n,lk,kd,tp,ps,rfl,S0 _ _ hL,n1,n6,hRw.same S0,fun A f O H1 N1 B1=>⟨rfl,?_⟩⟩⟩
  obtain ⟨hft,rfl,rfl,rfl,rfl,oO,oB,oM,oL⟩:=N1
  have S1:vi H H1:=fun b o e=>B1 b o (S0 b o e) (ye e np)
  have fresh:∀ {c:Addr},upd (upd H dp (.own p)) p (.ins a.C_Ft dp []) c=none->H c=none:=fun h=>S0.free h
  have hel0:H A.el=none:=fresh (oL A.el (.inr (.inl rfl)))
  walk_at "rd"
  rcases h with ⟨hb,kE⟩ | ⟨tx,ts,rfl,htx,h⟩
  ·exact ⟨vt,nt,rfl,xv S1 ttx,.inl ⟨hb.same S1,fun H' S'=>kE H' (S1.trans S')⟩⟩
  have hz50:=htx.z
  have hdlen:=yaw ts
  refine ⟨.ref tx,_,rfl,.lst (S1 _ _ htx.l),.inr ⟨ts.map V.int,ybk (S1 _ _ htx.l) htx.s htx.z,fun sg H2 hsg0 hsg2 S2=>?_⟩⟩
  have S12:=S1.trans S2
  have hft2:=hft.same S2
  have nsg:sg≠A.el:=(ye hft.el hsg0).symm
  walk_at "rd"
  rcases h with ⟨hb,kE⟩ | ⟨N,w,lt,tt,hlr,hw1,hN1,hb1,k⟩
  ·exact .inl ⟨vx,rfl,hb.same S12,fun H' S'=>kE H' (S12.trans S')⟩
  refine ycq (hlr.same S12) hw1 hN1 fun cl0 cx H3 h0 h3 hx S3=>?_
  walk_at "rd"
  refine ⟨p,A,FX0 A.n A.kd,f,O,6,cl0,N,w,cx,tt,rfl,hft2.same S3,rfl,rfl,h3,(ye hft2.el h0).symm,fun i hi=>⟨⟨(hx i hi).2,(hlr.2 i hi).s,(hlr.2 i hi).z⟩,(ye hft2.el (hx i hi).1).symm⟩,hw1,by omega,fun ml el pl sl f1 O1 m1 H4 hF4 hm4 go4 sg4 nd4=>?_⟩
  have go4:=FGo.ahead S3 go4
  have kp4:=go4.kpa hft2
  have hsg4:=kp4 _ _ hsg2 rfl nsg
  have eX:∀ i,yj8 (A.re ml el pl sl) ((FX0 A.n A.kd).run A (za tt N)) ts i=ya3 A.n A.kd A.ps (za tt N) ts i:=fun i=>by
   unfold ya3 yj8 fX
   rw [yrc,<- yd2 A,<- yd2 A]
   rfl
  generalize hX:(FX0 A.n A.kd).run A (za tt N)=XX at hF4 sg4 nd4 eX
  walk_at "rd"
  refine ⟨p,A.re ml el pl sl,XX,f1,O1,m1,sg,ts,rfl,hF4,sg4,nd4,⟨hsg4.2,htx.s,hz50⟩,hsg4.1,by omega,fun r ml2 el2 pl2 sl2 f2 O2 m2 H5 hr0 hr5 hF5 hm5 go5=>?_⟩
  have go:=go4.trans go5
  rw [yew _ fun j _=>⟨eX j,rfl⟩] at hr5
  refine k r H5 (S12.free (go4.free hr0)) hr5 fun c o e=>go.fr c o (S12 _ _ e) (fun z=>?_) (fun z=>?_) (fun z=>?_) (fun i hi w'=>?_)
  ·rw [z,np] at e
   cases e
  ·rw [z,fresh oM] at e
   cases e
  ·rw [z,hel0] at e
   cases e
  ·rw [fresh (oO i c hi w')] at e
   cases e
structure RGo (p q s:Addr) (A:FA) (O:Nat->Addr->Prop) (H H':Hp) (ml el:Addr) (O':Nat->Addr->Prop):Prop where
 hm:ml=A.ml\/H ml=none
 he:el=A.el\/H el=none
 hO:∀ j c,j < A.n->O' j c->O j c\/H c=none
 fr:∀ c o,H c=some o->c≠p->c≠A.mp->c≠A.el->c≠q->c≠s->(∀ j,j < A.n->¬ O j c)->H' c=some o
 live:∀ c o,H c=some o->∃ o',H' c=some o'
theorem RGo.free {p q s:Addr} {A:FA} {O O':Nat->Addr->Prop} {H H':Hp} {ml el c:Addr} (h:RGo p q s A O H H' ml el O') (hc:H' c=none):H c=none:=by
 cases e:H c with
 | none=>rfl
 | some o =>
  obtain ⟨o',w⟩:=h.live c o e
  rw [hc] at w
  cases w
theorem RGo.refl {p q s:Addr} {A:FA} {O:Nat->Addr->Prop} {H:Hp}:RGo p q s A O H H A.ml A.el O:=⟨.inl rfl,.inl rfl,fun _ _ _ w=>.inl w,fun _ _ e _ _ _ _ _ _=>e,fun _ o e=>⟨o,e⟩⟩
theorem RGo.trans {p q s:Addr} {A:FA} {O O1 O2:Nat->Addr->Prop} {H H1 H2:Hp} {ml el pl ml2 el2:Addr} {sl:Nat->Addr} (h:RGo p q s A O H H1 ml el O1) (k:RGo p q s (A.re ml el pl sl) O1 H1 H2 ml2 el2 O2):RGo p q s A O H H2 ml2 el2 O2:=by
 refine ⟨?_,?_,fun j c hj w=>?_,fun c o e c1 c2 c3 c4 c5 no=>?_,fun c o e=>?_⟩
 ·rcases k.hm with z | z
  ·rcases h.hm with y | y
   ·exact .inl (z.trans y)
   ·exact .inr (by rw [show ml2=ml from z]; exact y)
  ·exact .inr (h.free z)
 ·rcases k.he with z | z
  ·rcases h.he with y | y
   ·exact .inl (z.trans y)
   ·exact .inr (by rw [show el2=el from z]; exact y)
  ·exact .inr (h.free z)
 ·rcases k.hO j c hj w with v | v
  ·exact h.hO j c hj v
  ·exact .inr (h.free v)
 ·refine k.fr c o (h.fr c o e c1 c2 c3 c4 c5 no) c1 c2 (fun z=>?_) c4 c5 (fun j hj w=>?_)
  ·rcases h.he with y | y
   ·exact c3 (z.trans y)
   ·rw [show c=el from z,y] at e
    cases e
  ·rcases h.hO j c hj w with v | v
   ·exact no j hj v
   ·rw [e] at v
    cases v
 ·obtain ⟨o1,w1⟩:=h.live c o e
  exact k.live c o1 w1
theorem RGo.same {p q s:Addr} {A:FA} {O O':Nat->Addr->Prop} {H H1 H2:Hp} {ml el:Addr} (h:RGo p q s A O H H1 ml el O') (S:vi H1 H2):RGo p q s A O H H2 ml el O' :=
 ⟨h.hm,h.he,h.hO,fun c o e c1 c2 c3 c4 c5 no=>S _ _ (h.fr c o e c1 c2 c3 c4 c5 no),fun c o e=>let ⟨o',w⟩:=h.live c o e; ⟨o',S _ _ w⟩⟩
structure j7 (K:W.Frag) (a:Ads) (H:Hp) (p:Addr) (A:FA) (X:FX) (f:Nat->List Int->Option Slt) (O:Nat->Addr->Prop) (m:Nat) (q dx pd s ds:Addr) (d:List Int) (x:Sn):Prop where
 ft:z0 K a H p A X f O m
 sk:yka a H q dx pd s ds d x
 ok:OkS x
 nO:∀ i,i < A.n->¬ O i q/\¬ O i s
 nd:pd≠A.el
theorem j7.same {K:W.Frag} {a:Ads} {H H':Hp} {p:Addr} {A:FA} {X:FX} {f:Nat->List Int->Option Slt} {O:Nat->Addr->Prop} {m:Nat} {q dx pd s ds:Addr} {d:List Int} {x:Sn} (h:j7 K a H p A X f O m q dx pd s ds d x) (S:vi H H'):j7 K a H' p A X f O m q dx pd s ds d x:=⟨h.ft.same S,h.sk.same S,h.ok,h.nO,h.nd⟩
def chX (A:FA) (X:FX):Int:=yrk X.ws (X.cs A)
theorem z0.but2 {K:W.Frag} {a:Ads} {H H':Hp} {p:Addr} {A:FA} {X:FX} {f:Nat->List Int->Option Slt} {O:Nat->Addr->Prop} {m:Nat} {q dx pd s ds:Addr} {d:List Int} {x:Sn} (h:j7 K a H p A X f O m q dx pd s ds d x) (B:ynk q s H H'):z0 K a H' p A X f O m:=by
 have hq:=h.sk.me
 have hs:=h.sk.sp
 refine h.ft.frame (O2:=fun c=>c=q\/c=s) (fun c o e ne=>B c o e (fun z=>ne (.inl z)) (fun z=>ne (.inr z))) (fun z=>?_) (fun z=>?_) (fun i hi z=>?_) (fun i c hi w z=>?_) (fun l xs _ e=>h.sk.lst B e) (fun t xs e=>?_)
 ·rcases z with z | z
  ·exact uu h.ft.me hq (show ¬ (6=4) by decide) z
  ·exact uu h.ft.me hs (show ¬ (6=3) by decide) z
 ·rcases z with z | z
  ·exact uu h.ft.mx.o hq (show ¬ (1=4) by decide) z
  ·exact uu h.ft.mx.o hs (show ¬ (1=3) by decide) z
 ·rcases z with z | z
  ·exact uu (h.ft.B.b i hi).me hq (show ¬ (2=4) by decide) z
  ·exact uu (h.ft.B.b i hi).me hs (show ¬ (2=3) by decide) z
 ·rcases z with z | z
  ·exact (h.nO i hi).1 (z ▸ w)
  ·exact (h.nO i hi).2 (z ▸ w)
 ·rcases e with (e | ⟨o,e⟩) | e
  ·exact .inl (.inl (h.sk.tup B e))
  ·exact .inl (.inr ⟨o,B _ _ e (uh e hq (by intro z; cases z)) (uh e hs (by intro z; cases z))⟩)
  ·exact .inr e
theorem yp1:ym ["foreteller","seeker","bit"] ["foreteller","seeker"] (yj yu0):=⟨rfl,rfl,rfl,by decide +kernel,rfl,by decide +kernel,by decide +kernel⟩
def yh7 (K:W.Frag) (a:Ads):Sp:=fun vs H Q _=>∃ (p:Addr) (A:FA) (X:FX) (f:Nat->List Int->Option Slt) (O:Nat->Addr->Prop) (m:Nat) (q dx pd s ds:Addr) (d:List Int) (x:Sn),vs=[.ref p,.ref q]/\j7 K a H p A X f O m q dx pd s ds d x/\m+20 < 1000000/\0 <= X.nd/\X.sg.length <= 100000 /\
 ∀ (ml el pl:Addr) (sl:Nat->Addr) (f':Nat->List Int->Option Slt) (O':Nat->Addr->Prop) (H':Hp),j7 K a H' p (A.re ml el pl sl) (X.see A (ybf d x (chX A X))) f' O' (m+A.n) q dx pd s ds d (nar x (chX A X) (ybf d x (chX A X)))->RGo p q s A O H H' ml el O'->Q (.int (ybf d x (chX A X))) H'
theorem yq9 (T:Txt K mg a):wv P w K mg base CX0 7 a.f_q59 a.d_q59 ["foreteller","seeker"] (yh7 K a):=by
 refine T.y_q59.F.ok yp1 (fun vs H Q E h=>?_) (fun cdv A outer s H vs Q E hr h=>?_)
 ·obtain ⟨p,A,X,f,O,m,q,dx,pd,s',ds,d,x,rfl,_⟩:=h
  rfl
 ·obtain ⟨p,A0,X,f,O,m,q,dx,pd,s',ds,d,x,rfl,hR,hm,nd0,hsg,k⟩:=h
  have hp:=hR.ft.me
  have hq:=hR.sk.me
  have hcm:Ch (chX A0 X):=ym1 hR.ft.n1 hR.ft.wok hR.ft.cok
  have hcu:=yin hcm
  refine ⟨_,(yi (yy (i:=2) yp1.nd rfl (Or.inl rfl) (zt (pv 1) T.cl_Sk T.y_q53.m (yzb T) (hr.mono (by decide)) T.y_q53.B .nil xm (yb (xf (pv 0) T.cl_Ft T.y_q39.m (yq3 T) (hr.mono (by decide)) T.y_q39.B .nil vv) yd (ya rfl)))) (yi (vz (ut (pv 0) T.cl_Ft T.y_q40.m (yml T) (hr.mono (by decide)) T.y_q40.B .nil vv (yb (pv 2) yd (ya rfl)))) (yf (yv (pv 2))))),?_⟩
  try dsimp only [wk]
  refine yn (σ':=[some _,some _,none]) rfl ?_
  walk_at "rd"
  refine ⟨p,A0,X,f,O,m,rfl,hR.ft,fun H1 S1=>?_⟩
  have hR1:=hR.same S1
  walk_at "rd"
  refine ⟨q,dx,pd,s',ds,d,x,.int (chX A0 X),_,rfl,hR1.sk,hR.ok,.int _,fun z=>(by rw [hcu] at z; cases z),fun c' ec _ H2 hsk2 B2=>?_⟩
  cases ec
  have hF2:=z0.but2 hR1 B2
  have hp2:=hF2.me
  obtain ⟨b0,b1⟩:0 <= ybf d x (chX A0 X)/\ybf d x (chX A0 X) <= 1:=by
   rcases ydy d x (chX A0 X) with e | e <;> (rw [e]; decide)
  generalize hb:ybf d x (chX A0 X)=b at b0 b1 hsk2 k
  walk_at "rd"
  refine ⟨p,A0,X,f,O,m,b,rfl,hF2,b0,b1,hm,nd0,hsg,fun ml el pl sl f' O' H3 he hF3 hO fr lv hml=>?_⟩
  have nqp:q≠p:=uu hsk2.me hF2.me (show ¬ (4=6) by decide)
  have nqm:q≠A0.mp:=uu hsk2.me hF2.mx.o (show ¬ (4=1) by decide)
  have nsp:s'≠p:=uu hsk2.sp hF2.me (show ¬ (3=6) by decide)
  have nsm:s'≠A0.mp:=uu hsk2.sp hF2.mx.o (show ¬ (3=1) by decide)
  have nel:∀ {c C dc:Addr} {fs:List (Str × V)},H2 c=some (.ins C dc fs)->c≠A0.el:=fun e z=>by
   have e2:=hF2.el
   rw [<- z,e] at e2
   cases e2
  have hq3:=fr _ _ hsk2.me nqp nqm (nel hsk2.me) fun i hi=>(hR.nO i hi).1
  have hs3:=fr _ _ hsk2.sp nsp nsm (nel hsk2.sp) fun i hi=>(hR.nO i hi).2
  have hd3:H3 pd=some (.lst (d.map V.int)):=fr _ _ hsk2.dt (fun z=>by have e:=hsk2.dt; rw [z,hF2.me] at e; cases e) (fun z=>by have e:=hsk2.dt; rw [z,hF2.mx.o] at e; cases e) hR.nd (hF2.B.nlst hsk2.dt)
  walk_at "rd"
  refine k ml el pl sl f' O' H3 ⟨hF3,⟨hq3,hd3,hs3,hsk2.ne⟩,ygx hR.ok hcm,fun i hi=>⟨fun w=>?_,fun w=>?_⟩,?_⟩ ⟨.inr ?_,?_,fun j c hj w=>?_,fun c o e c1 c2 c3 c4 c5 no=>?_,fun c o e=>?_⟩
  ·rcases hO i q hi w with v | v
   ·exact (hR.nO i hi).1 v
   ·rw [hsk2.me] at v
    cases v
  ·rcases hO i s' hi w with v | v
   ·exact (hR.nO i hi).2 v
   ·rw [hsk2.sp] at v
    cases v
  ·rcases he with z | z
   ·rw [show (A0.re ml el pl sl).el=A0.el from z]
    exact hR.nd
   ·exact ye hsk2.dt z
  ·cases e:H ml with
   | none=>rfl
   | some o =>
    by_cases z1:ml=q
    ·rw [z1,hsk2.me] at hml
     cases hml
    by_cases z2:ml=s'
    ·rw [z2,hsk2.sp] at hml
     cases hml
    rw [B2 _ _ (S1 _ _ e) z1 z2] at hml
    cases hml
  ·rcases he with z | z
   ·exact .inl z
   ·refine .inr ?_
    cases e:H el with
    | none=>rfl
    | some o =>
     by_cases z1:el=q
     ·rw [z1,hsk2.me] at z
      cases z
     by_cases z2:el=s'
     ·rw [z2,hsk2.sp] at z
      cases z
     rw [B2 _ _ (S1 _ _ e) z1 z2] at z
     cases z
  ·rcases hO j c hj w with v | v
   ·exact .inl v
   ·refine .inr ?_
    cases e:H c with
    | none=>rfl
    | some o =>
     by_cases z1:c=q
     ·rw [z1,hsk2.me] at v
      cases v
     by_cases z2:c=s'
     ·rw [z2,hsk2.sp] at v
      cases v
     rw [B2 _ _ (S1 _ _ e) z1 z2] at v
     cases v
  ·exact fr c o (B2 _ _ (S1 _ _ e) c4 c5) c1 c2 c3 no
  ·by_cases z1:c=q
   ·exact ⟨_,z1 ▸ hq3⟩
   by_cases z2:c=s'
   ·exact ⟨_,z2 ▸ hs3⟩
   exact lv c o (B2 _ _ (S1 _ _ e) z1 z2)
def rnx (A:FA) (d:List Int) (S:FX × Sn):FX × Sn:=(S.1.see A (ybf d S.2 (chX A S.1)),nar S.2 (chX A S.1) (ybf d S.2 (chX A S.1)))
def rst (A:FA) (d:List Int) (S:FX × Sn):Nat->FX × Sn
 | 0=>S
 | n+1=>rnx A d (rst A d S n)
def yaq (A:FA) (d:List Int) (S:FX × Sn) (n:Nat):Int:=ybf d (rst A d S n).2 (chX A (rst A d S n).1)
theorem yqp (A:FA) (d:List Int) (S:FX × Sn) (n:Nat):yaq A d S n=0\/yaq A d S n=1:=ydy _ _ _
theorem ygr (A:FA) (d:List Int) (S:FX × Sn) (k:Nat):∀ n,rst A d (rst A d S k) n=rst A d S (k+n)
 | 0=>rfl
 | n+1=>congrArg (rnx A d) (ygr A d S k n)
theorem ymz (A:FA) (d:List Int) (S:FX × Sn) (ml el pl:Addr) (sl:Nat->Addr):∀ n,rst (A.re ml el pl sl) d S n=rst A d S n
 | 0=>rfl
 | n+1=>by
  show rnx (A.re ml el pl sl) d (rst (A.re ml el pl sl) d S n)=_
  rw [ymz A d S ml el pl sl n]
  rfl
theorem yyw (A:FA) (X:FX) (b:Int) (h:0 <= X.nd) (hb:0 <= b):0 <= (X.see A b).nd:=by
 show 0 <= ndN X.nd b
 unfold ndN
 split
 ·split <;> omega
 ·split <;> omega
theorem yxo (A:FA) (X:FX) (b:Int):(X.see A b).sg.length <= X.sg.length+1:=by
 show (sgN X.sg X.nd b).length <= _
 unfold sgN
 split
 ·split
  ·rw [List.length_append]; exact Nat.le_refl _
  ·omega
 ·split
  ·omega
  ·exact Nat.zero_le _
theorem yic (A:FA) (d:List Int) (S:FX × Sn) (h:0 <= S.1.nd):∀ n,0 <= (rst A d S n).1.nd
 | 0=>h
 | n+1=>yyw A _ _ (yic A d S h n) (by rcases yqp A d S n with e | e <;> (unfold yaq at e; rw [e]; decide))
theorem yit (A:FA) (d:List Int) (S:FX × Sn):∀ n,(rst A d S n).1.sg.length <= S.1.sg.length+n
 | 0=>Nat.le_refl _
 | n+1=>Nat.le_trans (yxo A _ _) (Nat.succ_le_succ (yit A d S n))
theorem j7.app {K:W.Frag} {a:Ads} {H:Hp} {p R:Addr} {A:FA} {X:FX} {f:Nat->List Int->Option Slt} {O:Nat->Addr->Prop} {m:Nat} {q dx pd s ds:Addr} {d:List Int} {x:Sn} {xs ys:List V} (h:j7 K a H p A X f O m q dx pd s ds d x) (hR:H R=some (.lst xs)) (hq:∀ q,(q=A.bl\/q=A.el\/q=A.ml\/q=A.pl)->q≠R) (np:pd≠R):j7 K a (upd H R (.lst ys)) p A X f O m q dx pd s ds d x:=by
 refine ⟨h.ft.app hR hq,⟨yq (fun z=>?_) h.sk.me,yq np h.sk.dt,yq (fun z=>?_) h.sk.sp,h.sk.ne⟩,h.ok,h.nO,h.nd⟩
 ·have e:=h.sk.me
  rw [z,hR] at e
  cases e
 ·have e:=h.sk.sp
  rw [z,hR] at e
  cases e
theorem j7.notN {K:W.Frag} {a:Ads} {H:Hp} {p R:Addr} {A:FA} {X:FX} {f:Nat->List Int->Option Slt} {O:Nat->Addr->Prop} {m:Nat} {q dx pd s ds:Addr} {d:List Int} {x:Sn} {xs:List Int} (h:j7 K a H p A X f O m q dx pd s ds d x) (hR:H R=some (.lst (xs.map V.int))) (nm:R≠A.ml) (ne:R≠A.el):∀ q,(q=A.bl\/q=A.el\/q=A.ml\/q=A.pl)->q≠R:=fun q hq z=>by
 have n1:=h.ft.n1
 have zero:∀ (g:Nat->Addr),xs.map V.int=xy g A.n->False:=fun g e=>by
  have h0:(xy g A.n)[0]?=some (V.ref (g 0)):=ywi n1
  rw [<- e,List.getElem?_map] at h0
  cases w:xs[0]? with
  | none=>rw [w] at h0; cases h0
  | some y=>rw [w] at h0; cases h0
 rcases hq with y | y | y | y
 ·have e:=h.ft.bl
  rw [<- y,z,hR] at e
  exact zero _ (HO.lst.inj (Option.some.inj e))
 ·exact ne (z.symm.trans y)
 ·exact nm (z.symm.trans y)
 ·have e:=h.ft.pl
  rw [<- y,z,hR] at e
  exact zero _ (HO.lst.inj (Option.some.inj e))
theorem RGo.app {p q s R:Addr} {A:FA} {O O':Nat->Addr->Prop} {H H1:Hp} {ml el:Addr} {o':HO} (h:RGo p q s A O H H1 ml el O') (hR:H R=none):RGo p q s A O H (upd H1 R o') ml el O' :=
 ⟨h.hm,h.he,h.hO,fun c o e c1 c2 c3 c4 c5 no=>yq (ye e hR) (h.fr c o e c1 c2 c3 c4 c5 no),fun c o e=>let ⟨o1,w⟩:=h.live c o e; ⟨o1,yq (ye e hR) w⟩⟩
def wB (i:Nat):Int:=([128,64,32,16,8,4,2,1]:List Int)[i]?.getD 0
theorem vb3 (i:Nat):0 <= wB i/\wB i <= 128:=by
 rcases i with _ | _ | _ | _ | _ | _ | _ | _ | i
 ·exact ⟨by decide,by decide⟩
 ·exact ⟨by decide,by decide⟩
 ·exact ⟨by decide,by decide⟩
 ·exact ⟨by decide,by decide⟩
 ·exact ⟨by decide,by decide⟩
 ·exact ⟨by decide,by decide⟩
 ·exact ⟨by decide,by decide⟩
 ·exact ⟨by decide,by decide⟩
 ·exact ⟨by show (0:Int) <= 0; decide,by show (0:Int) <= 128; decide⟩
def sgB (A:FA) (d:List Int) (S:FX × Sn) (i:Nat):List Int:=(List.range i).map fun j=>wB j * yaq A d S j
theorem yo3 (A:FA) (d:List Int) (S:FX × Sn) (i:Nat):sgB A d S (i+1)=sgB A d S i++[wB i * yaq A d S i]:=by
 unfold sgB
 rw [List.range_succ,List.map_append]
 rfl
theorem yy9:ym ["foreteller","seeker"] ["foreteller","seeker"] (yj yuv):=⟨rfl,rfl,rfl,by decide +kernel,rfl,by decide +kernel,by decide +kernel⟩
def yff (K:W.Frag) (a:Ads):Sp:=fun vs H Q _=>∃ (p:Addr) (A:FA) (S:FX × Sn) (f:Nat->List Int->Option Slt) (O:Nat->Addr->Prop) (m:Nat) (q dx pd s ds:Addr) (d:List Int),vs=[.ref p,.ref q]/\j7 K a H p A S.1 f O m q dx pd s ds d S.2/\m+80 < 1000000/\0 <= S.1.nd/\S.1.sg.length <= 90000 /\
 ∀ (ml el pl:Addr) (sl:Nat->Addr) (f':Nat->List Int->Option Slt) (O':Nat->Addr->Prop) (H':Hp),j7 K a H' p (A.re ml el pl sl) (rst A d S 8).1 f' O' (m+8 * A.n) q dx pd s ds d (rst A d S 8).2->RGo p q s A O H H' ml el O'->Q (.int (sgB A d S 8).sum) H'
theorem yz4 (T:Txt K mg a):wv P w K mg base CX0 8 a.f_q60 a.d_q60 ["foreteller","seeker"] (yff K a):=by
 refine T.y_q60.F.ok yy9 (fun vs H Q E h=>?_) (fun cdv A outer s H vs Q E hr h=>?_)
 ·obtain ⟨p,A,S,f,O,m,q,dx,pd,s',ds,d,rfl,_⟩:=h
  rfl
 ·obtain ⟨p,A0,S,f,O,m,q,dx,pd,s',ds,d,rfl,hR,hm,nd0,hsg,k⟩:=h
  have n6:=hR.ft.n6
  refine ⟨_,(yf (yv (yt (yah rfl) rfl T.z_sum (by decide +kernel) (yb (jn (js:=[1,0]) (ys:=["seeker","foreteller"]) rfl (yik (w5 rfl T.m_WORTHS)) (fun C s2 H2 fp=>(yo w8 (pv 0) (vg (yq9 T) (hr.mono (by decide)) rfl T.y_q59.m T.y_q59.F.kp T.y_q59.B .nil vv (yb (pv 2) (yb (pv 1) yd (ya rfl)) (ya rfl))))) rfl rfl (hyc:=(all_cons rfl (all_cons rfl vj))) (hrel:=(all_cons rfl (all_cons rfl vj)))) yd (ya rfl))))),?_⟩
  try dsimp only [wk]
  refine yn (σ':=[some _,some _]) rfl ?_
  walk_at "rd"
  refine ⟨a.W_WORTHS,rfl,⟨_,T.w_WORTHS H⟩,fun D hD=>?_⟩
  refine yfd (xs:=[.int 128,.int 64,.int 32,.int 16,.int 8,.int 4,.int 2,.int 1]) (fun i G=>∃ (ml el pl:Addr) (sl:Nat->Addr) (f':Nat->List Int->Option Slt) (O':Nat->Addr->Prop),j7 K a G p (A0.re ml el pl sl) (rst A0 d S i).1 f' O' (m+i * A0.n) q dx pd s' ds d (rst A0 d S i).2/\RGo p q s' A0 O H G ml el O'/\G D=some (.lst ((sgB A0 d S i).map V.int))/\D≠ml/\D≠el) ?_ (fun i G _ _=>T.w_WORTHS G) ?_ ?_
  ·have S1:vi H (upd H D (.lst [])):=vh hD
   refine ⟨A0.ml,A0.el,A0.pl,A0.sl,f,O,?_,RGo.refl.same S1,yc,(ye hR.ft.mx.l hD).symm,(ye hR.ft.el hD).symm⟩
   rw [Nat.zero_mul]
   exact hR.same S1
  ·rintro i y G hy hi8 ⟨ml,el,pl,sl,f1,O1,hR1,go1,hD1,nm1,ne1⟩
   have hi:i < 8:=hi8
   obtain rfl:y=V.int (wB i):=by
    rcases i with _ | _ | _ | _ | _ | _ | _ | _ | i
    ·exact (Option.some.inj hy).symm
    ·exact (Option.some.inj hy).symm
    ·exact (Option.some.inj hy).symm
    ·exact (Option.some.inj hy).symm
    ·exact (Option.some.inj hy).symm
    ·exact (Option.some.inj hy).symm
    ·exact (Option.some.inj hy).symm
    ·exact (Option.some.inj hy).symm
    ·omega
   have hin:i * A0.n <= 8 * A0.n:=Nat.mul_le_mul_right _ (by omega)
   obtain ⟨wb0,wb1⟩:=vb3 i
   have nd1:=yic A0 d S nd0 i
   have sg1:=yit A0 d S i
   walk_at "rd"
   refine ⟨p,A0.re ml el pl sl,(rst A0 d S i).1,f1,O1,m+i * A0.n,q,dx,pd,s',ds,d,(rst A0 d S i).2,rfl,hR1,by omega,nd1,by omega,fun ml2 el2 pl2 sl2 f2 O2 G2 hR2 go2=>?_⟩
   have hD2:G2 D=some (.lst ((sgB A0 d S i).map V.int)):=go2.fr _ _ hD1 (uh hD1 hR1.ft.me (by intro z; cases z)) (uh hD1 hR1.ft.mx.o (by intro z; cases z)) ne1 (uh hD1 hR1.sk.me (by intro z; cases z)) (uh hD1 hR1.sk.sp (by intro z; cases z)) (hR1.ft.B.nlst hD1)
   have nm2:D≠ml2:=by
    rcases go2.hm with z | z
    ·rw [z]; exact nm1
    ·exact ye hD1 z
   have ne2:D≠el2:=by
    rcases go2.he with z | z
    ·rw [z]; exact ne1
    ·exact ye hD1 z
   refine ⟨wB i,_,rfl,rfl,.inl ⟨by omega,by omega⟩,?_⟩
   refine ⟨_,hD2,?_,8 - (i+1),by show 8 - (i+1) < 8 - i; omega,rfl,hi,ml2,el2,pl2,sl2,f2,O2,?_,?_,?_,nm2,ne2⟩
   ·unfold sgB
    rw [List.length_map,List.length_map,List.length_range]
    exact Nat.lt_trans hi (by decide)
   ·rw [show m+(i+1) * A0.n=m+i * A0.n+A0.n by rw [Nat.succ_mul,Nat.add_assoc]]
    exact j7.app hR2 hD2 (hR2.notN hD2 nm2 ne2) (ye hR.sk.dt hD)
   ·exact (go1.trans go2).app hD
   ·rw [yo3,List.map_append]
    exact yc
  ·rintro G ⟨ml,el,pl,sl,f1,O1,hR1,go1,hD1,nm1,ne1⟩
   walk_at "rd"
   refine ⟨D,sgB A0 d S 8,rfl,SqL.of hD1,?_⟩
   walk_at "rd"
   exact k ml el pl sl f1 O1 G hR1 go1
theorem j7.up {K:W.Frag} {a:Ads} {H:Hp} {p:Addr} {A:FA} {X:FX} {f:Nat->List Int->Option Slt} {O:Nat->Addr->Prop} {m m':Nat} {q dx pd s ds:Addr} {d:List Int} {x:Sn} (h:j7 K a H p A X f O m q dx pd s ds d x) (hm:m <= m'):j7 K a H p A X f O m' q dx pd s ds d x:=⟨h.ft.up hm,h.sk,h.ok,h.nO,h.nd⟩
theorem ys4 (A:FA) (d:List Int) (S:FX × Sn) (ml el pl:Addr) (sl:Nat->Addr) (n:Nat):yaq (A.re ml el pl sl) d S n=yaq A d S n:=by
 unfold yaq
 rw [ymz]
 rfl
theorem yw3 (A:FA) (d:List Int) (S:FX × Sn) (ml el pl:Addr) (sl:Nat->Addr) (n:Nat):sgB (A.re ml el pl sl) d S n=sgB A d S n:=by
 unfold sgB
 exact List.map_congr_left fun j _=>by rw [ys4]
def rsg (A:FA) (d:List Int) (S:FX × Sn) (k:Nat):Int:=(sgB A d (rst A d S (9 * k+1)) 8).sum
def rtx (A:FA) (d:List Int) (S:FX × Sn) (k:Nat):List Int:=(List.range k).map (rsg A d S)
theorem ynr (A:FA) (d:List Int) (S:FX × Sn) (k:Nat):rtx A d S (k+1)=rtx A d S k++[rsg A d S k]:=by
 unfold rtx
 rw [List.range_succ,List.map_append]
 rfl
theorem yly (A:FA) (d:List Int) (S:FX × Sn) (k:Nat):(rtx A d S k).length=k:=by
 unfold rtx
 rw [List.length_map,List.length_range]
section
variable {K:W.Frag} {a:Ads} {G:Hp} {p:Addr} {A:FA} {S:FX × Sn} {f:Nat->List Int->Option Slt} {O:Nat->Addr->Prop} {m n:Nat} {q dx pd s ds ml el pl:Addr} {sl:Nat->Addr} {d:List Int} {Q:VK} {E:XK}
theorem yzr (hR:j7 K a G p (A.re ml el pl sl) (rst A d S n).1 f O m q dx pd s ds d (rst A d S n).2) (hm:m+20 < 1000000) (nd0:0 <= S.1.nd) (hsg:S.1.sg.length+n <= 100000)
  (k:∀ (ml2 el2 pl2:Addr) (sl2:Nat->Addr) (f':Nat->List Int->Option Slt) (O':Nat->Addr->Prop) (H':Hp),j7 K a H' p (A.re ml2 el2 pl2 sl2) (rst A d S (n+1)).1 f' O' (m+6) q dx pd s ds d (rst A d S (n+1)).2->RGo p q s (A.re ml el pl sl) O G H' ml2 el2 O'->Q (.int (yaq A d S n)) H'):yh7 K a [.ref p,.ref q] G Q E :=
 ⟨p,A.re ml el pl sl,(rst A d S n).1,f,O,m,q,dx,pd,s,ds,d,(rst A d S n).2,rfl,hR,hm,yic A d S nd0 n,Nat.le_trans (yit A d S n) hsg,fun ml2 el2 pl2 sl2 f' O' H' h1 h2=>k ml2 el2 pl2 sl2 f' O' H' (j7.up h1 (Nat.add_le_add_left hR.ft.n6 m)) h2⟩
theorem yrm (hR:j7 K a G p (A.re ml el pl sl) (rst A d S n).1 f O m q dx pd s ds d (rst A d S n).2) (hm:m+80 < 1000000) (nd0:0 <= S.1.nd) (hsg:S.1.sg.length+n <= 90000)
  (k:∀ (ml2 el2 pl2:Addr) (sl2:Nat->Addr) (f':Nat->List Int->Option Slt) (O':Nat->Addr->Prop) (H':Hp),j7 K a H' p (A.re ml2 el2 pl2 sl2) (rst A d S (n+8)).1 f' O' (m+48) q dx pd s ds d (rst A d S (n+8)).2->RGo p q s (A.re ml el pl sl) O G H' ml2 el2 O'->Q (.int (sgB A d (rst A d S n) 8).sum) H'):yff K a [.ref p,.ref q] G Q E:=by
 refine ⟨p,A.re ml el pl sl,rst A d S n,f,O,m,q,dx,pd,s,ds,d,rfl,hR,hm,yic A d S nd0 n,Nat.le_trans (yit A d S n) hsg,fun ml2 el2 pl2 sl2 f' O' H' h1 h2=>?_⟩
 have h3:A.n <= 6:=hR.ft.n6
 have h1:=j7.up h1 (show m+8 * A.n <= m+48 by omega)
 rw [ymz,ygr] at h1
 rw [yw3]
 exact k ml2 el2 pl2 sl2 f' O' H' h1 h2
end
theorem yqc:ym ["foreteller","seeker","most","text"] ["foreteller","seeker","most"] (yj yuk):=⟨rfl,rfl,rfl,by decide +kernel,rfl,by decide +kernel,by decide +kernel⟩
def ylp (K:W.Frag) (a:Ads):Sp:=fun vs H Q E=>∃ (p:Addr) (A:FA) (S:FX × Sn) (f:Nat->List Int->Option Slt) (O:Nat->Addr->Prop) (m:Nat) (q dx pd s ds:Addr) (d:List Int) (mo:Nat),vs=[.ref p,.ref q,.int mo]/\j7 K a H p A S.1 f O m q dx pd s ds d S.2/\mo <= 1000/\m+54 * mo+200 < 1000000/\0 <= S.1.nd/\S.1.sg.length <= 10000 /\
 (∀ (N:Nat) (r ml el pl:Addr) (sl:Nat->Addr) (f':Nat->List Int->Option Slt) (O':Nat->Addr->Prop) (H':Hp),N <= mo->(∀ j,j < N->yaq A d S (9 * j)=1)->yaq A d S (9 * N)=0->H r=none->H' r=some (.lst ((rtx A d S N).map V.int))->j7 K a H' p (A.re ml el pl sl) (rst A d S (9 * N+1)).1 f' O' (m+54 * N+6) q dx pd s ds d (rst A d S (9 * N+1)).2->RGo p q s A O H H' ml el O'->Q (.ref r) H') /\
 ((∀ j,j <= mo->yaq A d S (9 * j)=1)->∀ (ml el:Addr) (O':Nat->Addr->Prop) (H':Hp),RGo p q s A O H H' ml el O'->E (.ref a.C_NP) none H')
theorem yz0 (T:Txt K mg a):wv P w K mg base (CXe P w) 9 a.f_q61 a.d_q61 ["foreteller","seeker","most"] (ylp K a):=by
 refine T.y_q61.F.okE yqc (fun vs H Q E h=>?_) (fun cdv A outer s H vs Q E hr h=>?_)
 ·obtain ⟨p,A,S,f,O,m,q,dx,pd,s',ds,d,mo,rfl,_⟩:=h
  rfl
 ·obtain ⟨p,A0,S,f,O,m,q,dx,pd,s',ds,d,mo,rfl,hR,hmo,hm,nd0,hsg,kQ,kE⟩:=h
  refine ⟨_,(yi (yy (i:=3) yqc.nd rfl (Or.inl rfl) (vk yd)) (yi (yai PassesOwn.leaving (yz uj (vg (yq9 T) (hr.mono (by decide)) rfl T.y_q59.m T.y_q59.F.kp T.y_q59.B .nil vv (yb (pv 0) (yb (pv 1) yd (ya rfl)) (ya rfl))) yg (vq _)) (yi (wj (yz uj (yt vn rfl T.z_len (by decide +kernel) (yb (pv 3) yd (ya rfl))) (pv 2) (vq _)) (yf (xg rfl T.m_NP T.r_NP (yb vo yd (ya rfl)))) vf) (yf (vz (yhc PySem.F.plainAttrs_list PySem.F.slot_list_append PySem.F.type_list_append xh (pv 3) (yb (vg (yz4 T) (hr.mono (by decide)) rfl T.y_q60.m T.y_q60.F.kp T.y_q60.B .nil vv (yb (pv 0) (yb (pv 1) yd (ya rfl)) (ya rfl))) yd (ya rfl))))))) (yf (yv (pv 3))))),?_⟩
  try dsimp only [wk]
  refine yn (σ':=[some _,some _,some _,none]) rfl ?_
  walk_at "rd"
  refine ⟨by walk_at "len",fun r hr0=>?_⟩
  with_reducible first | refine yh hr0 fun H1 S1 hr1=>?_ | refine yk hr0 fun H1 S1 hr1=>?_
  have npr:pd≠r:=ye hR.sk.dt hr0
  walk_at "rd"
  refine ⟨fun w σ' G=>∃ (N:Nat) (ml el pl:Addr) (sl:Nat->Addr) (f':Nat->List Int->Option Slt) (O':Nat->Addr->Prop),σ'=[some (.ref p),some (.ref q),some (.int mo),some (.ref r)]/\N <= mo/\(∀ j,j < N->yaq A0 d S (9 * j)=1)/\j7 K a G p (A0.re ml el pl sl) (rst A0 d S (9 * N)).1 f' O' (m+54 * N) q dx pd s' ds d (rst A0 d S (9 * N)).2/\RGo p q s' A0 O H G ml el O'/\G r=some (.lst ((rtx A0 d S N).map V.int))/\r≠ml/\r≠el/\w=mo - N,
   ⟨_,0,A0.ml,A0.el,A0.pl,A0.sl,f,O,rfl,Nat.zero_le _,fun j hj=>absurd hj (Nat.not_lt_zero j),hR.same S1,RGo.refl.same S1,hr1,(ye hR.ft.mx.l hr0).symm,(ye hR.ft.el hr0).symm,rfl⟩,?_⟩
  rintro w σ2 G ⟨N,ml,el,pl,sl,f1,O1,rfl,hN,hb1,hR1,go1,hrG,nm1,ne1,rfl⟩
  walk_at "rd"
  refine yzr hR1 (by omega) nd0 (by omega) fun ml2 el2 pl2 sl2 f2 O2 G2 hR2 go2=>?_
  have keepR:∀ {G G2:Hp} {ml el pl ml2 el2:Addr} {sl:Nat->Addr} {X:FX} {f1:Nat->List Int->Option Slt} {O1 O2:Nat->Addr->Prop} {m x} {xs:List V},j7 K a G p (A0.re ml el pl sl) X f1 O1 m q dx pd s' ds d x->RGo p q s' (A0.re ml el pl sl) O1 G G2 ml2 el2 O2->G r=some (.lst xs)->r≠ml->r≠el->G2 r=some (.lst xs)/\r≠ml2/\r≠el2:=fun hR1 go2 hD1 nm1 ne1=>by
   refine ⟨go2.fr _ _ hD1 (uh hD1 hR1.ft.me (by intro z; cases z)) (uh hD1 hR1.ft.mx.o (by intro z; cases z)) ne1 (uh hD1 hR1.sk.me (by intro z; cases z)) (uh hD1 hR1.sk.sp (by intro z; cases z)) (hR1.ft.B.nlst hD1),?_,?_⟩
   ·rcases go2.hm with z | z
    ·rw [z]; exact nm1
    ·exact ye hD1 z
   ·rcases go2.he with z | z
    ·rw [z]; exact ne1
    ·exact ye hD1 z
  obtain ⟨hr2,nm2,ne2⟩:=keepR hR1 go2 hrG nm1 ne1
  have go12:=go1.trans go2
  have hb01:=yqp A0 d S (9 * N)
  generalize hbv:yaq A0 d S (9 * N)=b at hb01
  walk_at "rd"
  refine zn (fun hb=>?_) (fun hb=>?_)
  ·subst hb
   have hb2:∀ j,j < N+1->yaq A0 d S (9 * j)=1:=fun j hj=>by
    by_cases z:j=N
    ·rw [z]; exact hbv
    ·exact hb1 j (by omega)
   refine yfl ?_
   walk_at "rd"
   refine yap (SqL.of hr2) ?_
   rw [List.length_map,yly]
   walk_at "rd"
   refine zn (fun hc=>?_) (fun hc=>?_)
   ·have hNm:N=mo:=by omega
    walk_at "rd"
    exact ⟨by walk_at "len",kE (fun j hj=>hb2 j (by omega)) ml2 el2 O2 G2 go12⟩
   ·walk_at "rd"
    refine yfo hr2 ?_
    walk_at "rd"
    refine yrm hR2 (by omega) nd0 (by omega) fun ml3 el3 pl3 sl3 f3 O3 G3 hR3 go3=>?_
    obtain ⟨hr3,nm3,ne3⟩:=keepR hR2 go3 hr2 nm2 ne2
    have go13:=go12.trans go3
    walk_at "rd"
    refine jo hr3 (wq (by rw [List.length_map,yly]; omega)) ?_
    walk_at "rd"
    refine ⟨_,?_,N+1,ml3,el3,pl3,sl3,f3,O3,rfl,by omega,hb2,?_,go13.app hr0,?_,nm3,ne3,rfl⟩
    ·omega
    ·exact j7.app hR3 hr3 (hR3.notN hr3 nm3 ne3) npr
    ·rw [yc,ynr,List.map_append]
     rfl
  ·have hb0:yaq A0 d S (9 * N)=0:=by omega
   walk_at "rd"
   exact kQ N r ml2 el2 pl2 sl2 f2 O2 G2 hN hb1 hb0 hr0 hr2 hR2 go12
theorem ysr (x:Sn) (c b:Int):(nar x c b).2.2 <= x.2.2+2:=by
 unfold nar ren
 (repeat' split) <;> (dsimp only; omega)
theorem yq7 (A:FA) (d:List Int) (S:FX × Sn):∀ n:Nat,(rst A d S n).2.2.2 <= S.2.2.2+2 * (n:Int)
 | 0=>by show S.2.2.2 <= S.2.2.2+2 * ((0:Nat):Int); omega
 | n+1=>by
  have h1:=yq7 A d S n
  have h2:=ysr (rst A d S n).2 (chX A (rst A d S n).1) (ybf d (rst A d S n).2 (chX A (rst A d S n).1))
  show (nar (rst A d S n).2 (chX A (rst A d S n).1) (ybf d (rst A d S n).2 (chX A (rst A d S n).1))).2.2 <= _
  omega
structure ROk (A:FA) (d:List Int) (S:FX × Sn) (N:Nat):Prop where
 b1:∀ j,j < N->yaq A d S (9 * j)=1
 b0:yaq A d S (9 * N)=0
 tk:d.take (tL (rst A d S (9 * N+1)).2).length=tL (rst A d S (9 * N+1)).2
theorem ROk.uniq {A:FA} {d:List Int} {S:FX × Sn} {N M:Nat} (h:ROk A d S N) (b1:∀ j,j < M->yaq A d S (9 * j)=1) (b0:yaq A d S (9 * M)=0):M=N:=by
 rcases Nat.lt_trichotomy M N with z | z | z
 ·have e:=h.b1 M z
  rw [b0] at e
  cases e
 ·exact z
 ·have e:=b1 N z
  rw [h.b0] at e
  cases e
def rTL (A:FA) (d:List Int) (S:FX × Sn) (N:Nat):Nat:=(tL (rst A d S (9 * N+1)).2).length
theorem RGo.fgo {p q s:Addr} {A:FA} {O O':Nat->Addr->Prop} {H0 H H':Hp} {ml el:Addr} (S:vi H0 H) (hq:H0 q=none) (hs:H0 s=none) (h:RGo p q s A O H H' ml el O'):FGo p A O H0 H' el O' :=
 ⟨h.he.imp id S.free,fun j c hj w=>(h.hO j c hj w).imp id S.free,fun c o e c1 c2 c3 no=>h.fr c o (S _ _ e) c1 c2 c3 (ye e hq) (ye e hs) no,fun c o e=>h.live c o (S _ _ e)⟩
theorem yij:ym ["foreteller","data","most","seeker","text","own"] ["foreteller","data","most"] (yj yuc):=⟨rfl,rfl,rfl,by decide +kernel,rfl,by decide +kernel,by decide +kernel⟩
def ykw (K:W.Frag) (a:Ads):Sp:=fun vs H Q E=>∃ (p:Addr) (A:FA) (X:FX) (f:Nat->List Int->Option Slt) (O:Nat->Addr->Prop) (m:Nat) (dt:Addr) (d:List Int) (mo:Nat),vs=[.ref p,.ref dt,.int mo]/\z0 K a H p A X f O m/\H dt=some (.lst (d.map V.int))/\dt≠A.el/\Byt d/\d.length <= 12000/\mo <= 1000/\m+54 * mo+200 < 1000000/\0 <= X.nd/\X.sg.length <= 10000 /\
 (∀ (N:Nat) (t r el:Addr) (O':Nat->Addr->Prop) (H':Hp),N <= mo->ROk A d (X,s0) N->H t=none->H r=none->H' t=some (.tup [.ref r,.int (rTL A d (X,s0) N)])->H' r=some (.lst ((rtx A d (X,s0) N).map V.int))->FGo p A O H H' el O'->Q (.ref t) H') /\
 ((∀ N,N <= mo->¬ ROk A d (X,s0) N)->∀ (el:Addr) (O':Nat->Addr->Prop) (H':Hp),FGo p A O H H' el O'->E (.ref a.C_NP) none H')
theorem ywo (T:Txt K mg a):wv P w K mg base (CXe P w) 10 a.f_q62 a.d_q62 ["foreteller","data","most"] (ykw K a):=by
 refine T.y_q62.F.okE yij (fun vs H Q E h=>?_) (fun cdv A outer s H vs Q E hr h=>?_)
 ·obtain ⟨p,A,X,f,O,m,dt,d,mo,rfl,_⟩:=h
  rfl
 ·obtain ⟨p,A0,X,f,O,m,dt,d,mo,rfl,hF,hdt,ndt,hby,hdl,hmo,hm,nd0,hsg,kQ,kE⟩:=h
  refine yu (yy (i:=3) yij.nd rfl (Or.inl rfl) (ydr T.k_Sk (yyu T) (hr.mono (by decide)) rfl T.m_Sk T.y_q50.B .nil v6 (yb (pv 1) yd (ya rfl)))) ?_
  refine yu (yy (i:=4) yij.nd rfl (Or.inl rfl) (ve (yz0 T) (hr.mono (by decide)) rfl T.y_q61.m T.y_q61.F.kp T.y_q61.B .nil v6 (yb (pv 0) (yb (pv 3) (yb (pv 2) yd (ya rfl)) (ya rfl)) (ya rfl)))) ?_
  refine yu (yy (i:=5) yij.nd rfl (Or.inl rfl) (xf (pv 3) T.cl_Sk T.y_q54.m (yzh T) (hr.mono (by decide)) T.y_q54.B .nil vv)) ?_
  refine yu (wj (yz (ym3 hr.units) (ybm yha (pv 1) yd1 (yd0 (yt vn rfl T.z_len (by decide +kernel) (yb (pv 5) yd (ya rfl))))) (pv 5) (vq _)) (yf (xg rfl T.m_NP T.r_NP (yb vo yd (ya rfl)))) vf) ?_
  refine ⟨_,(yf (yv (wb (yb (pv 4) (yb (yt vn rfl T.z_len (by decide +kernel) (yb (pv 5) yd (ya rfl))) yd (ya rfl)) (ya rfl))))),?_⟩
  try dsimp only [wk]
  refine yn (σ':=[some _,some _,some _,none,none,none]) rfl ?_
  walk_at "rd"
  intro q dq nq ndq neq
  have SQ:vi H (upd (upd H dq (.own q)) q (.ins a.C_Sk dq [])):=fun b o e=>by rw [yp (ye e nq),yp (ye e ndq)]; exact e
  refine ⟨q,dq,.ref dt,_,rfl,yc,.lst (SQ _ _ hdt),.inr ⟨d,yh4 (SQ _ _ hdt) hby hdl,fun pd ps ds H1 hpd0 hps0 hsk B1=>⟨rfl,?_⟩⟩⟩
  have S1:vi H H1:=fun b o e=>B1 b o (SQ b o e) (ye e nq)
  have hps:H ps=none:=SQ.free hps0
  have hpd:H pd=none:=SQ.free hpd0
  have nO:∀ {c:Addr},H c=none->∀ i,i < A0.n->¬ O i c:=fun hc i hi w=>by
   obtain ⟨o,ho,_⟩:=(hF.B.b i hi).own _ w
   rw [hc] at ho
   cases ho
  have hR:j7 K a H1 p A0 X f O m q dq pd ps ds d s0:=⟨hF.same S1,hsk,vct,fun i hi=>⟨nO nq i hi,nO hps i hi⟩,(ye hF.el hpd).symm⟩
  walk_at "rd"
  refine ⟨p,A0,(X,s0),f,O,m,q,dq,pd,ps,ds,d,mo,rfl,hR,hmo,hm,nd0,hsg,fun N r ml el pl sl f2 O2 H2 hN hb1 hb0 hr0 hr2 hR2 go2=>?_,fun hall ml el O2 H2 go2=>?_⟩
  ·have hsz:=yq7 A0 d (X,s0) (9 * N+1)
   have hs5:((X,s0):FX × Sn).2.2.2=5:=rfl
   rw [hs5] at hsz
   have go:=go2.fgo S1 nq hps
   have hq2:=hR2.sk.me
   have hdt2:H2 dt=some (.lst (d.map V.int)):=(go.kpa hF).lst hdt ndt
   walk_at "rd"
   refine ⟨q,dq,pd,ps,ds,d,_,rfl,hR2.sk,hR2.ok,by show Int.toNat _ <= 100000; omega,fun w H3 hw0 hw3 S3=>?_⟩
   walk_at "rd"
   refine yap (SqL.of hw3) ?_
   rw [List.length_map]
   walk_at "rd"
   refine yua (SqL.of (S3 _ _ hdt2)) fun u hu=>?_
   have ec:yhg (d.map V.int) none (some (((tL (rst A0 d (X,s0) (9 * N+1)).2).length:Nat):Int))=(d.take (tL (rst A0 d (X,s0) (9 * N+1)).2).length).map V.int:=by rw [List.map_take]; exact yh1 _
   rw [ec]
   with_reducible first | refine yh hu fun H4 S4 hu4=>?_ | refine yk hu fun H4 S4 hu4=>?_
   have go4:=go.same (S3.trans S4)
   walk_at "rd"
   refine vbr _ _ (SqL.of hu4) (SqL.of (S4 _ _ hw3)) ?_
   by_cases hc:d.take (tL (rst A0 d (X,s0) (9 * N+1)).2).length=tL (rst A0 d (X,s0) (9 * N+1)).2
   ·rw [decide_eq_true hc]
    walk_at "rd"
    refine yap (SqL.of (S4 _ _ hw3)) ?_
    rw [List.length_map]
    walk_at "rd"
    refine ⟨by walk_at "len",fun t ht0=>?_⟩
    refine kQ N t r el O2 _ hN ⟨hb1,hb0,hc⟩ (go4.free ht0) (S1.free hr0) yc (uq ht0 ((S3.trans S4) _ _ hr2)) (go4.same (vh ht0))
   ·rw [decide_eq_false hc]
    walk_at "rd"
    exact ⟨by walk_at "len",kE (fun M hM hok=>hc (by rw [hok.uniq hb1 hb0]; exact hok.tk)) el O2 _ go4⟩
  ·exact kE (fun M hM hok=>by have e:=hall M hM; rw [hok.b0] at e; cases e) el O2 H2 (go2.fgo S1 nq hps)
structure veh (H:Hp) (L dt:Addr) (lx:V) (n:Nat) (lk:Nat->Addr) (kd:Nat->Fin 3) (tp:Nat->Addr) (ps:Nat->List Int) (d:List Int) (mo N w:Nat) (lt:Nat->Addr) (tt:Nat->List Int):Prop where
 l:H L=some (.lst (xy lk n))
 n1:1 <= n
 n6:n <= 6
 r:ya2 H n lk kd tp ps
 dat:H dt=some (.lst (d.map V.int))
 by':Byt d
 dl:d.length <= 12000
 mo1:mo <= 1000
 lr:yph H lx N w lt tt
 w1:w <= 1000
 N1:N <= 1000
 b:6+6 * (N * (9 * w+1))+54 * mo+200 < 1000000
def rS (n:Nat) (kd:Nat->Fin 3) (ps:Nat->List Int) (pre:List Int):FX × Sn:=((FX0 n kd).run (fa0 n ps) pre,s0)
theorem yay (A:FA) (d:List Int) (S:FX × Sn):∀ k,rst A d S k=rst (fa0 A.n A.ps) d S k
 | 0=>rfl
 | k+1=>by
  show rnx A d (rst A d S k)=rnx (fa0 A.n A.ps) d (rst (fa0 A.n A.ps) d S k)
  rw [yay A d S k]
  rfl
theorem yae (A:FA) (d:List Int) (S:FX × Sn) (k:Nat):yaq A d S k=yaq (fa0 A.n A.ps) d S k:=by
 unfold yaq
 rw [yay]
 rfl
theorem ys5 (A:FA) (d:List Int) (S:FX × Sn) (k:Nat):rsg A d S k=rsg (fa0 A.n A.ps) d S k:=by
 unfold rsg sgB
 rw [yay]
 exact congrArg List.sum (List.map_congr_left fun j _=>by rw [yae])
theorem yr3 (A:FA) (d:List Int) (S:FX × Sn) (k:Nat):rtx A d S k=rtx (fa0 A.n A.ps) d S k:=by
 unfold rtx
 exact List.map_congr_left fun j _=>ys5 A d S j
theorem ytg (A:FA) (d:List Int) (S:FX × Sn) (k:Nat):rTL A d S k=rTL (fa0 A.n A.ps) d S k:=by
 unfold rTL
 rw [yay]
theorem ROk.fa0 {A:FA} {d:List Int} {S:FX × Sn} {N:Nat}:ROk A d S N ↔ ROk (fa0 A.n A.ps) d S N:=by
 constructor
 ·intro h
  exact ⟨fun j hj=>by rw [<- yae]; exact h.b1 j hj,by rw [<- yae]; exact h.b0,by rw [<- yay]; exact h.tk⟩
 ·intro h
  exact ⟨fun j hj=>by rw [yae]; exact h.b1 j hj,by rw [yae]; exact h.b0,by rw [yay]; exact h.tk⟩
theorem yzc {m:Nat} (h:m <= 1000):yrl (.int m)=true:=by
 show (decide ((0:Int) <= m) && decide ((m:Int) <= 1000))=true
 rw [decide_eq_true (by omega),decide_eq_true (by omega)]
 rfl
theorem yqz {mx bt:Nat->Int} {d:List Int} (hd:Byt d) {m:Nat} (hc:∀ j,j < m->Ch (mx j)) (hb:∀ j,j < m->bt j=0\/bt j=1) (i:InS d (snK mx bt m)):∀ k,k < m->bt k=ybf d (snK mx bt k) (mx k)/\InS d (snK mx bt k):=by
 induction m with
 | zero=>exact fun k hk=>absurd hk (Nat.not_lt_zero k)
 | succ m ih =>
  have hx:=(ycz (mx:=mx) (bt:=bt) m fun j hj=>hc j (by omega)).1
  obtain ⟨i1,i2⟩:=ytf hd hx (hc m (by omega)) (hb m (by omega)) i
  intro k hk
  by_cases z:k=m
  ·rw [z]
   exact ⟨i2,i1⟩
  ·exact ih (fun j hj=>hc j (by omega)) (fun j hj=>hb j (by omega)) i1 k (by omega)
theorem vaq {ts:List Int} {k:Nat} (h:k < (dec ts).length):w6 ts k=0\/w6 ts k=1:=by
 obtain ⟨h0,h1⟩:=yoa ts k h
 omega
theorem ypx (x:Sn):Byt (tL x):=fun b hb=>ytc _ _ b hb
theorem ydv {n:Nat} {kd:Nat->Fin 3} {ps:Nat->List Int} {pre ts d:List Int} (hd:Byt d) (hc:∀ j,j < (dec ts).length->Ch (ya3 n kd ps pre ts j)) (hi:InS d (snK (ya3 n kd ps pre ts) (w6 ts) (dec ts).length)):∀ k,k <= (dec ts).length->rst (fa0 n ps) d (rS n kd ps pre) k=(fX n kd ps pre ts k,snK (ya3 n kd ps pre ts) (w6 ts) k)
 | 0,_=>rfl
 | k+1,hk=>by
  have e2:=(yqz hd hc (fun j hj=>vaq hj) hi k (by omega)).1
  have hb:(dec ts)[k]?=some (w6 ts k):=by unfold w6; rw [List.getElem?_eq_getElem (by omega)]; rfl
  show rnx (fa0 n ps) d (rst (fa0 n ps) d (rS n kd ps pre) k)=_
  rw [ydv hd hc hi k (by omega)]
  show ((fX n kd ps pre ts k).see (fa0 n ps) (ybf d (snK (ya3 n kd ps pre ts) (w6 ts) k) (ya3 n kd ps pre ts k)),nar (snK (ya3 n kd ps pre ts) (w6 ts) k) (ya3 n kd ps pre ts k) (ybf d (snK (ya3 n kd ps pre ts) (w6 ts) k) (ya3 n kd ps pre ts k)))=(fX n kd ps pre ts (k+1),nar (snK (ya3 n kd ps pre ts) (w6 ts) k) (ya3 n kd ps pre ts k) (w6 ts k))
  rw [<- e2]
  have e3:fX n kd ps pre ts (k+1)=(fX n kd ps pre ts k).see (fa0 n ps) (w6 ts k):=by
   unfold fX
   rw [yag hb]
  rw [e3]
theorem ykk {n:Nat} {kd:Nat->Fin 3} {ps:Nat->List Int} {pre ts d:List Int} (hd:Byt d) (hc:∀ j,j < (dec ts).length->Ch (ya3 n kd ps pre ts j)) (hi:InS d (snK (ya3 n kd ps pre ts) (w6 ts) (dec ts).length)) (k:Nat) (hk:k < (dec ts).length):yaq (fa0 n ps) d (rS n kd ps pre) k=w6 ts k:=by
 have e2:=(yqz hd hc (fun j hj=>vaq hj) hi k hk).1
 unfold yaq
 rw [ydv hd hc hi k (by omega)]
 exact e2.symm
theorem yav (t:Int) (r:List Int) (k:Nat):w6 (t :: r) (k+9)=w6 r k:=rfl
theorem yi6 (t:Int) (r:List Int):∀ i,i < 8->w6 (t :: r) (1+i)=t / wB i % 2:=fun i hi=>by
 rcases i with _ | _ | _ | _ | _ | _ | _ | _ | i
 ·rfl
 ·rfl
 ·rfl
 ·rfl
 ·rfl
 ·rfl
 ·rfl
 ·rfl
 ·omega
theorem yb5:∀ (ts:List Int) (j:Nat) (hj:j < ts.length),w6 ts (9 * j)=1/\∀ i,i < 8->w6 ts (9 * j+1+i)=ts[j] / wB i % 2
 | [],j,hj=>absurd hj (Nat.not_lt_zero j)
 | t :: r,0,_=>⟨rfl,fun i hi=>by rw [show 9 * 0+1+i=1+i by omega]; exact yi6 t r i hi⟩
 | t :: r,j+1,hj=>by
  obtain ⟨h1,h2⟩:=yb5 r j (by simpa using hj)
  refine ⟨?_,fun i hi=>?_⟩
  ·rw [show 9 * (j+1)=9 * j+9 by omega,yav]
   exact h1
  ·rw [show 9 * (j+1)+1+i=9 * j+1+i+9 by omega,yav]
   exact h2 i hi
theorem yh0:∀ ts:List Int,w6 ts (9 * ts.length)=0
 | []=>rfl
 | t :: r=>by
  rw [show 9 * (t :: r).length=9 * r.length+9 by rw [List.length_cons]; omega,yav]
  exact yh0 r
theorem ynu (A:FA) (d:List Int) (S:FX × Sn) (c i:Nat):yaq A d (rst A d S c) i=yaq A d S (c+i):=by
 unfold yaq
 rw [ygr]
theorem ykc {n:Nat} {kd:Nat->Fin 3} {ps:Nat->List Int} {pre ts d:List Int} (hts:Sgs ts) (hd:Byt d) (hc:∀ j,j < (dec ts).length->Ch (ya3 n kd ps pre ts j)) (hl:(tL (snK (ya3 n kd ps pre ts) (w6 ts) (dec ts).length)).length <= d.length) (h:d.take (tL (snK (ya3 n kd ps pre ts) (w6 ts) (dec ts).length)).length=tL (snK (ya3 n kd ps pre ts) (w6 ts) (dec ts).length)) :
  ROk (fa0 n ps) d (rS n kd ps pre) ts.length/\rtx (fa0 n ps) d (rS n kd ps pre) ts.length=ts/\rTL (fa0 n ps) d (rS n kd ps pre) ts.length=(tL (snK (ya3 n kd ps pre ts) (w6 ts) (dec ts).length)).length:=by
 have o1:=(ycz (bt:=w6 ts) _ hc).1
 have hi:=ysc hd o1 hl h
 have hdl:=yaw ts
 have e1:rst (fa0 n ps) d (rS n kd ps pre) (9 * ts.length+1)=(fX n kd ps pre ts (dec ts).length,snK (ya3 n kd ps pre ts) (w6 ts) (dec ts).length):=by
  rw [<- hdl]
  exact ydv hd hc hi _ (Nat.le_refl _)
 have hb:=ykk hd hc hi
 refine ⟨⟨fun j hj=>?_,?_,?_⟩,?_,?_⟩
 ·rw [hb _ (by omega)]
  exact (yb5 ts j hj).1
 ·rw [hb _ (by omega)]
  exact yh0 ts
 ·rw [e1]
  exact h
 ·show (List.range ts.length).map (rsg (fa0 n ps) d (rS n kd ps pre))=ts
  refine List.ext_getElem (by rw [List.length_map,List.length_range]) fun j h1 h2=>?_
  rw [List.getElem_map,List.getElem_range]
  have hs:=hts ts[j] (List.getElem_mem h2)
  have ht:=(yb5 ts j h2).2
  have e:∀ i,i < 8->wB i * yaq (fa0 n ps) d (rst (fa0 n ps) d (rS n kd ps pre) (9 * j+1)) i=wB i * (ts[j] / wB i % 2):=fun i hi=>by
   rw [ynu,hb _ (by omega),ht i hi]
  have e2:sgB (fa0 n ps) d (rst (fa0 n ps) d (rS n kd ps pre) (9 * j+1)) 8=(List.range 8).map fun i=>wB i * (ts[j] / wB i % 2):=by
   unfold sgB
   exact List.map_congr_left fun i hi=>e i (List.mem_range.mp hi)
  unfold rsg
  rw [e2]
  exact vb0 hs.1 hs.2
 ·unfold rTL
  rw [e1]
theorem yoq {xs ys:List Int} (h1:Byt xs) (h2:Byt ys):Byt (xs++ys):=fun b hb=>by
 rcases List.mem_append.mp hb with h | h
 ·exact h1 b h
 ·exact h2 b h
def yni (n:Nat) (kd:Nat->Fin 3) (ps:Nat->List Int) (pre ts:List Int):List Int:=tL (snK (ya3 n kd ps pre ts) (w6 ts) (dec ts).length)
theorem yol {n:Nat} {kd:Nat->Fin 3} {ps:Nat->List Int} {pre ts:List Int} (n1:1 <= n) (n6:n <= 6) (hp:yj5 pre) (hz:ts.length <= 300):(yni n kd ps pre ts).length <= 5500:=by
 have hdl:=yaw ts
 obtain ⟨sk1,sk2⟩:=ycz (mx:=ya3 n kd ps pre ts) (bt:=w6 ts) (dec ts).length fun j _=>ylz n1 n6 hp j
 unfold yni
 rw [yrh]
 have:sz (snK (ya3 n kd ps pre ts) (w6 ts) (dec ts).length) <= 5500:=by show Int.toNat _ <= 5500; omega
 omega
theorem yns {n:Nat} {kd:Nat->Fin 3} {ps:Nat->List Int} {pre ts bs:List Int} (n1:1 <= n) (n6:n <= 6) (hp:yj5 pre) (hts:Sgs ts) (hb:Byt bs) :
  ROk (fa0 n ps) (yni n kd ps pre ts++bs) (rS n kd ps pre) ts.length/\rtx (fa0 n ps) (yni n kd ps pre ts++bs) (rS n kd ps pre) ts.length=ts/\rTL (fa0 n ps) (yni n kd ps pre ts++bs) (rS n kd ps pre) ts.length=(yni n kd ps pre ts).length :=
 ykc hts (yoq (ypx _) hb) (fun j _=>ylz n1 n6 hp j) (by rw [List.length_append]; exact Nat.le_add_right _ _) List.take_left
def ype (K:W.Frag) (a:Ads) (H:Hp) (vl vd vm vx:V) (E:XK) (F:Nat->(Nat->Fin 3)->(Nat->List Int)->List Int->Nat->Nat->(Nat->List Int)->Addr->Prop):Prop :=
 ∃ nd nm:String,xw K H vd (.type nd)/\xw K H vm (.type nm)/\((yj9 K H vl/\∀ H',vi H H'->E (.ref a.C_NL) none H') \/
  ∃ (L:Addr) (n:Nat) (lk:Nat->Addr) (kd:Nat->Fin 3) (tp:Nat->Addr) (ps:Nat->List Int),vl=.ref L/\H L=some (.lst (xy lk n))/\1 <= n/\n <= 6/\ya2 H n lk kd tp ps /\
  ((Bad K H vd nd 12000/\∀ H',vi H H'->E (.ref a.C_NY) none H') \/
    ∃ (dt:Addr) (d:List Int),vd=.ref dt/\H dt=some (.lst (d.map V.int))/\Byt d/\d.length <= 12000 /\
   ((yrl vm=false/\∀ H',vi H H'->E (.ref a.C_NoMost) none H') \/
     ∃ mo:Nat,vm=.int mo/\mo <= 1000 /\
    ((ypi K H vx/\∀ H',vi H H'->E (.ref a.C_NT) none H') \/
      ∃ (N w:Nat) (lt:Nat->Addr) (tt:Nat->List Int),yph H vx N w lt tt/\w <= 1000/\N <= 1000/\6+6 * (N * (9 * w+1))+54 * mo+200 < 1000000/\F n kd ps d mo N tt dt))))
theorem ype.mono {K:W.Frag} {a:Ads} {H:Hp} {vl vd vm vx:V} {E E':XK} {F F':Nat->(Nat->Fin 3)->(Nat->List Int)->List Int->Nat->Nat->(Nat->List Int)->Addr->Prop} (h:ype K a H vl vd vm vx E F) (fE:∀ C H',E (.ref C) none H'->E' (.ref C) none H') (f:∀ n kd ps d mo N tt dt,vd=.ref dt->H dt=some (.lst (d.map V.int))->F n kd ps d mo N tt dt->F' n kd ps d mo N tt dt):ype K a H vl vd vm vx E' F':=by
 obtain ⟨nd,nm,t1,t2,h | ⟨L,n,lk,kd,tp,ps,e1,e2,n1,n6,r,h | ⟨dt,d,e3,e4,b,l,h | ⟨mo,e5,m1,h | ⟨N,w,lt,tt,lr,w1,N1,bd,q⟩⟩⟩⟩⟩:=h
 ·exact ⟨nd,nm,t1,t2,.inl ⟨h.1,fun H' S=>fE _ _ (h.2 H' S)⟩⟩
 ·exact ⟨nd,nm,t1,t2,.inr ⟨L,n,lk,kd,tp,ps,e1,e2,n1,n6,r,.inl ⟨h.1,fun H' S=>fE _ _ (h.2 H' S)⟩⟩⟩
 ·exact ⟨nd,nm,t1,t2,.inr ⟨L,n,lk,kd,tp,ps,e1,e2,n1,n6,r,.inr ⟨dt,d,e3,e4,b,l,.inl ⟨h.1,fun H' S=>fE _ _ (h.2 H' S)⟩⟩⟩⟩
 ·exact ⟨nd,nm,t1,t2,.inr ⟨L,n,lk,kd,tp,ps,e1,e2,n1,n6,r,.inr ⟨dt,d,e3,e4,b,l,.inr ⟨mo,e5,m1,.inl ⟨h.1,fun H' S=>fE _ _ (h.2 H' S)⟩⟩⟩⟩⟩
 ·exact ⟨nd,nm,t1,t2,.inr ⟨L,n,lk,kd,tp,ps,e1,e2,n1,n6,r,.inr ⟨dt,d,e3,e4,b,l,.inr ⟨mo,e5,m1,.inr ⟨N,w,lt,tt,lr,w1,N1,bd,f _ _ _ _ _ _ _ _ e3 e4 q⟩⟩⟩⟩⟩
theorem ymn:ym ["looks","data","most","learned","foreteller","row"] ["looks","data","most","learned"] (yj yj2):=⟨rfl,rfl,rfl,by decide +kernel,rfl,by decide +kernel,by decide +kernel⟩
def fRf (a:Ads) (H:Hp) (Q:VK) (E:XK):Nat->(Nat->Fin 3)->(Nat->List Int)->List Int->Nat->Nat->(Nat->List Int)->Addr->Prop:=fun n kd ps d mo N tt _ =>
 (∀ (M:Nat) (t r:Addr) (H':Hp),M <= mo->ROk (fa0 n ps) d (rS n kd ps (za tt N)) M->H t=none->H r=none->H' t=some (.tup [.ref r,.int (rTL (fa0 n ps) d (rS n kd ps (za tt N)) M)])->H' r=some (.lst ((rtx (fa0 n ps) d (rS n kd ps (za tt N)) M).map V.int))->vi H H'->Q (.ref t) H') /\
 ((∀ M,M <= mo->¬ ROk (fa0 n ps) d (rS n kd ps (za tt N)) M)->∀ H',vi H H'->E (.ref a.C_NP) none H')
def yz1 (K:W.Frag) (a:Ads):Sp:=fun vs H Q E=>∃ (vl vd vm vx:V),vs=[vl,vd,vm,vx]/\ype K a H vl vd vm vx E (fRf a H Q E)
theorem yms (T:Txt K mg a):wv P w K mg base (CXe P w) 11 a.f_q63 a.d_q63 ["looks","data","most","learned"] (yz1 K a):=by
 refine T.F_q63.okE ymn (fun vs H Q E h=>?_) (fun cdv A outer s H vs Q E hr h=>?_)
 ·obtain ⟨vl,vd,vm,vx,rfl,_⟩:=h
  rfl
 ·obtain ⟨vl,vd,vm,vx,rfl,nd,nm,td,tm,h⟩:=h
  refine yu (yy (i:=4) ymn.nd rfl (Or.inl rfl) (ydr T.k_Ft (yqb T) (hr.mono (by decide)) rfl T.m_Ft T.y_q36.B .nil v6 (yb (pv 0) yd (ya rfl)))) ?_
  refine yu (yy (i:=5) ymn.nd rfl (Or.inl rfl) (ve (vau T) (hr.mono (by decide)) rfl T.y_q7.m T.y_q7.F.kp T.y_q7.B .nil v6 (yb (pv 1) yd (ya rfl)))) ?_
  refine yu (vz (ve (vbw T) (hr.mono (by decide)) rfl T.y_q8.m T.y_q8.F.kp T.y_q8.B .nil v6 (yb (pv 2) yd (ya rfl)))) ?_
  refine yu (vz (vg (ypt T) (hr.mono (by decide)) rfl T.y_q56.m T.y_q56.F.kp T.y_q56.B .nil vv (yb (pv 4) (yb (ve (yp8 T) (hr.mono (by decide)) rfl T.y_q55.m T.y_q55.F.kp T.y_q55.B .nil v6 (yb (pv 3) yd (ya rfl))) yd (ya rfl)) (ya rfl)))) ?_
  refine ⟨_,(yf (yv (ve (ywo T) (hr.mono (by decide)) rfl T.y_q62.m T.y_q62.F.kp T.y_q62.B .nil v6 (yb (pv 4) (yb (pv 5) (yb (pv 2) yd (ya rfl)) (ya rfl)) (ya rfl))))),?_⟩
  try dsimp only [wk]
  refine yn (σ':=[some _,some _,some _,some _,none,none]) rfl ?_
  walk_at "rd"
  intro p dp np ndp nep
  have S0:vi H (upd (upd H dp (.own p)) p (.ins a.C_Ft dp [])):=fun b o e=>by rw [yp (ye e np),yp (ye e ndp)]; exact e
  rcases h with ⟨hb,kE⟩ | ⟨L,n,lk,kd,tp,ps,rfl,hL,n1,n6,hRw,h⟩
  ·exact ⟨p,dp,vl,rfl,yc,.inl ⟨hb.same S0,fun H' S'=>kE H' (S0.trans S')⟩⟩
  refine ⟨p,dp,.ref L,rfl,yc,.inr ⟨L,n,lk,kd,tp,ps,rfl,S0 _ _ hL,n1,n6,hRw.same S0,fun A f O H1 N1 B1=>⟨rfl,?_⟩⟩⟩
  obtain ⟨hft,rfl,rfl,rfl,rfl,oO,oB,oM,oL⟩:=N1
  have S1:vi H H1:=fun b o e=>B1 b o (S0 b o e) (ye e np)
  have fresh:∀ {c:Addr},upd (upd H dp (.own p)) p (.ins a.C_Ft dp []) c=none->H c=none:=fun h=>S0.free h
  have hel0:H A.el=none:=fresh (oL A.el (.inr (.inl rfl)))
  walk_at "rd"
  rcases h with ⟨hb,kE⟩ | ⟨dt,d,rfl,hdt,hby,hdl,h⟩
  ·exact ⟨vd,nd,rfl,xv S1 td,.inl ⟨hb.same S1,fun H' S'=>kE H' (S1.trans S')⟩⟩
  refine ⟨.ref dt,_,rfl,.lst (S1 _ _ hdt),.inr ⟨d.map V.int,yh4 (S1 _ _ hdt) hby hdl,fun rw H2 hrw0 hrw2 S2=>?_⟩⟩
  have S12:=S1.trans S2
  have hft2:=hft.same S2
  have nrw:rw≠A.el:=(ye hft.el hrw0).symm
  walk_at "rd"
  rcases h with ⟨hb,kE⟩ | ⟨mo,rfl,hmo,h⟩
  ·exact ⟨vm,nm,rfl,xv S12 tm,fun z=>(by rw [hb] at z; cases z),fun _=>kE _ S12⟩
  have hmv:=yzc hmo
  refine ⟨.int mo,_,rfl,.int _,fun _=>?_,fun z=>(by rw [hmv] at z; cases z)⟩
  walk_at "rd"
  rcases h with ⟨hb,kE⟩ | ⟨N,w,lt,tt,hlr,hw1,hN1,hb1,kQ,kE⟩
  ·exact .inl ⟨vx,rfl,hb.same S12,fun H' S'=>kE H' (S12.trans S')⟩
  refine ycq (hlr.same S12) hw1 hN1 fun cl0 cx H3 h0 h3 hx S3=>?_
  walk_at "rd"
  refine ⟨p,A,FX0 A.n A.kd,f,O,6,cl0,N,w,cx,tt,rfl,hft2.same S3,rfl,rfl,h3,(ye hft2.el h0).symm,fun i hi=>⟨⟨(hx i hi).2,(hlr.2 i hi).s,(hlr.2 i hi).z⟩,(ye hft2.el (hx i hi).1).symm⟩,hw1,by omega,fun ml el pl sl f1 O1 m1 H4 hF4 hm4 go4 sg4 nd4=>?_⟩
  have go4:=FGo.ahead S3 go4
  have kp4:=go4.kpa hft2
  have hrw4:=kp4 _ _ hrw2 rfl nrw
  have eX:(FX0 A.n A.kd).run A (za tt N)=(FX0 A.n A.kd).run (fa0 A.n A.ps) (za tt N):=yd2 A _ _
  rw [eX] at hF4 sg4 nd4
  have eS:(((FX0 A.n A.kd).run (fa0 A.n A.ps) (za tt N),s0):FX × Sn)=rS A.n A.kd A.ps (za tt N):=rfl
  generalize (FX0 A.n A.kd).run (fa0 A.n A.ps) (za tt N)=XX at hF4 sg4 nd4 eS
  have fin:∀ {el2:Addr} {O2:Nat->Addr->Prop} {H5:Hp},FGo p (A.re ml el pl sl) O1 H4 H5 el2 O2->vi H H5:=fun go5 c o e=>by
   have go:=go4.trans go5
   refine go.fr c o (S12 _ _ e) (fun z=>?_) (fun z=>?_) (fun z=>?_) (fun i hi w'=>?_)
   ·rw [z,np] at e
    cases e
   ·rw [z,fresh oM] at e
    cases e
   ·rw [z,hel0] at e
    cases e
   ·rw [fresh (oO i c hi w')] at e
    cases e
  walk_at "rd"
  refine ⟨p,A.re ml el pl sl,XX,f1,O1,m1,rw,d,mo,rfl,hF4,hrw4.2,hrw4.1,hby,hdl,hmo,by omega,by rw [nd4]; decide,by rw [sg4]; exact Nat.zero_le _,fun M t r el2 O2 H5 hM hok ht0 hr0 ht hr go5=>?_,fun hno el2 O2 H5 go5=>?_⟩
  ·rw [ytg,eS] at ht
   rw [yr3,eS] at hr
   rw [ROk.fa0,eS] at hok
   exact kQ M t r H5 hM hok (S12.free (go4.free ht0)) (S12.free (go4.free hr0)) ht hr (fin go5)
  ·refine kE (fun M hM hok=>hno M hM ?_) H5 (fin go5)
   rw [ROk.fa0,eS]
   exact hok
theorem yq2:ym ["looks","data","most","learned","first"] ["looks","data","most","learned"] (yj yj0):=⟨rfl,rfl,rfl,by decide +kernel,rfl,by decide +kernel,by decide +kernel⟩
def fRd (a:Ads) (H:Hp) (Q:VK) (E:XK):Nat->(Nat->Fin 3)->(Nat->List Int)->List Int->Nat->Nat->(Nat->List Int)->Addr->Prop:=fun n kd ps d mo N tt _ =>
 (∀ (M:Nat) (r:Addr) (H':Hp),M <= mo->ROk (fa0 n ps) d (rS n kd ps (za tt N)) M->rTL (fa0 n ps) d (rS n kd ps (za tt N)) M=d.length->H r=none->H' r=some (.lst ((rtx (fa0 n ps) d (rS n kd ps (za tt N)) M).map V.int))->vi H H'->Q (.ref r) H') /\
 ((∀ M,M <= mo->ROk (fa0 n ps) d (rS n kd ps (za tt N)) M->rTL (fa0 n ps) d (rS n kd ps (za tt N)) M≠d.length)->∀ H',vi H H'->E (.ref a.C_NP) none H')
def yzo (K:W.Frag) (a:Ads):Sp:=fun vs H Q E=>∃ (vl vd vm vx:V),vs=[vl,vd,vm,vx]/\ype K a H vl vd vm vx E (fRd a H Q E)
theorem ROk.le {A:FA} {d:List Int} {S:FX × Sn} {N:Nat} (h:ROk A d S N):rTL A d S N <= d.length:=by
 have e:=congrArg List.length h.tk
 rw [List.length_take] at e
 unfold rTL
 omega
theorem yqr (T:Txt K mg a):wv P w K mg base (CXe P w) 12 a.f_q64 a.d_q64 ["looks","data","most","learned"] (yzo K a):=by
 refine T.F_q64.okE yq2 (fun vs H Q E h=>?_) (fun cdv A outer s H vs Q E hr h=>?_)
 ·obtain ⟨vl,vd,vm,vx,rfl,_⟩:=h
  rfl
 ·obtain ⟨vl,vd,vm,vx,rfl,h⟩:=h
  refine yu (yy (i:=4) yq2.nd rfl (Or.inl rfl) (ve (yms T) (hr.mono (by decide)) rfl T.m_q63 T.F_q63.kp T.B_q63 .nil v6 (yb (pv 0) (yb (pv 1) (yb (pv 2) (yb (pv 3) yd (ya rfl)) (ya rfl)) (ya rfl)) (ya rfl)))) ?_
  refine yu (wj (yz yfr (zd ycw (pv 4) yg (fun _ _=>rfl)) (yt vn rfl T.z_len (by decide +kernel) (yb (pv 1) yd (ya rfl))) (vq _)) (yf (xg rfl T.m_NP T.r_NP (yb vo yd (ya rfl)))) vf) ?_
  refine ⟨_,(yf (yv (zd ycw (pv 4) yg (fun _ _=>rfl)))),?_⟩
  try dsimp only [wk]
  refine yn (σ':=[some _,some _,some _,some _,none]) rfl ?_
  walk_at "rd"
  refine ⟨vl,vd,vm,vx,rfl,h.mono (fun _ _ z=>z) fun n kd ps d mo N tt dt ed hdt ⟨kQ,kE⟩=>⟨fun M t r H1 hM hok ht0 hr0 ht1 hr1 S1=>?_,fun hno H1 S1=>kE (fun M hM hok=>absurd hok (hno M hM)) H1 S1⟩⟩
  subst ed
  have hle:=hok.le
  have hun:∀ M',ROk (fa0 n ps) d (rS n kd ps (za tt N)) M'->M'=M:=fun M' h'=>hok.uniq h'.b1 h'.b0
  generalize hTL:rTL (fa0 n ps) d (rS n kd ps (za tt N)) M=tl at ht1 hle
  walk_at "rd"
  refine yj1 (SqT.of ht1) (uf (j:=1) rfl) ?_
  walk_at "rd"
  refine yap (SqL.of (S1 _ _ hdt)) ?_
  rw [List.length_map]
  walk_at "rd"
  refine zn (fun hc=>?_) (fun hc=>?_)
  ·walk_at "rd"
   exact ⟨by walk_at "len",kE (fun M' _ h'=>by rw [hun M' h',hTL]; omega) H1 S1⟩
  ·walk_at "rd"
   refine yj1 (SqT.of ht1) (uf (j:=0) rfl) ?_
   exact kQ M r H1 hM hok (by rw [hTL]; omega) hr0 hr1 S1
theorem ymq:ym ["_law_script","_law_k","_law_cell"] ["_law_script","_law_k"] (yj yux):=⟨rfl,rfl,rfl,by decide +kernel,rfl,by decide +kernel,by decide +kernel⟩
def yxw (K:W.Frag):Sp:=fun vs H Q _=>∃ (l:Addr) (ns:List Int) (j:Nat),vs=[.ref l,.int j]/\SqL K H l (ns.map V.int)/\j <= 1000/\∀ n:Int,0 <= n->n < 2147483647->Q (.int n) H
theorem ycd (T:Txt K mg a):wv P w K mg base CX0 1 a.f_q65 a.d_q65 ["_law_script","_law_k"] (yxw K):=by
 refine T.y_q65.F.ok ymq (fun vs H Q E h=>?_) (fun cdv A outer s H vs Q E hr h=>?_)
 ·obtain ⟨l,ns,j,rfl,_⟩:=h
  rfl
 ·obtain ⟨l,ns,j,rfl,hl,hj,k⟩:=h
  refine ⟨_,(yi (yy (i:=2) ymq.nd rfl (Or.inl rfl) yg) (yi (jx (wj (yz yfr (pv 1) (yt vn rfl T.z_len (by decide +kernel) (yb (pv 0) yd (ya rfl))) (vq _)) (yf (yy (i:=2) ymq.nd rfl (Or.inl rfl) (yo wn (zd xq (pv 0) (pv 1) (fun _ _=>rfl)) yg))) vf)) (yf (yv (yo wn (yo w8 (yo wu (yo wu (yo wu (yo w8 (pv 2) (pv 2)) (yo w8 yg (pv 2))) (yo w8 (yo w8 yg (pv 1)) (pv 1))) yg) yg) yg))))),?_⟩
  try dsimp only [wk]
  refine yn (σ':=[some _,some _,none]) rfl ?_
  walk_at "rd"
  refine ycj (fun σ' G=>H=G/\∃ c:Int,σ'=[some (.ref l),some (.int j),some (.int c)]/\0 <= c/\c < 2147483629) ?_ ?_
  ·walk_at "rd"
   refine yap hl ?_
   rw [List.length_map]
   walk_at "rd"
   refine zn (fun hb=>?_) (fun hb=>?_)
   ·have hj':j < ns.length:=by omega
    walk_at "rd"
    refine j6 (v:=V.int ns[j]) hl (uf (by rw [List.getElem?_map,List.getElem?_eq_getElem hj']; rfl)) ?_
    walk_at "rd"
    exact ⟨rfl,_,rfl,Int.emod_nonneg _ (by decide),Int.emod_lt_of_pos _ (by decide)⟩
   ·walk_at "rd"
    exact ⟨rfl,0,rfl,by decide,by decide⟩
  ·rintro σ' G ⟨rfl,c,rfl,c0,c1⟩
   have j0:(0:Int) <= (j:Int)/\(j:Int) <= 1000:=by omega
   have j2:(0:Int) <= 5 * (j:Int)/\5 * (j:Int) <= 5000:=by omega
   walk_at "rd"
   exact k _ (Int.emod_nonneg _ (by decide)) (Int.emod_lt_of_pos _ (by decide))
theorem ya5:ym ["_law_cell","_law_most","_law_many","_law_looks_here","_law_k","_law_marks","_law_places"] ["_law_cell","_law_most"] (yj yvq):=⟨rfl,rfl,rfl,by decide +kernel,rfl,by decide +kernel,by decide +kernel⟩
def yo2:Sp:=fun vs H Q _=>∃ (c:Int) (m:Nat),vs=[.int c,.int m]/\0 <= c/\c < 2147483647/\1 <= m/\m <= 6/\∀ r (n:Nat) (lk:Nat->Addr) (kd:Nat->Fin 3) (tp:Nat->Addr) (ps:Nat->List Int) H',H r=none->H' r=some (.lst (xy lk n))->1 <= n->n <= 6->ya2 H' n lk kd tp ps->vi H H'->Q (.ref r) H'
theorem yxi (T:Txt K mg a):wv P w K mg base CX0 1 a.f_q66 a.d_q66 ["_law_cell","_law_most"] yo2:=by
 refine T.y_q66.F.ok ya5 (fun vs H Q E h=>?_) (fun cdv A outer s H vs Q E hr h=>?_)
 ·obtain ⟨c,m,rfl,_⟩:=h
  rfl
 ·obtain ⟨c,m,rfl,c0,c1,m1,m6,k⟩:=h
  have mp:(0:Int) < (m:Int):=by omega
  refine ⟨_,(yi (yy (i:=2) ya5.nd rfl (Or.inl rfl) (yo wu yg (yo wn (pv 0) (pv 1)))) (yi (yy (i:=3) ya5.nd rfl (Or.inl rfl) (vk yd)) (yi (ya7 PassesOwn.never rfl (yb1 rfl T.z_range (yb (pv 2) yd (ya rfl))) (ub (i:=4) ya5.nd rfl (Or.inl rfl)) (yi (yy (i:=0) ya5.nd rfl (Or.inl rfl) (yo wn (yo wu (yo wu (yo w8 (pv 0) yg) (yo w8 yg (pv 4))) yg) yg)) (yi (yy (i:=5) ya5.nd rfl (Or.inr rfl) (yo yq1 (yo wn (yo wa (pv 0) yg) yg) (yo wn (yo wa (pv 0) yg) yg))) (yi (jx (wj (yz uj (yo wn (yo wa (pv 0) yg) yg) yg (vq _)) (yf (yy (i:=5) ya5.nd rfl (Or.inr rfl) (yo wn (yo wa (pv 0) yg) yg))) vf)) (yi (yoy (i:=6) (js:=[5]) (ys:=["_law_marks"]) ya5.nd rfl rfl rfl (ykd rfl T.z_range (yb yg (yb yg yd (ya rfl)) (ya rfl))) (fun C s2 H2 fp=>(yz uj (yo yq1 (yo ypl (pv 1) (yo ux (pv 0) yg)) yg) yg (vq _))) (fun C s2 H2 fp=>(pv 0)) rfl rfl (hyc:=(all_cons rfl vj)) (hrel:=(all_cons rfl vj))) (yf (vz (yhc PySem.F.plainAttrs_list PySem.F.slot_list_append PySem.F.type_list_append xh (pv 3) (yb (wb (yb (zd xq (vk (yb vo (yb vo (yb vo yd (ya rfl)) (ya rfl)) (ya rfl))) (yo wn (pv 0) yg) (fun _ _=>rfl)) (yb (zi yaa rfl T.z_tuple (by decide +kernel) (yb (ybm yha (pv 6) yd1 (yd0 yg)) yd (ya rfl))) yd (ya rfl)) (ya rfl))) yd (ya rfl)))))))))) (yf (yv (pv 3)))))),?_⟩
  try dsimp only [wk]
  refine yn (σ':=[some _,some _,none,none,none,none,none]) rfl ?_
  walk_at "rd"
  obtain ⟨n,hn,n1,n6⟩:∃ n:Nat,1+c % (m:Int)=(n:Int)/\1 <= n/\n <= 6:=by
   have h0:=Int.emod_nonneg c (show (m:Int)≠0 by omega)
   have h1:=Int.emod_lt_of_pos c mp
   exact ⟨(1+c % (m:Int)).toNat,by omega,by omega,by omega⟩
  rw [hn]
  refine ⟨by walk_at "len",fun L hL0=>?_⟩
  with_reducible first | refine yh hL0 fun H1 S1 hL1=>?_ | refine yk hL0 fun H1 S1 hL1=>?_
  walk_at "rd"
  refine ⟨_,rfl,by omega,by omega,yb7 (n:=n) (fun i σ2 G=>∃ (c:Int) (v1 v2 v3:Option V) (lk:Nat->Addr) (kd:Nat->Fin 3) (tp:Nat->Addr) (ps:Nat->List Int),σ2=[some (.int c),some (.int m),some (.int n),some (.ref L),v1,v2,v3]/\0 <= c/\c < 2147483647/\G L=some (.lst (xy lk i))/\ya2 G i lk kd tp ps/\vi H G)
   ⟨c,_,_,_,fun _=>0,fun _=>0,fun _=>0,fun _=>[],rfl,c0,c1,hL1,fun j hj=>absurd hj (Nat.not_lt_zero j),S1⟩ ?_ ?_⟩
  ·clear hn c0 c1 c
   rintro i σ2 G hi ⟨c,v1,v2,v3,lk,kd,tp,ps,rfl,c0,c1,gL,gR,SG⟩
   walk_at "rd"
   have d0:0 <= (c * 48271+11 * (0+(i:Int))+7) % 2147483647:=Int.emod_nonneg _ (by decide)
   have d1:(c * 48271+11 * (0+(i:Int))+7) % 2147483647 < 2147483647:=Int.emod_lt_of_pos _ (by decide)
   generalize (c * 48271+11 * (0+(i:Int))+7) % 2147483647=d at d0 d1 ⊢
   refine ycj (fun σ' G'=>G=G'/\∃ mk:Int,σ'=[some (.int d),some (.int m),some (.int n),some (.ref L),some (.int (0+(i:Int))),some (.int mk),v3]) ?_ ?_
   ·walk_at "rd"
    refine zn (fun hb=>?_) (fun hb=>?_)
    ·walk_at "rd"
     exact ⟨rfl,_,rfl⟩
    ·walk_at "rd"
     exact ⟨rfl,_,rfl⟩
   rintro σ' G' ⟨rfl,mk,rfl⟩
   walk_at "rd"
   refine ⟨1,9,rfl,⟨by decide,by decide,by decide,by decide⟩,fun D hD=>?_⟩
   refine yfy (lo:=1) (n:=8) (fun j G'=>∃ qs:List Int,G' D=some (.lst (qs.map V.int))/\(∀ p∈qs,1 <= p/\p <= (j:Int))/\qs.Pairwise (· < ·)/\qs.length <= j/\vi G G') ⟨[],yc,fun _ z=>(nomatch z),List.Pairwise.nil,Nat.le_refl _,vh hD⟩ (fun j G' hj z=>?_) (fun G3 z=>?_)
   ·obtain ⟨qs,h1,h2,h3,h4,S⟩:=z
    walk_at "rd"
    refine i_I (by omega) ?_
    walk_at "rd"
    refine zn (fun hb=>?_) (fun hb=>?_)
    ·walk_at "rd"
     refine xz (n:=8) h1 (wq (by rw [List.length_map]; omega)) hj ?_
     refine ⟨qs++[1+(j:Int)],by rw [yc,List.map_append]; rfl,fun p hp=>?_,?_,by rw [List.length_append]; show _+1 <= _; omega,fun b o e=>yq (ye e hD) (S b o e)⟩
     ·rcases List.mem_append.mp hp with h | h
      ·have:=h2 p h
       omega
      ·rw [List.mem_singleton.mp h]
       omega
     ·refine List.pairwise_append.mpr ⟨h3,List.pairwise_singleton _ _,fun x hx y hy=>?_⟩
      rw [List.mem_singleton.mp hy]
      have:=h2 x hx
      omega
    ·exact ylm (n:=8) hj ⟨qs,h1,fun p hp=>by have:=h2 p hp; omega,h3,by omega,S⟩
   obtain ⟨qs,hq3,hp,hw,_,S3⟩:=z
   have gL3:=S3 _ _ gL
   walk_at "rd"
   refine yfo gL3 ?_
   walk_at "rd"
   refine ⟨by walk_at "len",fun q2 hq2=>?_⟩
   with_reducible first | refine yh hq2 fun G4 T4 hq4=>?_ | refine yk hq2 fun G4 T4 hq4=>?_
   walk_at "rd"
   obtain ⟨kk,hk⟩:=yso d
   refine j6 (SqL.of hq4) hk ?_
   walk_at "rd"
   refine yua (SqL.of (T4 _ _ hq3)) fun u hu=>?_
   have ec:yhg (qs.map V.int) none (some 4)=(qs.take 4).map V.int:=by rw [List.map_take]; exact yh1 4
   rw [ec]
   with_reducible first | refine yh hu fun G5 T5 hu5=>?_ | refine yk hu fun G5 T5 hu5=>?_
   refine ⟨u,_,rfl,.inl ⟨SqL.of hu5,fun tp' htp=>?_⟩⟩
   with_reducible first | refine yh htp fun G6 T6 htp6=>?_ | refine yk htp fun G6 T6 htp6=>?_
   walk_at "rd"
   refine ⟨by walk_at "len",fun t ht=>?_⟩
   with_reducible first | refine yh ht fun G7 T7 ht7=>?_ | refine yk ht fun G7 T7 ht7=>?_
   have T37:=T4.trans (T5.trans (T6.trans T7))
   have gL7:=T37 _ _ gL3
   have S07:=S3.trans T37
   walk_at "rd"
   refine jo gL7 (wq (by rw [wc]; omega)) ?_
   have g7:LkG G7 (.ref t) kk tp' (qs.take 4):=⟨t,rfl,ht7,T7 _ _ htp6,yk9 (by rw [List.length_take]; omega) (fun p h=>hp p (List.mem_of_mem_take h)) hw.take⟩
   walk_at "rd"
   refine ⟨d,_,_,_,upN lk i t,upN kd i kk,upN tp i tp',upN ps i (qs.take 4),rfl,d0,d1,?_,fun j hj=>?_,fun b o e=>yq (ye e hL0) (S07 _ _ (SG b o e))⟩
   ·rw [yc,jd,xn]
    congr 3
    exact zf fun j hj=>(xj hj).symm
   ·by_cases z:j=i
    ·subst z
     rw [xn,xn,xn,xn]
     exact g7.upd gL7
    ·have hji:j < i:=by omega
     rw [xj hji,xj hji,xj hji,xj hji]
     exact ((gR j hji).same S07).upd gL7
  ·rintro σ2 G ⟨c,v1,v2,v3,lk,kd,tp,ps,rfl,c0,c1,gL,gR,SG⟩
   walk_at "rd"
   exact k L n lk kd tp ps G hL0 gL n1 n6 gR SG
theorem ymv:ym ["_law_cells","_law_size","_law_way","_law_signs","_law_k"] ["_law_cells","_law_size","_law_way"] (yj yuz):=⟨rfl,rfl,rfl,by decide +kernel,rfl,by decide +kernel,by decide +kernel⟩
def yo5 (K:W.Frag):Sp:=fun vs H Q _=>∃ (l:Addr) (ns:List Int) (z:Nat) (w:Int),vs=[.ref l,.int z,.int w]/\H l=some (.lst (ns.map V.int))/\ns.length <= 63/\z <= 50/\∀ r (ts:List Int) H',H r=none->H' r=some (.lst (ts.map V.int))->Sgs ts->ts.length=z->vi H H'->Q (.ref r) H'
theorem yyp (T:Txt K mg a):wv P w K mg base CX0 1 a.f_q67 a.d_q67 ["_law_cells","_law_size","_law_way"] (yo5 K):=by
 refine T.y_q67.F.ok ymv (fun vs H Q E h=>?_) (fun cdv A outer s H vs Q E hr h=>?_)
 ·obtain ⟨l,ns,z,w,rfl,_⟩:=h
  rfl
 ·obtain ⟨l,ns,z,w,rfl,hl,hlen,hz,k⟩:=h
  refine ⟨_,(yi (yy (i:=3) ymv.nd rfl (Or.inr rfl) (yo yip (vk (yb yg yd (ya rfl))) (pv 1))) (yi (wj (yz uj (pv 1) yg (vq _)) (yf (yv (pv 3))) vf) (yi (ya7 PassesOwn.never rfl (yb1 rfl T.z_range (yb (yt vn rfl T.z_len (by decide +kernel) (yb (pv 0) yd (ya rfl))) yd (ya rfl))) (ub (i:=4) ymv.nd rfl (Or.inl rfl)) (yf (yzn (yo wn (yo wu (yo wu (yo w8 (zd xq (pv 3) (yo wn (pv 4) (pv 1)) (fun _ _=>rfl)) yg) (yo wn (zd xq (pv 0) (pv 4) (fun _ _=>rfl)) yg)) (pv 4)) yg) (yx0 (pv 3) (yo wn (pv 4) (pv 1)) ynw)))) (yi (wj (yz uj (yo wn (pv 2) yg) yg (vq _)) (yf (yv (yo yip (vk (yb (zd xq (pv 3) yg (fun _ _=>rfl)) yd (ya rfl))) (pv 1)))) vf) (yi (wj (yz uj (yo wn (pv 2) yg) yg (vq _)) (yf (yv (jn (js:=[2,3]) (ys:=["_law_way","_law_signs"]) rfl (xc (pv 3)) (fun C s2 H2 fp=>(zd (r:=va4 K) xq (vk (yb (zd (r:=va4 K) xq (pv 2) yg (fun _ _=>rfl)) (yb (yo wn (yo wa (pv 1) yg) yg) yd (ya rfl)) (ya rfl))) (yo wn (pv 0) yg) (fun _ _=>rfl))) rfl rfl (hyc:=(all_cons rfl (all_cons rfl vj))) (hrel:=(all_cons rfl (all_cons rfl vj)))))) vf) (yi (wj (yz uj (yo wn (pv 2) yg) yg (vq _)) (yf (yv (j4 rfl (xc (pv 3)) (fun C s2 H2 fp=>(zd (r:=va4 K) xq (vk (yb yg (yb yg (yb yg (yb yg yd (ya rfl)) (ya rfl)) (ya rfl)) (ya rfl))) (yo wn (pv 0) yg) (fun _ _=>rfl)))))) vf) (yf (yv (pv 3))))))))),?_⟩
  try dsimp only [wk]
  refine yn (σ':=[some _,some _,some _,none,none]) rfl ?_
  walk_at "rd"
  refine ⟨by walk_at "len",fun u hu=>?_⟩
  with_reducible first | refine yh hu fun H1 S1 hu1=>?_ | refine yk hu fun H1 S1 hu1=>?_
  walk_at "rd"
  refine ⟨u,z,_,rfl,rfl,hu1,by omega,by omega,ur (by show 1 * (z:Int).toNat <= 16000000; omega),fun g hg0=>?_⟩
  rw [yb4]
  with_reducible first | refine yh hg0 fun H2 S2 hg2=>?_ | refine yk hg0 fun H2 S2 hg2=>?_
  have ez:((z:Nat):Int).toNat=z:=by omega
  rw [ez] at hg2
  have S12:=S1.trans S2
  have hg00:H g=none:=S1.free hg0
  walk_at "rd"
  refine zn (fun hb=>?_) (fun hb=>?_)
  ·walk_at "rd"
   refine k g _ _ hg00 hg2 (fun x hx=>?_) List.length_replicate S12
   rw [List.eq_of_mem_replicate hx]
   exact ⟨by decide,by decide⟩
  ·have zp:(0:Int) < (z:Int):=by omega
   walk_at "rd"
   refine yap (SqL.of (S12 _ _ hl)) ?_
   rw [List.length_map]
   walk_at "rd"
   refine ⟨_,rfl,by omega,by omega,yb7 (n:=ns.length) (fun i σ2 G=>∃ (v:Option V) (sg:List Int),σ2=[some (.ref l),some (.int z),some (.int w),some (.ref g),v]/\G g=some (.lst (sg.map V.int))/\Sgs sg/\sg.length=z/\vi H G) ⟨_,_,rfl,hg2,fun x hx=>by rw [List.eq_of_mem_replicate hx]; exact ⟨by decide,by decide⟩,List.length_replicate,S12⟩ ?_ ?_⟩
   ·rintro i σ2 G hi ⟨v,sg,rfl,hgG,hsg,hsl,SG⟩
    have e0:(0:Int)+(i:Int)=(i:Int):=Int.zero_add _
    rw [e0]
    obtain ⟨j,hj,hjz⟩:∃ j:Nat,(i:Int) % (z:Int)=(j:Int)/\j < z:=by
     have h0:=Int.emod_nonneg (i:Int) (show (z:Int)≠0 by omega)
     have h1:=Int.emod_lt_of_pos (i:Int) zp
     exact ⟨((i:Int) % (z:Int)).toNat,by omega,by omega⟩
    have hj':j < sg.length:=by omega
    have hat:atI (sg.map V.int) (j:Int)=some (V.int sg[j]):=uf (by rw [List.getElem?_map,List.getElem?_eq_getElem hj']; rfl)
    have hnt:atI (ns.map V.int) (i:Int)=some (V.int ns[i]):=uf (by rw [List.getElem?_map,List.getElem?_eq_getElem hi]; rfl)
    generalize sg[j]=sgj at hat
    generalize ns[i]=nsi at hnt
    walk_at "rd"
    rw [hj]
    refine j6 (SqL.of hgG) hat ?_
    walk_at "rd"
    refine j6 (SqL.of (SG _ _ hl)) hnt ?_
    walk_at "rd"
    rw [hj]
    have y0:0 <= (sgj * 31+nsi % 256+(i:Int)) % 256:=Int.emod_nonneg _ (by decide)
    have y1:(sgj * 31+nsi % 256+(i:Int)) % 256 < 256:=Int.emod_lt_of_pos _ (by decide)
    generalize (sgj * 31+nsi % 256+(i:Int)) % 256=y at y0 y1 ⊢
    refine ⟨g,_,_,j,rfl,rfl,hgG,?_,?_⟩
    ·unfold ixN
     rw [if_pos (by omega),if_pos (by rw [List.length_map]; omega)]
     rfl
    ·refine ⟨_,sg.set j y,rfl,by rw [yc,List.map_set],fun x hx=>?_,by rw [List.length_set]; exact hsl,fun b o e=>yq (ye e hg00) (SG b o e)⟩
     rcases List.mem_or_eq_of_mem_set hx with h | h
     ·exact hsg x h
     ·rw [h]
      omega
   ·rintro σ2 G ⟨v,sg,rfl,hgG,hsg,hsl,SG⟩
    walk_at "rd"
    refine zn (fun hb1=>?_) (fun hb1=>?_)
    ·have h0:0 < sg.length:=by omega
     have hat:atI (sg.map V.int) 0=some (V.int sg[0]):=uf (j:=0) (by rw [List.getElem?_map,List.getElem?_eq_getElem h0]; rfl)
     have hs0:=hsg sg[0] (List.getElem_mem h0)
     generalize sg[0]=s00 at hat hs0
     walk_at "rd"
     refine j6 (SqL.of hgG) hat ?_
     walk_at "rd"
     refine ⟨by walk_at "len",fun u2 hu2=>?_⟩
     with_reducible first | refine yh hu2 fun G1 T1 hu21=>?_ | refine yk hu2 fun G1 T1 hu21=>?_
     walk_at "rd"
     refine ⟨u2,z,_,rfl,rfl,hu21,by omega,by omega,ur (by show 1 * (z:Int).toNat <= 16000000; omega),fun r hr0=>?_⟩
     rw [yb4,ez]
     exact k r _ _ ((SG.trans T1).free hr0) yc (fun x hx=>by rw [List.eq_of_mem_replicate hx]; exact hs0) List.length_replicate (SG.trans (T1.trans (vh hr0)))
    ·walk_at "rd"
     refine zn (fun hb2=>?_) (fun hb2=>?_)
     ·walk_at "rd"
      refine ⟨g,rfl,⟨_,SqL.of hgG⟩,fun D hD=>?_⟩
      refine yau (K:=K) (xs:=sg.map V.int) (fun i G'=>∃ ts:List Int,G' D=some (.lst (ts.map V.int))/\Sgs ts/\ts.length=i/\vi G G') ⟨[],yc,fun _ z=>(nomatch z),rfl,vh hD⟩ (fun i G' _ ⟨_,_,_,_,S⟩=>SqL.of (S _ _ hgG)) (fun i y G' hy hi z'=>?_) (fun G' z'=>?_)
      ·obtain ⟨ts,h1,h2,h3,S⟩:=z'
       obtain ⟨x,rfl,_,_,hix⟩:=zx hy
       have h0:0 < sg.length:=by omega
       have hat:atI (sg.map V.int) 0=some (V.int sg[0]):=uf (j:=0) (by rw [List.getElem?_map,List.getElem?_eq_getElem h0]; rfl)
       have hs0:=hsg sg[0] (List.getElem_mem h0)
       generalize sg[0]=s00 at hat hs0
       walk_at "rd"
       refine j6 (SqL.of (S _ _ hgG)) hat ?_
       walk_at "rd"
       refine ⟨by walk_at "len",fun u2 hu2=>?_⟩
       have w0:0 <= w / 4 % 256/\w / 4 % 256 <= 255:=by omega
       generalize w / 4 % 256=ww at w0
       with_reducible first | refine yh hu2 fun G1 T1 hu21=>?_ | refine yk hu2 fun G1 T1 hu21=>?_
       walk_at "rd"
       obtain ⟨v,hv,ha⟩:=yb9 (xs:=[V.int s00,V.int ww]) (i:=x % 2) (Int.emod_nonneg _ (by decide)) (by show _ < (2:Int); exact Int.emod_lt_of_pos _ (by decide))
       refine j6 (SqL.of hu21) ha ?_
       obtain ⟨t,rfl,t0⟩:∃ t,v=V.int t/\0 <= t/\t <= 255:=by
        simp only [List.mem_cons,List.not_mem_nil,or_false] at hv
        rcases hv with rfl | rfl
        ·exact ⟨_,rfl,hs0⟩
        ·exact ⟨_,rfl,w0⟩
       refine xz (n:=(sg.map V.int).length) (T1 _ _ h1) (wq (by rw [List.length_map,h3]; omega)) hi ?_
       refine ⟨ts++[t],by rw [yc,List.map_append]; rfl,fun y hy=>?_,by rw [List.length_append,h3]; rfl,fun b o e=>yq (ye e hD) (T1 _ _ (S b o e))⟩
       rcases List.mem_append.mp hy with h | h
       ·exact h2 y h
       ·rw [List.mem_singleton.mp h]
        exact t0
      ·obtain ⟨ts,h1,h2,h3,S⟩:=z'
       rw [List.length_map] at h3
       exact k D ts G' (SG.free hD) h1 h2 (by omega) (SG.trans S)
     ·walk_at "rd"
      refine zn (fun hb3=>?_) (fun hb3=>?_)
      ·walk_at "rd"
       refine ⟨g,rfl,⟨_,SqL.of hgG⟩,fun D hD=>?_⟩
       refine uo (K:=K) (xs:=sg.map V.int) (fun i G'=>∃ ts:List Int,G' D=some (.lst (ts.map V.int))/\Sgs ts/\ts.length=i/\vi G G') ⟨[],yc,fun _ z=>(nomatch z),rfl,vh hD⟩ (fun i G' _ ⟨_,_,_,_,S⟩=>SqL.of (S _ _ hgG)) (fun i y G' hy hi z'=>?_) (fun G' z'=>?_)
       ·obtain ⟨ts,h1,h2,h3,S⟩:=z'
        obtain ⟨x,rfl,_,_,hix⟩:=zx hy
        walk_at "rd"
        refine ⟨by walk_at "len",fun u2 hu2=>?_⟩
        with_reducible first | refine yh hu2 fun G1 T1 hu21=>?_ | refine yk hu2 fun G1 T1 hu21=>?_
        walk_at "rd"
        obtain ⟨v,hv,ha⟩:=yb9 (xs:=[V.int 0,V.int 255,V.int 1,V.int 128]) (i:=x % 4) (Int.emod_nonneg _ (by decide)) (by show _ < (4:Int); exact Int.emod_lt_of_pos _ (by decide))
        refine j6 (SqL.of hu21) ha ?_
        obtain ⟨t,rfl,t0,t1⟩:∃ t,v=V.int t/\0 <= t/\t <= 255:=by
         simp only [List.mem_cons,List.not_mem_nil,or_false] at hv
         rcases hv with rfl | rfl | rfl | rfl <;> exact ⟨_,rfl,by decide,by decide⟩
        refine xz (n:=(sg.map V.int).length) (T1 _ _ h1) (wq (by rw [List.length_map,h3]; omega)) hi ?_
        refine ⟨ts++[t],by rw [yc,List.map_append]; rfl,fun y hy=>?_,by rw [List.length_append,h3]; rfl,fun b o e=>yq (ye e hD) (T1 _ _ (S b o e))⟩
        rcases List.mem_append.mp hy with h | h
        ·exact h2 y h
        ·rw [List.mem_singleton.mp h]
         exact ⟨t0,t1⟩
       ·obtain ⟨ts,h1,h2,h3,S⟩:=z'
        rw [List.length_map] at h3
        exact k D ts G' (SG.free hD) h1 h2 (by omega) (SG.trans S)
      ·walk_at "rd"
       exact k g sg G hg00 hgG hsg hsl SG
theorem ya1 {K:W.Frag} {G:Hp} {l:Addr} {v:V} (h:G l=some (.lst [v])) (b:LkB K G v false):yj9 K G (.ref l):=.inr ⟨l,[v],[false],rfl,h,by show 1 <= 1000; decide,yhh.one b,by simp⟩
theorem vaw {K:W.Frag} {G:Hp} {t:Addr} {y z:V} {n:String} (h:G t=some (.tup [y,z])) (ty:xw K G y (.type n)) (hk:yhe y=false):LkB K G (.ref t) false:=.inr ⟨t,_,rfl,h,.inr ⟨y,z,n,rfl,ty,.inl ⟨hk,rfl⟩⟩⟩
theorem yjz {K:W.Frag} {G:Hp} {t q:Addr} {x:Str} {xs:List V} (h:G t=some (.tup [.str x,.ref q])) (hk:yhe (.str x)=true) (hq:G q=some (.tup xs)) (hl:xs.length <= 100) (ht:∀ y∈xs,∃ n,xw K G y (.type n)) (hp:zu xs=false):LkB K G (.ref t) false:=.inr ⟨t,_,rfl,h,.inr ⟨_,_,"str",rfl,.str _,.inr ⟨hk,.inr ⟨q,xs,rfl,hq,Nat.le_trans hl (by decide),ht,hp.symm⟩⟩⟩⟩
theorem yhl {K:W.Frag} {G:Hp} {v:V} (b:LkB K G v true):∀ n,yhh K G (List.replicate n v) (List.replicate n true)
 | 0=>⟨rfl,fun i y b h=>by simp at h⟩
 | n+1=>by
  have h:=(yhh.one b).append (yhl b n)
  exact h
theorem yid:ym ["_law_cell","_law_some"] ["_law_cell"] (yj yt4):=⟨rfl,rfl,rfl,by decide +kernel,rfl,by decide +kernel,by decide +kernel⟩
def ysz (K:W.Frag):Sp:=fun vs H Q _=>∃ c:Int,vs=[.int c]/\0 <= c/\∀ v H',yj9 K H' v->vi H H'->Q v H'
theorem yzq (T:Txt K mg a):wv P w K mg base CX0 1 a.f_q68 a.d_q68 ["_law_cell"] (ysz K):=by
 refine T.y_q68.F.ok yid (fun vs H Q E h=>?_) (fun cdv A outer s H vs Q E hr h=>?_)
 ·obtain ⟨c,rfl,_⟩:=h
  rfl
 ·obtain ⟨c,rfl,c0,k⟩:=h
  refine jc (yfk (i:=1) yid.nd rfl (Or.inl rfl) (yfg (vy (w9 (vk yd)) (vy (w9 (wb (yb vo yd (ya rfl)))) (vy (w9 (yo yip (vk (yb (wb (yb vo (yb (wb yd) yd (ya rfl)) (ya rfl))) yd (ya rfl))) yg)) (vy (w9 (vk (yb (wb (yb vo (yb (wb yd) yd (ya rfl)) (ya rfl))) yd (ya rfl)))) (vy (w9 (vk (yb (wb (yb vo (yb (wb (yb yg yd (ya rfl))) yd (ya rfl)) (ya rfl))) yd (ya rfl)))) (vy (w9 (vk (yb (wb (yb vo (yb (wb (yb yg yd (ya rfl))) yd (ya rfl)) (ya rfl))) yd (ya rfl)))) (vy (w9 (vk (yb (wb (yb vo (yb (wb (yb yg (yb yg yd (ya rfl)) (ya rfl))) yd (ya rfl)) (ya rfl))) yd (ya rfl)))) yfm rfl) rfl) rfl) rfl) rfl) rfl) rfl)) (Or.inl rfl) rfl) ?_
  refine jc (yfk (i:=1) yid.nd rfl (Or.inl rfl) (yuj ycv (w9 (pv 1)) (yfg (vy (w9 (vk (yb (wb (yb vo (yb (wb (yb yg (yb yg yd (ya rfl)) (ya rfl))) yd (ya rfl)) (ya rfl))) yd (ya rfl)))) (vy (w9 (vk (yb (wb (yb vo (yb (vk (yb yg yd (ya rfl))) yd (ya rfl)) (ya rfl))) yd (ya rfl)))) (vy (w9 (vk (yb (vk (yb vo (yb (wb (yb yg yd (ya rfl))) yd (ya rfl)) (ya rfl))) yd (ya rfl)))) (vy (w9 (vk (yb (wb (yb vo (yb (wb (yb yg (yb yg (yb yg (yb yg (yb yg yd (ya rfl)) (ya rfl)) (ya rfl)) (ya rfl)) (ya rfl))) yd (ya rfl)) (ya rfl))) yd (ya rfl)))) (vy (w9 (vk (yb (wb (yb vo yd (ya rfl))) yd (ya rfl)))) (vy (w9 ya9) yfm rfl) rfl) rfl) rfl) rfl) rfl))) (Or.inl rfl) rfl) ?_
  refine jc (yfk (i:=1) yid.nd rfl (Or.inl rfl) (yuj ycv (w9 (pv 1)) (yfg (vy (w9 vo) (vy (w9 (wb (yb (wb (yb vo (yb (wb yd) yd (ya rfl)) (ya rfl))) yd (ya rfl)))) (vy (w9 (vk (yb (wb (yb vo (yb (wb (yb yd6 yd (ya rfl))) yd (ya rfl)) (ya rfl))) yd (ya rfl)))) (vy (w9 (vk (yb (wb (yb yg (yb (wb yd) yd (ya rfl)) (ya rfl))) yd (ya rfl)))) (vy (w9 yg) (vy (w9 (vk (yb (wb (yb vo (yb (wb yd) (yb yg yd (ya rfl)) (ya rfl)) (ya rfl))) yd (ya rfl)))) (vy (w9 (vk (yb ya9 yd (ya rfl)))) yfm rfl) rfl) rfl) rfl) rfl) rfl) rfl))) (Or.inl rfl) rfl) ?_
  refine ⟨_,(yf (yv (zd xq (pv 1) (yo wn (pv 0) yg) (fun _ _=>rfl)))),?_⟩
  try dsimp only [wk]
  refine yn (σ':=[some _,none]) rfl ?_
  walk_at "rd"
  refine ⟨by walk_at "len",fun x1 xg1=>?_⟩
  with_reducible first | refine yh xg1 fun xH1 xS1 xe1=>?_ | refine yk xg1 fun xH1 xS1 xe1=>?_
  walk_at "rd"
  refine ⟨by walk_at "len",fun x2 xg2=>?_⟩
  with_reducible first | refine yh xg2 fun xH2 xS2 xe2=>?_ | refine yk xg2 fun xH2 xS2 xe2=>?_
  walk_at "rd"
  refine ⟨by walk_at "len",fun x3 xg3=>?_⟩
  with_reducible first | refine yh xg3 fun xH3 xS3 xe3=>?_ | refine yk xg3 fun xH3 xS3 xe3=>?_
  walk_at "rd"
  refine ⟨by walk_at "len",fun x4 xg4=>?_⟩
  with_reducible first | refine yh xg4 fun xH4 xS4 xe4=>?_ | refine yk xg4 fun xH4 xS4 xe4=>?_
  walk_at "rd"
  refine ⟨by walk_at "len",fun x5 xg5=>?_⟩
  with_reducible first | refine yh xg5 fun xH5 xS5 xe5=>?_ | refine yk xg5 fun xH5 xS5 xe5=>?_
  have xT4:=xS5
  have xe4:=xT4 _ _ xe4
  have xT3:=xS4.trans xT4
  have xe3:=xT3 _ _ xe3
  have xT2:=xS3.trans xT3
  have xe2:=xT2 _ _ xe2
  have xT1:=xS2.trans xT2
  have xe1:=xT1 _ _ xe1
  have xT0:=xS1.trans xT1
  walk_at "rd"
  refine ⟨x5,7,_,rfl,rfl,xe5,by decide,by decide,ur (by show 1 * 7 <= 16000000; decide),fun r gr=>?_⟩
  have er:(List.replicate (7:Int).toNat [V.ref x4]).flatten=List.replicate 7 (V.ref x4):=rfl
  rw [er]
  with_reducible first | refine yh gr fun J1 JS je=>?_ | refine yk gr fun J1 JS je=>?_
  walk_at "rd"
  refine ⟨by walk_at "len",fun y1 yg1=>?_⟩
  with_reducible first | refine yh yg1 fun yH1 yS1 ye1=>?_ | refine yk yg1 fun yH1 yS1 ye1=>?_
  walk_at "rd"
  refine ⟨by walk_at "len",fun y2 yg2=>?_⟩
  with_reducible first | refine yh yg2 fun yH2 yS2 ye2=>?_ | refine yk yg2 fun yH2 yS2 ye2=>?_
  walk_at "rd"
  refine ⟨by walk_at "len",fun y3 yg3=>?_⟩
  with_reducible first | refine yh yg3 fun yH3 yS3 ye3=>?_ | refine yk yg3 fun yH3 yS3 ye3=>?_
  walk_at "rd"
  refine ⟨by walk_at "len",fun y4 yg4=>?_⟩
  with_reducible first | refine yh yg4 fun yH4 yS4 ye4=>?_ | refine yk yg4 fun yH4 yS4 ye4=>?_
  walk_at "rd"
  refine ⟨by walk_at "len",fun y5 yg5=>?_⟩
  with_reducible first | refine yh yg5 fun yH5 yS5 ye5=>?_ | refine yk yg5 fun yH5 yS5 ye5=>?_
  walk_at "rd"
  refine ⟨by walk_at "len",fun y6 yg6=>?_⟩
  with_reducible first | refine yh yg6 fun yH6 yS6 ye6=>?_ | refine yk yg6 fun yH6 yS6 ye6=>?_
  walk_at "rd"
  refine ⟨by walk_at "len",fun y7 yg7=>?_⟩
  with_reducible first | refine yh yg7 fun yH7 yS7 ye7=>?_ | refine yk yg7 fun yH7 yS7 ye7=>?_
  walk_at "rd"
  refine ⟨by walk_at "len",fun y8 yg8=>?_⟩
  with_reducible first | refine yh yg8 fun yH8 yS8 ye8=>?_ | refine yk yg8 fun yH8 yS8 ye8=>?_
  walk_at "rd"
  refine ⟨by walk_at "len",fun y9 yg9=>?_⟩
  with_reducible first | refine yh yg9 fun yH9 yS9 ye9=>?_ | refine yk yg9 fun yH9 yS9 ye9=>?_
  walk_at "rd"
  refine ⟨by walk_at "len",fun y10 yg10=>?_⟩
  with_reducible first | refine yh yg10 fun yH10 yS10 ye10=>?_ | refine yk yg10 fun yH10 yS10 ye10=>?_
  walk_at "rd"
  refine ⟨by walk_at "len",fun y11 yg11=>?_⟩
  with_reducible first | refine yh yg11 fun yH11 yS11 ye11=>?_ | refine yk yg11 fun yH11 yS11 ye11=>?_
  walk_at "rd"
  refine ⟨by walk_at "len",fun y12 yg12=>?_⟩
  with_reducible first | refine yh yg12 fun yH12 yS12 ye12=>?_ | refine yk yg12 fun yH12 yS12 ye12=>?_
  walk_at "rd"
  refine ⟨by walk_at "len",fun y13 yg13=>?_⟩
  with_reducible first | refine yh yg13 fun yH13 yS13 ye13=>?_ | refine yk yg13 fun yH13 yS13 ye13=>?_
  have yT12:=yS13
  have ye12:=yT12 _ _ ye12
  have yT11:=yS12.trans yT12
  have ye11:=yT11 _ _ ye11
  have yT10:=yS11.trans yT11
  have ye10:=yT10 _ _ ye10
  have yT9:=yS10.trans yT10
  have ye9:=yT9 _ _ ye9
  have yT8:=yS9.trans yT9
  have ye8:=yT8 _ _ ye8
  have yT7:=yS8.trans yT8
  have ye7:=yT7 _ _ ye7
  have yT6:=yS7.trans yT7
  have ye6:=yT6 _ _ ye6
  have yT5:=yS6.trans yT6
  have ye5:=yT5 _ _ ye5
  have yT4:=yS5.trans yT5
  have ye4:=yT4 _ _ ye4
  have yT3:=yS4.trans yT4
  have ye3:=yT3 _ _ ye3
  have yT2:=yS3.trans yT3
  have ye2:=yT2 _ _ ye2
  have yT1:=yS2.trans yT2
  have ye1:=yT1 _ _ ye1
  have yT0:=yS1.trans yT1
  walk_at "rd"
  walk_at "rd"
  refine ⟨by walk_at "len",fun z1 zg1=>?_⟩
  with_reducible first | refine yh zg1 fun zH1 zS1 ze1=>?_ | refine yk zg1 fun zH1 zS1 ze1=>?_
  walk_at "rd"
  refine ⟨by walk_at "len",fun z2 zg2=>?_⟩
  with_reducible first | refine yh zg2 fun zH2 zS2 ze2=>?_ | refine yk zg2 fun zH2 zS2 ze2=>?_
  walk_at "rd"
  refine ⟨by walk_at "len",fun z3 zg3=>?_⟩
  with_reducible first | refine yh zg3 fun zH3 zS3 ze3=>?_ | refine yk zg3 fun zH3 zS3 ze3=>?_
  walk_at "rd"
  refine ⟨by walk_at "len",fun z4 zg4=>?_⟩
  with_reducible first | refine yh zg4 fun zH4 zS4 ze4=>?_ | refine yk zg4 fun zH4 zS4 ze4=>?_
  walk_at "rd"
  refine ⟨by walk_at "len",fun z5 zg5=>?_⟩
  with_reducible first | refine yh zg5 fun zH5 zS5 ze5=>?_ | refine yk zg5 fun zH5 zS5 ze5=>?_
  walk_at "rd"
  refine ⟨by walk_at "len",fun z6 zg6=>?_⟩
  with_reducible first | refine yh zg6 fun zH6 zS6 ze6=>?_ | refine yk zg6 fun zH6 zS6 ze6=>?_
  walk_at "rd"
  refine ⟨by walk_at "len",fun z7 zg7=>?_⟩
  with_reducible first | refine yh zg7 fun zH7 zS7 ze7=>?_ | refine yk zg7 fun zH7 zS7 ze7=>?_
  walk_at "rd"
  refine ⟨by walk_at "len",fun z8 zg8=>?_⟩
  with_reducible first | refine yh zg8 fun zH8 zS8 ze8=>?_ | refine yk zg8 fun zH8 zS8 ze8=>?_
  walk_at "rd"
  refine ⟨by walk_at "len",fun z9 zg9=>?_⟩
  with_reducible first | refine yh zg9 fun zH9 zS9 ze9=>?_ | refine yk zg9 fun zH9 zS9 ze9=>?_
  walk_at "rd"
  refine ⟨by walk_at "len",fun z10 zg10=>?_⟩
  with_reducible first | refine yh zg10 fun zH10 zS10 ze10=>?_ | refine yk zg10 fun zH10 zS10 ze10=>?_
  walk_at "rd"
  refine ⟨by walk_at "len",fun z11 zg11=>?_⟩
  with_reducible first | refine yh zg11 fun zH11 zS11 ze11=>?_ | refine yk zg11 fun zH11 zS11 ze11=>?_
  walk_at "rd"
  refine ⟨by walk_at "len",fun z12 zg12=>?_⟩
  with_reducible first | refine yh zg12 fun zH12 zS12 ze12=>?_ | refine yk zg12 fun zH12 zS12 ze12=>?_
  walk_at "rd"
  refine ⟨by walk_at "len",fun z13 zg13=>?_⟩
  with_reducible first | refine yh zg13 fun zH13 zS13 ze13=>?_ | refine yk zg13 fun zH13 zS13 ze13=>?_
  walk_at "rd"
  refine ⟨by walk_at "len",fun z14 zg14=>?_⟩
  with_reducible first | refine yh zg14 fun zH14 zS14 ze14=>?_ | refine yk zg14 fun zH14 zS14 ze14=>?_
  walk_at "rd"
  refine ⟨by walk_at "len",fun z15 zg15=>?_⟩
  with_reducible first | refine yh zg15 fun zH15 zS15 ze15=>?_ | refine yk zg15 fun zH15 zS15 ze15=>?_
  have zT14:=zS15
  have ze14:=zT14 _ _ ze14
  have zT13:=zS14.trans zT14
  have ze13:=zT13 _ _ ze13
  have zT12:=zS13.trans zT13
  have ze12:=zT12 _ _ ze12
  have zT11:=zS12.trans zT12
  have ze11:=zT11 _ _ ze11
  have zT10:=zS11.trans zT11
  have ze10:=zT10 _ _ ze10
  have zT9:=zS10.trans zT10
  have ze9:=zT9 _ _ ze9
  have zT8:=zS9.trans zT9
  have ze8:=zT8 _ _ ze8
  have zT7:=zS8.trans zT8
  have ze7:=zT7 _ _ ze7
  have zT6:=zS7.trans zT7
  have ze6:=zT6 _ _ ze6
  have zT5:=zS6.trans zT6
  have ze5:=zT5 _ _ ze5
  have zT4:=zS5.trans zT5
  have ze4:=zT4 _ _ ze4
  have zT3:=zS4.trans zT4
  have ze3:=zT3 _ _ ze3
  have zT2:=zS3.trans zT3
  have ze2:=zT2 _ _ ze2
  have zT1:=zS2.trans zT2
  have ze1:=zT1 _ _ ze1
  have zT0:=zS1.trans zT1
  walk_at "rd"
  refine ⟨y13,z15,_,_,rfl,rfl,zT0 _ _ ye13,ze15,ur (by show 13 <= 16000000; decide),fun r2 gr2=>?_⟩
  with_reducible first | refine yh gr2 fun J2 JS2 je2=>?_ | refine yk gr2 fun J2 JS2 je2=>?_
  walk_at "rd"
  refine ⟨by walk_at "len",fun u1 ug1=>?_⟩
  with_reducible first | refine yh ug1 fun uH1 uS1 ue1=>?_ | refine yk ug1 fun uH1 uS1 ue1=>?_
  walk_at "rd"
  refine ⟨by walk_at "len",fun u2 ug2=>?_⟩
  with_reducible first | refine yh ug2 fun uH2 uS2 ue2=>?_ | refine yk ug2 fun uH2 uS2 ue2=>?_
  walk_at "rd"
  refine ⟨by walk_at "len",fun u3 ug3=>?_⟩
  with_reducible first | refine yh ug3 fun uH3 uS3 ue3=>?_ | refine yk ug3 fun uH3 uS3 ue3=>?_
  walk_at "rd"
  refine ⟨by walk_at "len",fun u4 ug4=>?_⟩
  with_reducible first | refine yh ug4 fun uH4 uS4 ue4=>?_ | refine yk ug4 fun uH4 uS4 ue4=>?_
  walk_at "rd"
  refine ⟨by walk_at "len",fun u5 ug5=>?_⟩
  with_reducible first | refine yh ug5 fun uH5 uS5 ue5=>?_ | refine yk ug5 fun uH5 uS5 ue5=>?_
  walk_at "rd"
  refine ⟨by walk_at "len",fun u6 ug6=>?_⟩
  with_reducible first | refine yh ug6 fun uH6 uS6 ue6=>?_ | refine yk ug6 fun uH6 uS6 ue6=>?_
  walk_at "rd"
  refine ⟨by walk_at "len",fun u7 ug7=>?_⟩
  with_reducible first | refine yh ug7 fun uH7 uS7 ue7=>?_ | refine yk ug7 fun uH7 uS7 ue7=>?_
  walk_at "rd"
  refine ⟨by walk_at "len",fun u8 ug8=>?_⟩
  with_reducible first | refine yh ug8 fun uH8 uS8 ue8=>?_ | refine yk ug8 fun uH8 uS8 ue8=>?_
  walk_at "rd"
  refine ⟨by walk_at "len",fun u9 ug9=>?_⟩
  with_reducible first | refine yh ug9 fun uH9 uS9 ue9=>?_ | refine yk ug9 fun uH9 uS9 ue9=>?_
  walk_at "rd"
  refine ⟨by walk_at "len",fun u10 ug10=>?_⟩
  with_reducible first | refine yh ug10 fun uH10 uS10 ue10=>?_ | refine yk ug10 fun uH10 uS10 ue10=>?_
  walk_at "rd"
  refine ⟨by walk_at "len",fun u11 ug11=>?_⟩
  with_reducible first | refine yh ug11 fun uH11 uS11 ue11=>?_ | refine yk ug11 fun uH11 uS11 ue11=>?_
  walk_at "rd"
  refine ⟨by walk_at "len",fun u12 ug12=>?_⟩
  with_reducible first | refine yh ug12 fun uH12 uS12 ue12=>?_ | refine yk ug12 fun uH12 uS12 ue12=>?_
  walk_at "rd"
  refine ⟨by walk_at "len",fun u13 ug13=>?_⟩
  with_reducible first | refine yh ug13 fun uH13 uS13 ue13=>?_ | refine yk ug13 fun uH13 uS13 ue13=>?_
  walk_at "rd"
  refine ⟨by walk_at "len",fun u14 ug14=>?_⟩
  with_reducible first | refine yh ug14 fun uH14 uS14 ue14=>?_ | refine yk ug14 fun uH14 uS14 ue14=>?_
  have uT13:=uS14
  have ue13:=uT13 _ _ ue13
  have uT12:=uS13.trans uT13
  have ue12:=uT12 _ _ ue12
  have uT11:=uS12.trans uT12
  have ue11:=uT11 _ _ ue11
  have uT10:=uS11.trans uT11
  have ue10:=uT10 _ _ ue10
  have uT9:=uS10.trans uT10
  have ue9:=uT9 _ _ ue9
  have uT8:=uS9.trans uT9
  have ue8:=uT8 _ _ ue8
  have uT7:=uS8.trans uT8
  have ue7:=uT7 _ _ ue7
  have uT6:=uS7.trans uT7
  have ue6:=uT6 _ _ ue6
  have uT5:=uS6.trans uT6
  have ue5:=uT5 _ _ ue5
  have uT4:=uS5.trans uT5
  have ue4:=uT4 _ _ ue4
  have uT3:=uS4.trans uT4
  have ue3:=uT3 _ _ ue3
  have uT2:=uS3.trans uT3
  have ue2:=uT2 _ _ ue2
  have uT1:=uS2.trans uT2
  have ue1:=uT1 _ _ ue1
  have uT0:=uS1.trans uT1
  walk_at "rd"
  refine ⟨r2,u14,_,_,rfl,rfl,uT0 _ _ je2,ue14,ur (by show 20 <= 16000000; decide),fun r3 gr3=>?_⟩
  with_reducible first | refine yh gr3 fun J3 JS3 je3=>?_ | refine yk gr3 fun J3 JS3 je3=>?_
  walk_at "rd"
  have U:=JS3
  have Z:=JS2.trans (uT0.trans U)
  have Y:=zT0.trans Z
  have X:=JS.trans (yT0.trans Y)
  have S:=xT0.trans X
  obtain ⟨v,hv,hav⟩:=yb9 (xs:=[V.ref x1,V.ref x2,V.ref r,V.ref y3,V.ref y6,V.ref y9,V.ref y12]++[V.ref z3,V.ref z6,V.ref z9,V.ref z12,V.ref z14,V.non]++[V.str "even",V.ref u3,V.ref u6,V.ref u9,V.int 3,V.ref u12,V.ref u13]) (i:=c % 20) (Int.emod_nonneg _ (by decide)) (by show _ < (20:Int); exact Int.emod_lt_of_pos _ (by decide))
  refine j6 (SqL.of je3) hav ?_
  refine k v _ ?_ S
  simp only [List.cons_append,List.nil_append,List.mem_cons,List.not_mem_nil,or_false] at hv
  rcases hv with rfl | rfl | rfl | rfl | rfl | rfl | rfl | rfl | rfl | rfl | rfl | rfl | rfl | rfl | rfl | rfl | rfl | rfl | rfl | rfl
  ·exact .inr ⟨x1,[],[],rfl,X _ _ xe1,by decide,⟨rfl,fun i y b h=>by simp at h⟩,by simp⟩
  ·exact .inl ⟨_,.tup (X _ _ xe2),by decide⟩
  ·refine .inr ⟨r,_,List.replicate 7 true,rfl,Y _ _ (yT0 _ _ je),by show 7 <= 1000; decide,yhl ?_ 7,fun z=>absurd z.2.1 (by show ¬ 7 <= 6; decide)⟩
   exact .inr ⟨x4,_,rfl,X _ _ xe4,.inr ⟨_,_,"str",rfl,.str _,.inr ⟨by decide,.inr ⟨x3,[],rfl,X _ _ xe3,by decide,fun _ z=>(nomatch z),rfl⟩⟩⟩⟩
  ·exact ya1 (Y _ _ ye3) (vaw (Y _ _ ye2) (.str _) (by decide))
  ·exact ya1 (Y _ _ ye6) (yjz (Y _ _ ye5) (by decide) (Y _ _ ye4) (by decide) (all_cons ⟨_,.int _⟩ vj) (by decide))
  ·exact ya1 (Y _ _ ye9) (yjz (Y _ _ ye8) (by decide) (Y _ _ ye7) (by decide) (all_cons ⟨_,.int _⟩ vj) (by decide))
  ·exact ya1 (Y _ _ ye12) (yjz (Y _ _ ye11) (by decide) (Y _ _ ye10) (by decide) (all_cons ⟨_,.int _⟩ (all_cons ⟨_,.int _⟩ vj)) (by decide))
  ·exact ya1 (Z _ _ ze3) (yjz (Z _ _ ze2) (by decide) (Z _ _ ze1) (by decide) (all_cons ⟨_,.int _⟩ (all_cons ⟨_,.int _⟩ vj)) (by decide))
  ·exact ya1 (Z _ _ ze6) (.inr ⟨z5,_,rfl,Z _ _ ze5,.inr ⟨_,_,"str",rfl,.str _,.inr ⟨by decide,.inl ⟨_,.lst (Z _ _ ze4),by decide,rfl⟩⟩⟩⟩)
  ·exact ya1 (Z _ _ ze9) (.inl ⟨_,.lst (Z _ _ ze8),by decide,rfl⟩)
  ·exact ya1 (Z _ _ ze12) (yjz (Z _ _ ze11) (by decide) (Z _ _ ze10) (by decide) (all_cons ⟨_,.int _⟩ (all_cons ⟨_,.int _⟩ (all_cons ⟨_,.int _⟩ (all_cons ⟨_,.int _⟩ (all_cons ⟨_,.int _⟩ vj))))) (by decide))
  ·exact ya1 (Z _ _ ze14) (.inr ⟨z13,_,rfl,Z _ _ ze13,.inl ⟨by simp,rfl⟩⟩)
  ·exact .inl ⟨_,.non,by decide⟩
  ·exact .inl ⟨_,.str _,by decide⟩
  ·exact .inl ⟨_,.tup (U _ _ ue3),by decide⟩
  ·exact ya1 (U _ _ ue6) (yjz (U _ _ ue5) (by decide) (U _ _ ue4) (by decide) (all_cons ⟨_,.bl _⟩ vj) (by decide))
  ·exact ya1 (U _ _ ue9) (vaw (U _ _ ue8) (.int _) (by decide))
  ·exact .inl ⟨_,.int _,by decide⟩
  ·exact ya1 (U _ _ ue12) (.inr ⟨u11,_,rfl,U _ _ ue11,.inl ⟨by simp,rfl⟩⟩)
  ·exact ya1 (U _ _ ue13) (.inl ⟨_,.non,by decide,rfl⟩)
theorem yh9:ym ["_law_cell","_law_far","_law_some"] ["_law_cell"] (yj yuh):=⟨rfl,rfl,rfl,by decide +kernel,rfl,by decide +kernel,by decide +kernel⟩
def ysa (K:W.Frag):Sp:=fun vs H Q _=>∃ c:Int,vs=[.int c]/\0 <= c/\∀ v n H',xw K H' v (.type n)->Bad K H' v n 1000->Bad K H' v n 12000->vi H H'->Q v H'
theorem ypo (T:Txt K mg a):wv P w K mg base CX0 1 a.f_q69 a.d_q69 ["_law_cell"] (ysa K):=by
 refine T.y_q69.F.ok yh9 (fun vs H Q E h=>?_) (fun cdv A outer s H vs Q E hr h=>?_)
 ·obtain ⟨c,rfl,_⟩:=h
  rfl
 ·obtain ⟨c,rfl,c0,k⟩:=h
  refine yu (yy (i:=1) yh9.nd rfl (Or.inl rfl) (yo wn (yo wa (pv 0) yg) (yo (yth 1000000000) yg yg))) ?_
  refine jc (yfk (i:=2) yh9.nd rfl (Or.inl rfl) (yfg (vy (w9 ya9) (vy (w9 (wb (yb yg (yb yg yd (ya rfl)) (ya rfl)))) (vy (w9 (vk (yb (yo wu yg (pv 1)) yd (ya rfl)))) (vy (w9 (vk (yb (yo ux (yo ux yg yg) (pv 1)) yd (ya rfl)))) (vy (w9 (vk (yb yd6 yd (ya rfl)))) (vy (w9 vo) (vy (w9 (vk (yb vo yd (ya rfl)))) (vy (w9 (vk (yb (vk (yb yg yd (ya rfl))) yd (ya rfl)))) yfm rfl) rfl) rfl) rfl) rfl) rfl) rfl) rfl)) (Or.inl rfl) rfl) ?_
  refine jc (yfk (i:=2) yh9.nd rfl (Or.inl rfl) (yuj ycv (w9 (pv 2)) (yfg (vy (w9 yhs) (vy (w9 (pv 1)) (vy (w9 (vk (yb yg (yb ya9 yd (ya rfl)) (ya rfl)))) (vy (w9 (wb yd)) (vy (w9 yd6) (vy (w9 (vk (yb yg (yb vo yd (ya rfl)) (ya rfl)))) (vy (w9 (vk (yb yg (yb yd6 yd (ya rfl)) (ya rfl)))) (vy (w9 (vk (yb (wb (yb yg yd (ya rfl))) yd (ya rfl)))) yfm rfl) rfl) rfl) rfl) rfl) rfl) rfl) rfl))) (Or.inl rfl) rfl) ?_
  refine ⟨_,(yf (yv (zd xq (pv 2) (yo wn (pv 0) yg) (fun _ _=>rfl)))),?_⟩
  try dsimp only [wk]
  refine yn (σ':=[some _,none,none]) rfl ?_
  walk_at "rd"
  have f0:0 <= c / 16 % 1000000000:=by omega
  generalize c / 16 % 1000000000=fr at f0
  walk_at "rd"
  refine ⟨by walk_at "len",fun x1 xg1=>?_⟩
  with_reducible first | refine yh xg1 fun xH1 xS1 xe1=>?_ | refine yk xg1 fun xH1 xS1 xe1=>?_
  walk_at "rd"
  refine ⟨by walk_at "len",fun x2 xg2=>?_⟩
  with_reducible first | refine yh xg2 fun xH2 xS2 xe2=>?_ | refine yk xg2 fun xH2 xS2 xe2=>?_
  walk_at "rd"
  refine ⟨by walk_at "len",fun x3 xg3=>?_⟩
  with_reducible first | refine yh xg3 fun xH3 xS3 xe3=>?_ | refine yk xg3 fun xH3 xS3 xe3=>?_
  walk_at "rd"
  refine ⟨by walk_at "len",fun x4 xg4=>?_⟩
  with_reducible first | refine yh xg4 fun xH4 xS4 xe4=>?_ | refine yk xg4 fun xH4 xS4 xe4=>?_
  walk_at "rd"
  refine ⟨by walk_at "len",fun x5 xg5=>?_⟩
  with_reducible first | refine yh xg5 fun xH5 xS5 xe5=>?_ | refine yk xg5 fun xH5 xS5 xe5=>?_
  walk_at "rd"
  refine ⟨by walk_at "len",fun x6 xg6=>?_⟩
  with_reducible first | refine yh xg6 fun xH6 xS6 xe6=>?_ | refine yk xg6 fun xH6 xS6 xe6=>?_
  walk_at "rd"
  refine ⟨by walk_at "len",fun x7 xg7=>?_⟩
  with_reducible first | refine yh xg7 fun xH7 xS7 xe7=>?_ | refine yk xg7 fun xH7 xS7 xe7=>?_
  walk_at "rd"
  refine ⟨by walk_at "len",fun x8 xg8=>?_⟩
  with_reducible first | refine yh xg8 fun xH8 xS8 xe8=>?_ | refine yk xg8 fun xH8 xS8 xe8=>?_
  have xT7:=xS8
  have xe7:=xT7 _ _ xe7
  have xT6:=xS7.trans xT7
  have xe6:=xT6 _ _ xe6
  have xT5:=xS6.trans xT6
  have xe5:=xT5 _ _ xe5
  have xT4:=xS5.trans xT5
  have xe4:=xT4 _ _ xe4
  have xT3:=xS4.trans xT4
  have xe3:=xT3 _ _ xe3
  have xT2:=xS3.trans xT3
  have xe2:=xT2 _ _ xe2
  have xT1:=xS2.trans xT2
  have xe1:=xT1 _ _ xe1
  have xT0:=xS1.trans xT1
  walk_at "rd"
  intro d gd
  with_reducible first | refine yh gd fun J1 JS je=>?_ | refine yk gd fun J1 JS je=>?_
  walk_at "rd"
  refine ⟨by walk_at "len",fun y1 yg1=>?_⟩
  with_reducible first | refine yh yg1 fun yH1 yS1 ye1=>?_ | refine yk yg1 fun yH1 yS1 ye1=>?_
  walk_at "rd"
  refine ⟨by walk_at "len",fun y2 yg2=>?_⟩
  with_reducible first | refine yh yg2 fun yH2 yS2 ye2=>?_ | refine yk yg2 fun yH2 yS2 ye2=>?_
  walk_at "rd"
  refine ⟨by walk_at "len",fun y3 yg3=>?_⟩
  with_reducible first | refine yh yg3 fun yH3 yS3 ye3=>?_ | refine yk yg3 fun yH3 yS3 ye3=>?_
  walk_at "rd"
  refine ⟨by walk_at "len",fun y4 yg4=>?_⟩
  with_reducible first | refine yh yg4 fun yH4 yS4 ye4=>?_ | refine yk yg4 fun yH4 yS4 ye4=>?_
  walk_at "rd"
  refine ⟨by walk_at "len",fun y5 yg5=>?_⟩
  with_reducible first | refine yh yg5 fun yH5 yS5 ye5=>?_ | refine yk yg5 fun yH5 yS5 ye5=>?_
  walk_at "rd"
  refine ⟨by walk_at "len",fun y6 yg6=>?_⟩
  with_reducible first | refine yh yg6 fun yH6 yS6 ye6=>?_ | refine yk yg6 fun yH6 yS6 ye6=>?_
  walk_at "rd"
  refine ⟨by walk_at "len",fun y7 yg7=>?_⟩
  with_reducible first | refine yh yg7 fun yH7 yS7 ye7=>?_ | refine yk yg7 fun yH7 yS7 ye7=>?_
  have yT6:=yS7
  have ye6:=yT6 _ _ ye6
  have yT5:=yS6.trans yT6
  have ye5:=yT5 _ _ ye5
  have yT4:=yS5.trans yT5
  have ye4:=yT4 _ _ ye4
  have yT3:=yS4.trans yT4
  have ye3:=yT3 _ _ ye3
  have yT2:=yS3.trans yT3
  have ye2:=yT2 _ _ ye2
  have yT1:=yS2.trans yT2
  have ye1:=yT1 _ _ ye1
  have yT0:=yS1.trans yT1
  walk_at "rd"
  refine ⟨x8,y7,_,_,rfl,rfl,yT0 _ _ (JS _ _ xe8),ye7,ur (by show 16 <= 16000000; decide),fun r2 gr2=>?_⟩
  with_reducible first | refine yh gr2 fun J2 JS2 je2=>?_ | refine yk gr2 fun J2 JS2 je2=>?_
  walk_at "rd"
  have Y:=JS2
  have D:=yT0.trans Y
  have X:=JS.trans D
  have S:=xT0.trans X
  obtain ⟨v,hv,hav⟩:=yb9 (xs:=[V.non,V.ref x1,V.ref x2,V.ref x3,V.ref x4,V.str "ab",V.ref x5,V.ref x7]++[V.ref d,V.int fr,V.ref y1,V.ref y2,V.bl true,V.ref y3,V.ref y4,V.ref y6]) (i:=c % 16) (Int.emod_nonneg _ (by decide)) (by show _ < (16:Int); exact Int.emod_lt_of_pos _ (by decide))
  refine j6 (SqL.of je2) hav ?_
  have bad:∀ {p:Addr} {xs:List V} {m:Int},J2 p=some (.lst xs)->Typed K J2 xs->xs.length <= 100->xs.all sgV=false->Bad K J2 (.ref p) "list" m:=fun h t l e=>.inr ⟨_,_,rfl,h,t,by omega,by rw [e,Bool.and_false]⟩
  have two:∀ {v:V} {n:String},xw K J2 v (.type n)->(∀ m,Bad K J2 v n m)->Q v J2:=fun t b=>k _ _ _ t (b _) (b _) S
  have lst:∀ {p:Addr} {xs:List V},J2 p=some (.lst xs)->Typed K J2 xs->xs.length <= 100->xs.all sgV=false->Q (.ref p) J2:=fun h t l e=>two (.lst h) fun m=>bad h t l e
  simp only [List.cons_append,List.nil_append,List.mem_cons,List.not_mem_nil,or_false] at hv
  rcases hv with rfl | rfl | rfl | rfl | rfl | rfl | rfl | rfl | rfl | rfl | rfl | rfl | rfl | rfl | rfl | rfl
  ·exact two .non fun m=>.inl (by decide)
  ·exact two (.tup (X _ _ xe1)) fun m=>.inl (by decide)
  ·exact lst (X _ _ xe2) (zg [256+fr]) (by show 1 <= 100; decide) (by show ((decide _ && decide _) && true)=false; rw [decide_eq_false (p:=256+fr <= 255) (by omega),Bool.and_false]; rfl)
  ·exact lst (X _ _ xe3) (zg [0 - 1 - fr]) (by show 1 <= 100; decide) (by show ((decide _ && decide _) && true)=false; rw [decide_eq_false (p:=0 <= 0 - 1 - fr) (by omega)]; rfl)
  ·exact lst (X _ _ xe4) (all_cons ⟨_,.bl _⟩ vj) (by show 1 <= 100; decide) rfl
  ·exact two (.str _) fun m=>.inl (by decide)
  ·exact lst (X _ _ xe5) (all_cons ⟨_,.str _⟩ vj) (by show 1 <= 100; decide) rfl
  ·exact lst (X _ _ xe7) (all_cons ⟨_,.lst (X _ _ xe6)⟩ vj) (by show 1 <= 100; decide) rfl
  ·exact two (.dT (D _ _ je)) fun m=>.inl (by decide)
  ·exact two (.int _) fun m=>.inl (by decide)
  ·exact lst (Y _ _ ye1) (all_cons ⟨_,.int _⟩ (all_cons ⟨_,.non⟩ vj)) (by show 2 <= 100; decide) (Bool.and_false _)
  ·exact two (.tup (Y _ _ ye2)) fun m=>.inl (by decide)
  ·exact two (.bl _) fun m=>.inl (by decide)
  ·exact lst (Y _ _ ye3) (all_cons ⟨_,.int _⟩ (all_cons ⟨_,.str _⟩ vj)) (by show 2 <= 100; decide) (Bool.and_false _)
  ·exact lst (Y _ _ ye4) (all_cons ⟨_,.int _⟩ (all_cons ⟨_,.bl _⟩ vj)) (by show 2 <= 100; decide) (Bool.and_false _)
  ·exact lst (Y _ _ ye6) (all_cons ⟨_,.tup (Y _ _ ye5)⟩ vj) (by show 1 <= 100; decide) rfl
theorem yv2.mono {K:W.Frag} {a:Ads} {H:Hp} {vl vt vx:V} {E E':XK} {F F':Nat->(Nat->Fin 3)->(Nat->List Int)->List Int->Nat->(Nat->List Int)->Prop} (h:yv2 K a H vl vt vx E F) (fE:∀ C H',E (.ref C) none H'->E' (.ref C) none H') (f:∀ n kd ps ts N tt,F n kd ps ts N tt->F' n kd ps ts N tt):yv2 K a H vl vt vx E' F':=by
 obtain ⟨nd,t1,h | ⟨L,n,lk,kd,tp,ps,e1,e2,n1,n6,r,h | ⟨tx,ts,e3,e4,h | ⟨N,w,lt,tt,lr,w1,N1,bd,q⟩⟩⟩⟩:=h
 ·exact ⟨nd,t1,.inl ⟨h.1,fun H' S=>fE _ _ (h.2 H' S)⟩⟩
 ·exact ⟨nd,t1,.inr ⟨L,n,lk,kd,tp,ps,e1,e2,n1,n6,r,.inl ⟨h.1,fun H' S=>fE _ _ (h.2 H' S)⟩⟩⟩
 ·exact ⟨nd,t1,.inr ⟨L,n,lk,kd,tp,ps,e1,e2,n1,n6,r,.inr ⟨tx,ts,e3,e4,.inl ⟨h.1,fun H' S=>fE _ _ (h.2 H' S)⟩⟩⟩⟩
 ·exact ⟨nd,t1,.inr ⟨L,n,lk,kd,tp,ps,e1,e2,n1,n6,r,.inr ⟨tx,ts,e3,e4,.inr ⟨N,w,lt,tt,lr,w1,N1,bd,f _ _ _ _ _ _ q⟩⟩⟩⟩
def fPr (H:Hp) (Q:VK):Nat->(Nat->Fin 3)->(Nat->List Int)->List Int->Nat->(Nat->List Int)->Prop:=fun n kd ps ts N tt=>∀ r H',H r=none->H' r=some (.lst ((tL (snK (ya3 n kd ps (za tt N) ts) (w6 ts) (dec ts).length)).map V.int))->vi H H'->Q (.ref r) H'
def yv0 (K:W.Frag) (a:Ads) (H:Hp) (i:Int) (vl vt vx:V) (Q:VK) (E:XK):Prop :=
 (i=0/\yv2 K a H vl vt vx E (fPr H Q))\/(i=1/\ype K a H vl vt (.int (3:Nat)) vx E (fRd a H Q E))\/(i=2/\ype K a H vl vt (.int (3:Nat)) vx E (fRf a H Q E))
theorem yv0.mono {K:W.Frag} {a:Ads} {H:Hp} {i:Int} {vl vt vx:V} {Q Q':VK} {E E':XK} (h:yv0 K a H i vl vt vx Q E) (fE:∀ C H',E (.ref C) none H'->E' (.ref C) none H') (fQ:∀ v H',Q v H'->Q' v H'):yv0 K a H i vl vt vx Q' E':=by
 rcases h with ⟨e,h⟩ | ⟨e,h⟩ | ⟨e,h⟩
 ·exact .inl ⟨e,h.mono fE fun _ _ _ _ _ _ q r H' h1 h2 h3=>fQ _ _ (q r H' h1 h2 h3)⟩
 ·exact .inr (.inl ⟨e,h.mono fE fun _ _ _ _ _ _ _ _ _ _ q=>⟨fun M r H' h1 h2 h3 h4 h5 h6=>fQ _ _ (q.1 M r H' h1 h2 h3 h4 h5 h6),fun hno H' S=>fE _ _ (q.2 hno H' S)⟩⟩)
 ·exact .inr (.inr ⟨e,h.mono fE fun _ _ _ _ _ _ _ _ _ _ q=>⟨fun M t r H' h1 h2 h3 h4 h5 h6 h7=>fQ _ _ (q.1 M t r H' h1 h2 h3 h4 h5 h6 h7),fun hno H' S=>fE _ _ (q.2 hno H' S)⟩⟩)
theorem yxu:ym ["_law_kind","_law_looks_here","_law_thing","_law_learned"] ["_law_kind","_law_looks_here","_law_thing","_law_learned"] (yj yue):=⟨rfl,rfl,rfl,by decide +kernel,rfl,by decide +kernel,by decide +kernel⟩
def yoi (K:W.Frag) (a:Ads):Sp:=fun vs H Q E=>∃ (i:Int) (vl vt vx:V),vs=[.int i,vl,vt,vx]/\yv0 K a H i vl vt vx Q E
theorem yqx (T:Txt K mg a):wv P w K mg base (CXe P w) 13 a.f_q70 a.d_q70 ["_law_kind","_law_looks_here","_law_thing","_law_learned"] (yoi K a):=by
 refine T.y_q70.F.okE yxu (fun vs H Q E h=>?_) (fun cdv A outer s H vs Q E hr h=>?_)
 ·obtain ⟨i,vl,vt,vx,rfl,_⟩:=h
  rfl
 ·obtain ⟨i,vl,vt,vx,rfl,h⟩:=h
  refine ⟨_,(yi (wj (yz uj (pv 0) yg (vq _)) (yf (yv (ve (yna T) (hr.mono (by decide)) rfl T.m_q58 T.F_q58.kp T.B_q58 .nil v6 (yb (pv 1) (yb (pv 2) (yb (pv 3) yd (ya rfl)) (ya rfl)) (ya rfl))))) vf) (yi (wj (yz uj (pv 0) yg (vq _)) (yf (yv (ve (yqr T) (hr.mono (by decide)) rfl T.m_q64 T.F_q64.kp T.B_q64 .nil v6 (yb (pv 1) (yb (pv 2) (yb yg (yb (pv 3) yd (ya rfl)) (ya rfl)) (ya rfl)) (ya rfl))))) vf) (yf (yv (ve (yms T) (hr.mono (by decide)) rfl T.m_q63 T.F_q63.kp T.B_q63 .nil v6 (yb (pv 1) (yb (pv 2) (yb yg (yb (pv 3) yd (ya rfl)) (ya rfl)) (ya rfl)) (ya rfl))))))),?_⟩
  try dsimp only [wk]
  refine yn (σ':=[some _,some _,some _,some _]) rfl ?_
  walk_at "rd"
  rcases h with ⟨rfl,h⟩ | ⟨rfl,h⟩ | ⟨rfl,h⟩
  ·refine yd7 rfl ?_
   walk_at "rd"
   exact ⟨vl,vt,vx,rfl,h⟩
  ·refine yck (by decide) ?_
   walk_at "rd"
   refine yd7 rfl ?_
   walk_at "rd"
   exact ⟨vl,vt,.int (3:Nat),vx,rfl,h⟩
  ·refine yck (by decide) ?_
   walk_at "rd"
   refine yck (by decide) ?_
   walk_at "rd"
   exact ⟨vl,vt,.int (3:Nat),vx,rfl,h⟩
def wdR (a:Ads) (C:Addr) (wd:Str):Prop:=(C=a.C_NL/\wd="looks")\/(C=a.C_NT/\wd="text")\/(C=a.C_NY/\wd="bytes")
theorem jf:ym ["_law_kind","_law_looks_here","_law_thing","_law_learned","_law_word_here","e"] ["_law_kind","_law_looks_here","_law_thing","_law_learned"] (yj yuy):=⟨rfl,rfl,rfl,by decide +kernel,rfl,by decide +kernel,by decide +kernel⟩
def yhk (K:W.Frag) (a:Ads):Sp:=fun vs H Q _=>∃ (i:Int) (vl vt vx:V),vs=[.int i,vl,vt,vx]/\yv0 K a H i vl vt vx (fun _ H'=>Q (.str "") H') (fun C _ H'=>∃ D wd,C=.ref D/\wdR a D wd/\∀ H'',vi H' H''->Q (.str wd) H'')
theorem yzy (T:Txt K mg a):wv P w K mg base CX0 14 a.f_q71 a.d_q71 ["_law_kind","_law_looks_here","_law_thing","_law_learned"] (yhk K a):=by
 refine T.y_q71.F.ok jf (fun vs H Q E h=>?_) (fun cdv A outer s H vs Q E hr h=>?_)
 ·obtain ⟨i,vl,vt,vx,rfl,_⟩:=h
  rfl
 ·obtain ⟨i,vl,vt,vx,rfl,h⟩:=h
  refine ⟨_,(yi (yy (i:=4) jf.nd rfl (Or.inl rfl) vo) (yi (yr1 (fun pn Ex=>(yf (vz (ve (yqx T) (hr.mono (by decide)) rfl T.y_q70.m T.y_q70.F.kp T.y_q70.B .nil jp (yb (pv 0) (yb (pv 1) (yb (pv 2) (yb (pv 3) yd (ya rfl)) (ya rfl)) (ya rfl)) (ya rfl)))))) ⟨rfl,rfl⟩ (ypn (cs:=[a.C_Full,a.C_InUse,a.C_NB,a.C_NC,a.C_NoMost,a.C_NoName]) (fun pn x=>wb (yb (w5 rfl T.m_Full) (yb (w5 rfl T.m_InUse) (yb (w5 rfl T.m_NB) (yb (w5 rfl T.m_NC) (yb (w5 rfl T.m_NoMost) (yb (w5 rfl T.m_NoName) yd (ya rfl)) (ya rfl)) (ya rfl)) (ya rfl)) (ya rfl)) (ya rfl))) (fun σ H Q h=>⟨by show 6 <= sizeLine; decide,h⟩) (ypn (cs:=[a.C_NoPiece,a.C_NP,a.C_NoShelf,a.C_NoWords,a.C_Taken,a.C_TooLong]) (fun pn x=>wb (yb (w5 rfl T.m_NoPiece) (yb (w5 rfl T.m_NP) (yb (w5 rfl T.m_NoShelf) (yb (w5 rfl T.m_NoWords) (yb (w5 rfl T.m_Taken) (yb (w5 rfl T.m_TooLong) yd (ya rfl)) (ya rfl)) (ya rfl)) (ya rfl)) (ya rfl)) (ya rfl))) (fun σ H Q h=>⟨by show 6 <= sizeLine; decide,h⟩) (ydp (i:=5) rfl T.m_NL (fun pn x=>(yi (yy (i:=4) jf.nd rfl (Or.inl rfl) vo) (yf (wj (xr (yt (id:="isinstance") (r:=yne K) yb2 rfl T.z_isinstance (by decide +kernel) (yb (pv 5) (yb (wb (yb (w5 rfl T.m_NT) (yb (w5 rfl T.m_NY) yd (ya rfl)) (ya rfl))) yd (ya rfl)) (ya rfl)))) (yf (yy (i:=4) jf.nd rfl (Or.inl rfl) vo)) vf)))) jf.nd rfl rfl (ydp (i:=5) rfl T.m_NT (fun pn x=>(yi (yy (i:=4) jf.nd rfl (Or.inl rfl) vo) (yf (wj (xr (yt (id:="isinstance") (r:=yne K) yb2 rfl T.z_isinstance (by decide +kernel) (yb (pv 5) (yb (wb (yb (w5 rfl T.m_NL) (yb (w5 rfl T.m_NY) yd (ya rfl)) (ya rfl))) yd (ya rfl)) (ya rfl)))) (yf (yy (i:=4) jf.nd rfl (Or.inl rfl) vo)) vf)))) jf.nd rfl rfl (ydp (i:=5) rfl T.m_NY (fun pn x=>(yi (yy (i:=4) jf.nd rfl (Or.inl rfl) vo) (yf (wj (xr (yt (id:="isinstance") (r:=yne K) yb2 rfl T.z_isinstance (by decide +kernel) (yb (pv 5) (yb (wb (yb (w5 rfl T.m_NL) (yb (w5 rfl T.m_NT) yd (ya rfl)) (ya rfl))) yd (ya rfl)) (ya rfl)))) (yf (yy (i:=4) jf.nd rfl (Or.inl rfl) vo)) vf)))) jf.nd rfl rfl yxm)))))) (yf (yv (pv 4))))),?_⟩
  try dsimp only [wk]
  refine yn (σ':=[some _,some _,some _,some _,none,none]) rfl ?_
  walk_at "rd"
  refine yyg ?_
  walk_at "rd"
  refine ⟨i,vl,vt,vx,rfl,h.mono (fun D H' he=>?_) (fun v H' hq=>?_)⟩
  ·obtain ⟨D',wd,e,hw,k⟩:=he
   cases e
   rcases hw with ⟨rfl,rfl⟩ | ⟨rfl,rfl⟩ | ⟨rfl,rfl⟩
   ·refine yc0 (all_cons T.em_NL_Full (all_cons T.em_NL_InUse (all_cons T.em_NL_NB (all_cons T.em_NL_NC (all_cons T.em_NL_NoMost (all_cons T.em_NL_NoName vj)))))) fun p1 g1=>?_
    refine yc0 (all_cons T.em_NL_NoPiece (all_cons T.em_NL_NP (all_cons T.em_NL_NoShelf (all_cons T.em_NL_NoWords (all_cons T.em_NL_Taken (all_cons T.em_NL_TooLong vj)))))) fun p2 g2=>?_
    refine yvr T.em_NL_NL fun x hx=>?_
    have S1:=(vh (o:=HO.tup ([a.C_Full,a.C_InUse,a.C_NB,a.C_NC,a.C_NoMost,a.C_NoName].map V.ref)) g1).trans (vh (o:=HO.tup ([a.C_NoPiece,a.C_NP,a.C_NoShelf,a.C_NoWords,a.C_Taken,a.C_TooLong].map V.ref)) g2)
    dsimp only [List.set]
    with_reducible first | refine yh hx fun H2 S2 e2=>?_ | refine yk hx fun H2 S2 e2=>?_
    walk_at "rd"
    refine ⟨by walk_at "len",fun tp ht=>?_⟩
    walk_at "rd"
    refine ymx (Cs:=[a.C_NT,a.C_NY]) yc (uq ht e2) T.x_NL T.ka_NL_2 ?_
    walk_at "rd"
    dsimp only [yc1.un,List.set]
    walk_at "rd"
    exact k _ (S1.trans (S2.trans (vh ht)))
   ·refine yc0 (all_cons T.em_NT_Full (all_cons T.em_NT_InUse (all_cons T.em_NT_NB (all_cons T.em_NT_NC (all_cons T.em_NT_NoMost (all_cons T.em_NT_NoName vj)))))) fun p1 g1=>?_
    refine yc0 (all_cons T.em_NT_NoPiece (all_cons T.em_NT_NP (all_cons T.em_NT_NoShelf (all_cons T.em_NT_NoWords (all_cons T.em_NT_Taken (all_cons T.em_NT_TooLong vj)))))) fun p2 g2=>?_
    refine ym7 T.em_NT_NL (yvr T.em_NT_NT fun x hx=>?_)
    have S1:=(vh (o:=HO.tup ([a.C_Full,a.C_InUse,a.C_NB,a.C_NC,a.C_NoMost,a.C_NoName].map V.ref)) g1).trans (vh (o:=HO.tup ([a.C_NoPiece,a.C_NP,a.C_NoShelf,a.C_NoWords,a.C_Taken,a.C_TooLong].map V.ref)) g2)
    dsimp only [List.set]
    with_reducible first | refine yh hx fun H2 S2 e2=>?_ | refine yk hx fun H2 S2 e2=>?_
    walk_at "rd"
    refine ⟨by walk_at "len",fun tp ht=>?_⟩
    walk_at "rd"
    refine ymx (Cs:=[a.C_NL,a.C_NY]) yc (uq ht e2) T.x_NT T.ka_NT_1 ?_
    walk_at "rd"
    dsimp only [yc1.un,List.set]
    walk_at "rd"
    exact k _ (S1.trans (S2.trans (vh ht)))
   ·refine yc0 (all_cons T.em_NY_Full (all_cons T.em_NY_InUse (all_cons T.em_NY_NB (all_cons T.em_NY_NC (all_cons T.em_NY_NoMost (all_cons T.em_NY_NoName vj)))))) fun p1 g1=>?_
    refine yc0 (all_cons T.em_NY_NoPiece (all_cons T.em_NY_NP (all_cons T.em_NY_NoShelf (all_cons T.em_NY_NoWords (all_cons T.em_NY_Taken (all_cons T.em_NY_TooLong vj)))))) fun p2 g2=>?_
    refine ym7 T.em_NY_NL (ym7 T.em_NY_NT (yvr T.em_NY_NY fun x hx=>?_))
    have S1:=(vh (o:=HO.tup ([a.C_Full,a.C_InUse,a.C_NB,a.C_NC,a.C_NoMost,a.C_NoName].map V.ref)) g1).trans (vh (o:=HO.tup ([a.C_NoPiece,a.C_NP,a.C_NoShelf,a.C_NoWords,a.C_Taken,a.C_TooLong].map V.ref)) g2)
    dsimp only [List.set]
    with_reducible first | refine yh hx fun H2 S2 e2=>?_ | refine yk hx fun H2 S2 e2=>?_
    walk_at "rd"
    refine ⟨by walk_at "len",fun tp ht=>?_⟩
    walk_at "rd"
    refine ymx (Cs:=[a.C_NL,a.C_NT]) yc (uq ht e2) T.x_NY T.ka_NY_0 ?_
    walk_at "rd"
    dsimp only [yc1.un,List.set]
    walk_at "rd"
    exact k _ (S1.trans (S2.trans (vh ht)))
  ·walk_at "rd"
   exact hq
theorem yis:ym ["_law_kind","_law_looks_here","_law_thing","_law_learned","_law_good","e"] ["_law_kind","_law_looks_here","_law_thing","_law_learned"] (yj yt8):=⟨rfl,rfl,rfl,by decide +kernel,rfl,by decide +kernel,by decide +kernel⟩
def ytr (K:W.Frag) (a:Ads):Sp:=fun vs H Q _=>∃ (i:Int) (vl vt vx:V),vs=[.int i,vl,vt,vx]/\yv0 K a H i vl vt vx (fun _ _=>False) (fun C _ H'=>∃ D wd,C=.ref D/\wdR a D wd/\∀ H'',vi H' H''->Q (.bl true) H'')
theorem yzf (T:Txt K mg a):wv P w K mg base CX0 14 a.f_q72 a.d_q72 ["_law_kind","_law_looks_here","_law_thing","_law_learned"] (ytr K a):=by
 refine T.y_q72.F.ok yis (fun vs H Q E h=>?_) (fun cdv A outer s H vs Q E hr h=>?_)
 ·obtain ⟨i,vl,vt,vx,rfl,_⟩:=h
  rfl
 ·obtain ⟨i,vl,vt,vx,rfl,h⟩:=h
  refine ⟨_,(yi (yy (i:=4) yis.nd rfl (Or.inl rfl) yd6) (yi (yyi (i:=5) (fun pn Ex=>(yf (vz (ve (yqx T) (hr.mono (by decide)) rfl T.y_q70.m T.y_q70.F.kp T.y_q70.B .nil jp (yb (pv 0) (yb (pv 1) (yb (pv 2) (yb (pv 3) yd (ya rfl)) (ya rfl)) (ya rfl)) (ya rfl)))))) ⟨rfl,rfl⟩ rfl T.m_ForetellError (fun pn x=>(yf (yy (i:=4) yis.nd rfl (Or.inl rfl) (yt (id:="isinstance") (r:=vbc K) ynv rfl T.z_isinstance (by decide +kernel) (yb (pv 5) (yb (zj (T:="ValueError") rfl T.z_ValueError (by decide +kernel)) yd (ya rfl)) (ya rfl)))))) yis.nd rfl rfl) (yf (yv (pv 4))))),?_⟩
  try dsimp only [wk]
  refine yn (σ':=[some _,some _,some _,some _,none,none]) rfl ?_
  walk_at "rd"
  refine ⟨i,vl,vt,vx,rfl,h.mono (fun D H' he=>?_) (fun v H' hq=>hq.elim)⟩
  obtain ⟨D',wd,e,hw,k⟩:=he
  cases e
  rcases hw with ⟨rfl,rfl⟩ | ⟨rfl,rfl⟩ | ⟨rfl,rfl⟩
  ·refine yt5 T.em_NL_ForetellError fun e he=>?_
   dsimp only [List.set]
   with_reducible first | refine yh he fun H2 S2 e2=>?_ | refine yk he fun H2 S2 e2=>?_
   walk_at "rd"
   refine ym4 e2 T.x_NL T.ki_NL_ValueError ?_
   walk_at "rd"
   exact k _ S2
  ·refine yt5 T.em_NT_ForetellError fun e he=>?_
   dsimp only [List.set]
   with_reducible first | refine yh he fun H2 S2 e2=>?_ | refine yk he fun H2 S2 e2=>?_
   walk_at "rd"
   refine ym4 e2 T.x_NT T.ki_NT_ValueError ?_
   walk_at "rd"
   exact k _ S2
  ·refine yt5 T.em_NY_ForetellError fun e he=>?_
   dsimp only [List.set]
   with_reducible first | refine yh he fun H2 S2 e2=>?_ | refine yk he fun H2 S2 e2=>?_
   walk_at "rd"
   refine ym4 e2 T.x_NY T.ki_NY_ValueError ?_
   walk_at "rd"
   exact k _ S2
theorem yyl {K:W.Frag} {G:Hp} {p:Addr} {m:Int} (h:G p=some (.lst [V.int 256])):Bad K G (.ref p) "list" m :=
 .inr ⟨p,[V.int 256],rfl,h,zg [256],by decide,by rw [show ([V.int 256]:List V).all sgV=false from rfl,Bool.and_false]⟩
def yhi (bL bT bX:Prop) [Decidable bL] [Decidable bT] [Decidable bX] (i:Nat):Str:=if bL then "looks" else if bT then (if i=0 then "text" else "bytes") else if bX then "text" else ""
theorem sdI {K:W.Frag} {G:Hp} {q:Addr} {xs:List Int} (h:G q=some (.lst (xs.map V.int))):Sd K G (.ref q) (.list (xs.map PyData.int)) 1:=Sd.lst (SqL.of h) (Sds.ints _)
theorem ue:ym ["_law_script","_law_way","_law_looks_here","_law_text_here","_law_learned","_law_data","_law_odd_looks_here","_law_odd","_law_odd_learned","_law_kind","_law_thing","_law_due"] ["_law_script"] (yj yuq):=⟨rfl,rfl,rfl,by decide +kernel,rfl,by decide +kernel,by decide +kernel⟩
def yii (K:W.Frag):Sp:=fun vs H Q _=>∃ (l:Addr) (ns:List Int),vs=[.ref l]/\SqL K H l (ns.map V.int)/\ns.length <= 63/\∀ H',Q (.bl true) H'
theorem yz3 (T:Txt K mg a):wv P w K mg base CX0 15 a.f_law a.d_law ["_law_script"] (yii K):=by
 refine T.y_law.F.ok ue (fun vs H Q E h=>?_) (fun cdv A outer s H vs Q E hr h=>?_)
 ·obtain ⟨l,ns,rfl,_⟩:=h
  rfl
 ·obtain ⟨l,ns,rfl,hS,hlen,k⟩:=h
  refine yu (yy (i:=1) ue.nd rfl (Or.inl rfl) (vg (ycd T) (hr.mono (by decide)) rfl T.y_q65.m T.y_q65.F.kp T.y_q65.B .nil vv (yb (pv 0) (yb yg yd (ya rfl)) (ya rfl)))) ?_
  refine yu (yy (i:=2) ue.nd rfl (Or.inl rfl) (vg (yxi T) (hr.mono (by decide)) rfl T.y_q66.m T.y_q66.F.kp T.y_q66.B .nil vv (yb (vg (ycd T) (hr.mono (by decide)) rfl T.y_q65.m T.y_q65.F.kp T.y_q65.B .nil vv (yb (pv 0) (yb yg yd (ya rfl)) (ya rfl))) (yb yg yd (ya rfl)) (ya rfl)))) ?_
  refine yu (yy (i:=3) ue.nd rfl (Or.inl rfl) (vg (yyp T) (hr.mono (by decide)) rfl T.y_q67.m T.y_q67.F.kp T.y_q67.B .nil vv (yb (ybm yha (pv 0) (yd0 yg) yd1) (yb (yo wn (pv 1) yg) (yb (vg (ycd T) (hr.mono (by decide)) rfl T.y_q65.m T.y_q65.F.kp T.y_q65.B .nil vv (yb (pv 0) (yb yg yd (ya rfl)) (ya rfl))) yd (ya rfl)) (ya rfl)) (ya rfl)))) ?_
  refine yu (yy (i:=4) ue.nd rfl (Or.inl rfl) (vk (yb (vk (yb (yo wn (vg (ycd T) (hr.mono (by decide)) rfl T.y_q65.m T.y_q65.F.kp T.y_q65.B .nil vv (yb (pv 0) (yb yg yd (ya rfl)) (ya rfl))) yg) yd (ya rfl))) yd (ya rfl)))) ?_
  refine yu (yy (i:=5) ue.nd rfl (Or.inl rfl) (ve (yna T) (hr.mono (by decide)) rfl T.m_q58 T.F_q58.kp T.B_q58 .nil xm (yb (pv 2) (yb (pv 3) (yb (pv 4) yd (ya rfl)) (ya rfl)) (ya rfl)))) ?_
  refine yu (yy (i:=6) ue.nd rfl (Or.inl rfl) (pv 2)) ?_
  refine yu (jx (wj (yz uj (yo wn (yo wa (pv 1) yg) yg) yg (vq _)) (yf (yy (i:=6) ue.nd rfl (Or.inl rfl) (vg (yzq T) (hr.mono (by decide)) rfl T.y_q68.m T.y_q68.F.kp T.y_q68.B .nil vv (yb (vg (ycd T) (hr.mono (by decide)) rfl T.y_q65.m T.y_q65.F.kp T.y_q65.B .nil vv (yb (pv 0) (yb yg yd (ya rfl)) (ya rfl))) yd (ya rfl))))) vf)) ?_
  refine yu (yy (i:=7) ue.nd rfl (Or.inl rfl) (vg (ypo T) (hr.mono (by decide)) rfl T.y_q69.m T.y_q69.F.kp T.y_q69.B .nil vv (yb (vg (ycd T) (hr.mono (by decide)) rfl T.y_q65.m T.y_q65.F.kp T.y_q65.B .nil vv (yb (pv 0) (yb yg yd (ya rfl)) (ya rfl))) yd (ya rfl)))) ?_
  refine yu (yy (i:=8) ue.nd rfl (Or.inl rfl) (pv 4)) ?_
  refine yu (jx (wj (yz uj (yo wn (yo wa (pv 1) yg) yg) yg (vq _)) (yf (yy (i:=8) ue.nd rfl (Or.inl rfl) (zd xq (vk (yb (yo ycv (pv 4) (vk (yb (vg (ypo T) (hr.mono (by decide)) rfl T.y_q69.m T.y_q69.F.kp T.y_q69.B .nil vv (yb (vg (ycd T) (hr.mono (by decide)) rfl T.y_q65.m T.y_q65.F.kp T.y_q65.B .nil vv (yb (pv 0) (yb yg yd (ya rfl)) (ya rfl))) yd (ya rfl))) yd (ya rfl)))) (yb (wb (yb yg yd (ya rfl))) (yb vo (yb yg (yb (yo ycv (vk (yb (vk (yb yg yd (ya rfl))) yd (ya rfl))) (pv 4)) yd (ya rfl)) (ya rfl)) (ya rfl)) (ya rfl)) (ya rfl))) (yo wn (yo wa (pv 1) yg) yg) (fun _ _=>rfl)))) vf)) ?_
  refine yu (ya7 PassesOwn.never rfl (yb1 rfl T.z_range (yb yg yd (ya rfl))) (ub (i:=9) ue.nd rfl (Or.inl rfl)) (yi (yy (i:=10) ue.nd rfl (Or.inl rfl) (zd xq (vk (yb (pv 3) (yb (pv 5) (yb (pv 5) yd (ya rfl)) (ya rfl)) (ya rfl))) (pv 9) (fun _ _=>rfl))) (yi (yy (i:=11) ue.nd rfl (Or.inl rfl) vo) (yi (jx (wj (yz uj (yo wn (yo wa (pv 1) yg) yg) yg (vq _)) (yf (yy (i:=11) ue.nd rfl (Or.inl rfl) vo)) vf)) (yi (jx (wj (yz uj (yo wn (yo wa (pv 1) yg) yg) yg (vq _)) (yi (yy (i:=10) ue.nd rfl (Or.inl rfl) (pv 7)) (yf (yy (i:=11) ue.nd rfl (Or.inl rfl) (zd xq (vk (yb vo (yb vo (yb vo yd (ya rfl)) (ya rfl)) (ya rfl))) (pv 9) (fun _ _=>rfl))))) vf)) (yi (jx (wj (yz uj (yo wn (yo wa (pv 1) yg) yg) yg (vq _)) (yf (yy (i:=11) ue.nd rfl (Or.inl rfl) vo)) vf)) (yi (wj (yz van (vg (yzy T) (hr.mono (by decide)) rfl T.y_q71.m T.y_q71.F.kp T.y_q71.B .nil vv (yb (pv 9) (yb (pv 6) (yb (pv 10) (yb (pv 8) yd (ya rfl)) (ya rfl)) (ya rfl)) (ya rfl))) (pv 11) (vq _)) (yf (yv yd6)) vf) (yf (wj (PW.pt (yye (yz van (pv 11) vo (vq _)) (ytd (ud (xr (vg (yzf T) (hr.mono (by decide)) rfl T.y_q72.m T.y_q72.F.kp T.y_q72.B .nil vv (yb (pv 9) (yb (pv 6) (yb (pv 10) (yb (pv 8) yd (ya rfl)) (ya rfl)) (ya rfl)) (ya rfl)))))))) (yf (yv yd6)) vf))))))))) ?_
  refine yu (wj (PW.pt (yfp (yz (ym3 hr.units) (ve (yna T) (hr.mono (by decide)) rfl T.m_q58 T.F_q58.kp T.B_q58 .nil xm (yb (pv 2) (yb (pv 3) (yb (pv 4) yd (ya rfl)) (ya rfl)) (ya rfl))) (pv 5) (vq _)) (yfh (yz (ym3 hr.units) (ve (yqr T) (hr.mono (by decide)) rfl T.m_q64 T.F_q64.kp T.B_q64 .nil xm (yb (pv 2) (yb (pv 5) (yb yg (yb (pv 4) yd (ya rfl)) (ya rfl)) (ya rfl)) (ya rfl))) (pv 3) (vq _))))) (yf (yv yd6)) vf) ?_
  refine ⟨_,(yf (yv (yaz (yy2 hr.units) (ve (yms T) (hr.mono (by decide)) rfl T.m_q63 T.F_q63.kp T.B_q63 .nil xm (yb (pv 2) (yb (pv 5) (yb yg (yb (pv 4) yd (ya rfl)) (ya rfl)) (ya rfl)) (ya rfl))) (wb (yb (pv 3) (yb (yt vn rfl T.z_len (by decide +kernel) (yb (pv 5) yd (ya rfl))) yd (ya rfl)) (ya rfl))) (vq _)))),?_⟩
  try dsimp only [wk]
  refine yn (σ':=[some _,none,none,none,none,none,none,none,none,none,none,none]) rfl ?_
  walk_at "rd"
  refine ⟨l,ns,0,rfl,hS,by decide,fun wy w0 w1=>?_⟩
  walk_at "rd"
  refine ⟨l,ns,1,rfl,hS,by decide,fun c1 c10 c11=>?_⟩
  walk_at "rd"
  refine ⟨c1,1,rfl,c10,c11,by decide,by decide,fun L n lk kd tp ps H1 hL0 hL1 n1 n6 hR1 S1=>?_⟩
  walk_at "rd"
  refine yua (S1.seq hS) fun u hu=>?_
  obtain ⟨ms,hms,hml,_⟩:=ysx ns (some 7) none
  rw [hms]
  with_reducible first | refine yh hu fun H2 S2 hu2=>?_ | refine yk hu fun H2 S2 hu2=>?_
  walk_at "rd"
  refine ⟨l,ns,2,rfl,(S1.trans S2).seq hS,by decide,fun c2 c20 c21=>?_⟩
  walk_at "rd"
  obtain ⟨z,hz,hz3⟩:∃ z:Nat,wy % 3=(z:Int)/\z <= 2:=⟨(wy % 3).toNat,by omega,by omega⟩
  rw [hz]
  refine ⟨u,ms,z,_,rfl,hu2,by omega,by omega,fun tx ts H3 htx0 htx3 hts htz S3=>?_⟩
  have S13:=S1.trans (S2.trans S3)
  walk_at "rd"
  refine ⟨l,ns,3,rfl,S13.seq hS,by decide,fun c3 c30 c31=>?_⟩
  walk_at "rd"
  have x0:0 <= c3 % 256/\c3 % 256 <= 255:=by omega
  generalize c3 % 256=x at x0
  walk_at "rd"
  refine ⟨by walk_at "len",fun q1 qg1=>?_⟩
  with_reducible first | refine yh qg1 fun qH1 qS1 qe1=>?_ | refine yk qg1 fun qH1 qS1 qe1=>?_
  walk_at "rd"
  refine ⟨by walk_at "len",fun q2 qg2=>?_⟩
  with_reducible first | refine yh qg2 fun qH2 qS2 qe2=>?_ | refine yk qg2 fun qH2 qS2 qe2=>?_
  have qT1:=qS2
  have qe1:=qT1 _ _ qe1
  have qT0:=qS1.trans qT1
  have hpre:∀ {G:Hp},vi qH2 G->yph G (.ref q2) 1 1 (fun _=>q1) (fun _=>[x]):=fun S=>⟨.inr ⟨q2,rfl,S _ _ qe2⟩,fun i _=>⟨S _ _ qe1,fun y hy=>by rw [List.mem_singleton.mp hy]; exact x0,by show 1 <= 1; decide⟩⟩
  generalize hW:(fun _:Nat=>[x])=tt at hpre
  have hL2:=qT0 _ _ (S3 _ _ (S2 _ _ hL1))
  have hR2:=(hR1.same (S2.trans (S3.trans qT0)))
  have htx2:=qT0 _ _ htx3
  have pg:∀ {G:Hp} {E:XK} {F:Nat->(Nat->Fin 3)->(Nat->List Int)->List Int->Nat->(Nat->List Int)->Prop},vi qH2 G->F n kd ps ts 1 tt->yv2 K a G (.ref L) (.ref tx) (.ref q2) E F:=fun S h=>⟨_,.lst (S _ _ htx2),.inr ⟨L,n,lk,kd,tp,ps,rfl,S _ _ hL2,n1,n6,hR2.same S,.inr ⟨tx,ts,rfl,⟨S _ _ htx2,hts,by omega⟩,.inr ⟨1,1,_,tt,hpre S,by decide,by decide,by omega,h⟩⟩⟩⟩
  walk_at "rd"
  refine ⟨.ref L,.ref tx,.ref q2,rfl,pg (vi.refl _) fun F H4 hF0 hF4 S4=>?_⟩
  have hbits:=yfa tt 1
  have hF4:H4 F=some (.lst ((yni n kd ps (za tt 1) ts).map V.int)):=hF4
  have hol:=yol (kd:=kd) (ps:=ps) (ts:=ts) n1 n6 hbits (by omega)
  have hTb:Byt (yni n kd ps (za tt 1) ts):=ypx _
  obtain ⟨bk1,bk2,bk3⟩:=yns (kd:=kd) (ps:=ps) (pre:=za tt 1) (bs:=[]) n1 n6 hbits hts fun _ z=>(nomatch z)
  rw [List.append_nil] at bk1 bk2 bk3
  walk_at "rd"
  have S04:=S13.trans (qT0.trans S4)
  refine ycj (fun σ' G=>∃ OL:V,σ'=[some (.ref l),some (.int wy),some (.ref L),some (.ref tx),some (.ref q2),some (.ref F),some OL,none,none,none,none,none]/\(wy / 3 % 2=1->yj9 K G OL)/\(¬ wy / 3 % 2=1->OL=.ref L)/\vi H4 G) ?_ ?_
  ·walk_at "rd"
   refine zn (fun hb=>?_) (fun hb=>?_)
   ·walk_at "rd"
    refine ⟨l,ns,4,rfl,S04.seq hS,by decide,fun c4 c40 c41=>?_⟩
    walk_at "rd"
    refine ⟨c4,rfl,c40,fun v G hv SG=>?_⟩
    walk_at "rd"
    exact ⟨v,rfl,fun _=>hv,fun h=>absurd hb h,SG⟩
   ·walk_at "rd"
    exact ⟨_,rfl,fun h=>absurd h hb,fun _=>rfl,vi.refl _⟩
  rintro σ' H5 ⟨OL,rfl,hOL,hOL',S5⟩
  walk_at "rd"
  refine ⟨l,ns,5,rfl,(S04.trans S5).seq hS,by decide,fun c5 c50 c51=>?_⟩
  walk_at "rd"
  refine ⟨c5,rfl,c50,fun od no H6 tod hod hod' S6=>?_⟩
  walk_at "rd"
  have S46:=S5.trans S6
  have S26:=S4.trans S46
  refine ycj (fun σ' G=>∃ OX:V,σ'=[some (.ref l),some (.int wy),some (.ref L),some (.ref tx),some (.ref q2),some (.ref F),some OL,some od,some OX,none,none,none]/\(wy / 12 % 2=1->ypi K G OX)/\(¬ wy / 12 % 2=1->OX=.ref q2)/\vi H6 G) ?_ ?_
  ·walk_at "rd"
   refine zn (fun hb=>?_) (fun hb=>?_)
   ·walk_at "rd"
    refine ⟨l,ns,6,rfl,(S04.trans S46).seq hS,by decide,fun c6 c60 c61=>?_⟩
    walk_at "rd"
    refine ⟨c6,rfl,c60,fun oe ne G1 toe hoe _ SG1=>?_⟩
    walk_at "rd"
    refine ⟨by walk_at "len",fun p1 g1=>?_⟩
    with_reducible first | refine yh g1 fun G2 SG2 ep1=>?_ | refine yk g1 fun G2 SG2 ep1=>?_
    have hq2:=SG2 _ _ (SG1 _ _ (S26 _ _ qe2))
    refine ⟨q2,p1,_,_,rfl,rfl,hq2,ep1,ur (by show 2 <= 16000000; decide),fun p2 g2=>?_⟩
    with_reducible first | refine yh g2 fun G3 SG3 ep2=>?_ | refine yk g2 fun G3 SG3 ep2=>?_
    walk_at "rd"
    refine ⟨by walk_at "len",fun p3 g3=>?_⟩
    with_reducible first | refine yh g3 fun G4 SG4 ep3=>?_ | refine yk g3 fun G4 SG4 ep3=>?_
    walk_at "rd"
    refine ⟨by walk_at "len",fun p4 g4=>?_⟩
    with_reducible first | refine yh g4 fun G5 SG5 ep4=>?_ | refine yk g4 fun G5 SG5 ep4=>?_
    walk_at "rd"
    refine ⟨by walk_at "len",fun p5 g5=>?_⟩
    with_reducible first | refine yh g5 fun G6 SG6 ep5=>?_ | refine yk g5 fun G6 SG6 ep5=>?_
    have SG36:=SG4.trans (SG5.trans SG6)
    have SG26:=SG3.trans SG36
    walk_at "rd"
    refine ⟨p5,q2,_,_,rfl,rfl,ep5,SG26 _ _ hq2,ur (by show 2 <= 16000000; decide),fun p6 g6=>?_⟩
    with_reducible first | refine yh g6 fun G7 SG7 ep6=>?_ | refine yk g6 fun G7 SG7 ep6=>?_
    walk_at "rd"
    refine ⟨by walk_at "len",fun p7 g7=>?_⟩
    with_reducible first | refine yh g7 fun G8 SG8 ep7=>?_ | refine yk g7 fun G8 SG8 ep7=>?_
    have SG68:=SG7.trans SG8
    have SG18:=SG2.trans (SG26.trans SG68)
    have SG68':=SG1.trans SG18
    walk_at "rd"
    obtain ⟨v,hv,hav⟩:=yb9 (xs:=[V.ref p2,V.ref p3,V.str "",V.int 0,V.ref p6]) (i:=wy / 24 % 5) (Int.emod_nonneg _ (by decide)) (by show _ < (5:Int); exact Int.emod_lt_of_pos _ (by decide))
    refine j6 (SqL.of ep7) hav ?_
    walk_at "rd"
    refine ⟨v,rfl,fun _=>?_,fun h=>absurd hb h,SG68'⟩
    have S28:=S26.trans SG68'
    have hq1:ycf G8 q1 [x] 1000:=⟨S28 _ _ qe1,fun y hy=>by rw [List.mem_singleton.mp hy]; exact x0,by show 1 <= 1000; decide⟩
    simp only [List.mem_cons,List.not_mem_nil,or_false] at hv
    rcases hv with rfl | rfl | rfl | rfl | rfl
    ·exact .inr ⟨p2,1,fun _=>q1,fun _=>[x],oe,[],ne,rfl,SG68 _ _ (SG36 _ _ ep2),by decide,by decide,fun _ _=>hq1,xv SG18 toe,hoe.same SG18⟩
    ·exact .inl ⟨_,.tup (SG68 _ _ (SG6 _ _ (SG5 _ _ ep3))),by decide,fun z=>nomatch z⟩
    ·exact .inl ⟨_,.str _,by decide,fun z=>nomatch z⟩
    ·exact .inl ⟨_,.int _,by decide,fun z=>nomatch z⟩
    ·exact .inr ⟨p6,0,fun _=>0,fun _=>[],.ref p4,[.ref q1],"list",rfl,SG8 _ _ ep6,by decide,by show 1 <= 1000; decide,fun i hi=>absurd hi (Nat.not_lt_zero i),.lst (SG68 _ _ (SG6 _ _ ep4)),yyl (SG68 _ _ (SG6 _ _ ep4))⟩
   ·walk_at "rd"
    exact ⟨_,rfl,fun h=>absurd h hb,fun _=>rfl,vi.refl _⟩
  rintro σ' H7 ⟨OX,rfl,hOX,hOX',S7⟩
  have S57:=S6.trans S7
  have S47:=S5.trans S57
  have S27:=S4.trans S47
  have hOL7:wy / 3 % 2=1->yj9 K H7 OL:=fun h=>(hOL h).same S57
  have tod7:=xv S7 tod
  have hod7:=hod.same S7
  have hod7':=hod'.same S7
  have hF7:=S47 _ _ hF4
  have rg:∀ {G:Hp} {vt:V} {nt:String} {E:XK} {F':Nat->(Nat->Fin 3)->(Nat->List Int)->List Int->Nat->Nat->(Nat->List Int)->Addr->Prop},vi H7 G->xw K G vt (.type nt)->((yj9 K G OL/\∀ H',vi G H'->E (.ref a.C_NL) none H')\/(OL=.ref L/\((Bad K G vt nt 12000/\∀ H',vi G H'->E (.ref a.C_NY) none H')\/(vt=.ref F/\((ypi K G OX/\∀ H',vi G H'->E (.ref a.C_NT) none H')\/(OX=.ref q2/\F' n kd ps (yni n kd ps (za tt 1) ts) 3 1 tt F))))))->ype K a G OL vt (.int (3:Nat)) OX E F':=fun {G vt nt E F'} S t h=>by
   refine ⟨nt,_,t,.int _,?_⟩
   rcases h with h | ⟨rfl,h⟩
   ·exact .inl h
   refine .inr ⟨L,n,lk,kd,tp,ps,rfl,S _ _ (S27 _ _ hL2),n1,n6,(hR2.same S27).same S,?_⟩
   rcases h with h | ⟨rfl,h⟩
   ·exact .inl h
   refine .inr ⟨F,_,rfl,S _ _ hF7,hTb,by omega,.inr ⟨3,rfl,by decide,?_⟩⟩
   rcases h with h | ⟨rfl,h⟩
   ·exact .inl h
   ·exact .inr ⟨1,1,_,tt,hpre (S27.trans S),by decide,by decide,by decide,h⟩
  have pg2:∀ {G:Hp} {vt:V} {nt:String} {E:XK} {F':Nat->(Nat->Fin 3)->(Nat->List Int)->List Int->Nat->(Nat->List Int)->Prop},vi H7 G->xw K G vt (.type nt)->((yj9 K G OL/\∀ H',vi G H'->E (.ref a.C_NL) none H')\/(OL=.ref L/\((Bad K G vt nt 1000/\∀ H',vi G H'->E (.ref a.C_NT) none H')\/(vt=.ref tx/\((ypi K G OX/\∀ H',vi G H'->E (.ref a.C_NT) none H')\/(OX=.ref q2/\F' n kd ps ts 1 tt))))))->yv2 K a G OL vt OX E F':=fun {G vt nt E F'} S t h=>by
   refine ⟨nt,t,?_⟩
   rcases h with h | ⟨rfl,h⟩
   ·exact .inl h
   refine .inr ⟨L,n,lk,kd,tp,ps,rfl,S _ _ (S27 _ _ hL2),n1,n6,(hR2.same S27).same S,?_⟩
   rcases h with h | ⟨rfl,h⟩
   ·exact .inl h
   refine .inr ⟨tx,ts,rfl,⟨S _ _ (S27 _ _ htx2),hts,by omega⟩,?_⟩
   rcases h with h | ⟨rfl,h⟩
   ·exact .inl h
   ·exact .inr ⟨1,1,_,tt,hpre (S27.trans S),by decide,by decide,by omega,h⟩
  have carg:∀ {G:Hp} {i:Nat} {th:V} {Q:VK} {E:XK},i < 3->vi H7 G->th=(if wy / 6 % 2=1 then od else if i=0 then .ref tx else .ref F)->(yhi (wy / 3 % 2=1) (wy / 6 % 2=1) (wy / 12 % 2=1) i=""->∀ v H',vi G H'->Q v H') ->
    (∀ D wd H',wdR a D wd->wd=yhi (wy / 3 % 2=1) (wy / 6 % 2=1) (wy / 12 % 2=1) i->vi G H'->E (.ref D) none H')->yv0 K a G (i:Int) OL th OX Q E:=fun {G i th Q E} hi S eth kQ kE=>by
   have fg:∀ {c:Prop} [Decidable c] {x y:V},(¬ c)->(if c then x else y)=y:=fun h=>if_neg h
   by_cases bL:wy / 3 % 2=1
   ·have e:yhi (wy / 3 % 2=1) (wy / 6 % 2=1) (wy / 12 % 2=1) i="looks":=if_pos bL
    obtain ⟨nt,tth⟩:∃ nt,xw K G th (.type nt):=by
     rw [eth]
     split
     ·exact ⟨_,xv S tod7⟩
     ·split
      ·exact ⟨_,.lst (S _ _ (S27 _ _ htx2))⟩
      ·exact ⟨_,.lst (S _ _ hF7)⟩
    have hE:∀ H',vi G H'->E (.ref a.C_NL) none H':=fun H' S'=>kE _ "looks" H' (.inl ⟨rfl,rfl⟩) e.symm S'
    obtain rfl | rfl | rfl:i=0\/i=1\/i=2:=by omega
    ·exact .inl ⟨rfl,pg2 S tth (.inl ⟨(hOL7 bL).same S,hE⟩)⟩
    ·exact .inr (.inl ⟨rfl,rg S tth (.inl ⟨(hOL7 bL).same S,hE⟩)⟩)
    ·exact .inr (.inr ⟨rfl,rg S tth (.inl ⟨(hOL7 bL).same S,hE⟩)⟩)
   ·have eL:=hOL' bL
    by_cases bT:wy / 6 % 2=1
    ·have e:yhi (wy / 3 % 2=1) (wy / 6 % 2=1) (wy / 12 % 2=1) i=if i=0 then ("text":Str) else ("bytes":Str):=by unfold yhi; rw [if_neg bL,if_pos bT]
     rw [if_pos bT] at eth
     subst eth
     obtain rfl | rfl | rfl:i=0\/i=1\/i=2:=by omega
     ·exact .inl ⟨rfl,pg2 S (xv S tod7) (.inr ⟨eL,.inl ⟨hod7.same S,fun H' S'=>kE _ "text" H' (.inr (.inl ⟨rfl,rfl⟩)) e.symm S'⟩⟩)⟩
     ·exact .inr (.inl ⟨rfl,rg S (xv S tod7) (.inr ⟨eL,.inl ⟨hod7'.same S,fun H' S'=>kE _ "bytes" H' (.inr (.inr ⟨rfl,rfl⟩)) e.symm S'⟩⟩)⟩)
     ·exact .inr (.inr ⟨rfl,rg S (xv S tod7) (.inr ⟨eL,.inl ⟨hod7'.same S,fun H' S'=>kE _ "bytes" H' (.inr (.inr ⟨rfl,rfl⟩)) e.symm S'⟩⟩)⟩)
    ·rw [if_neg bT] at eth
     by_cases bX:wy / 12 % 2=1
     ·have e:yhi (wy / 3 % 2=1) (wy / 6 % 2=1) (wy / 12 % 2=1) i="text":=by unfold yhi; rw [if_neg bL,if_neg bT,if_pos bX]
      have hE:∀ H',vi G H'->E (.ref a.C_NT) none H':=fun H' S'=>kE _ "text" H' (.inr (.inl ⟨rfl,rfl⟩)) e.symm S'
      obtain rfl | rfl | rfl:i=0\/i=1\/i=2:=by omega
      ·rw [if_pos rfl] at eth
       subst eth
       exact .inl ⟨rfl,pg2 S (.lst (S _ _ (S27 _ _ htx2))) (.inr ⟨eL,.inr ⟨rfl,.inl ⟨(hOX bX).same S,hE⟩⟩⟩)⟩
      ·rw [if_neg (by decide)] at eth
       subst eth
       exact .inr (.inl ⟨rfl,rg S (.lst (S _ _ hF7)) (.inr ⟨eL,.inr ⟨rfl,.inl ⟨(hOX bX).same S,hE⟩⟩⟩)⟩)
      ·rw [if_neg (by decide)] at eth
       subst eth
       exact .inr (.inr ⟨rfl,rg S (.lst (S _ _ hF7)) (.inr ⟨eL,.inr ⟨rfl,.inl ⟨(hOX bX).same S,hE⟩⟩⟩)⟩)
     ·have e:yhi (wy / 3 % 2=1) (wy / 6 % 2=1) (wy / 12 % 2=1) i="":=by unfold yhi; rw [if_neg bL,if_neg bT,if_neg bX]
      obtain rfl | rfl | rfl:i=0\/i=1\/i=2:=by omega
      ·rw [if_pos rfl] at eth
       subst eth
       exact .inl ⟨rfl,pg2 S (.lst (S _ _ (S27 _ _ htx2))) (.inr ⟨eL,.inr ⟨rfl,.inr ⟨hOX' bX,fun r H' _ _ S'=>kQ e _ H' S'⟩⟩⟩)⟩
      ·rw [if_neg (by decide)] at eth
       subst eth
       exact .inr (.inl ⟨rfl,rg S (.lst (S _ _ hF7)) (.inr ⟨eL,.inr ⟨rfl,.inr ⟨hOX' bX,⟨fun M r H' _ _ _ _ _ S'=>kQ e _ H' S',fun hno H' S'=>(hno ts.length (by omega) bk1 bk3).elim⟩⟩⟩⟩)⟩)
      ·rw [if_neg (by decide)] at eth
       subst eth
       exact .inr (.inr ⟨rfl,rg S (.lst (S _ _ hF7)) (.inr ⟨eL,.inr ⟨rfl,.inr ⟨hOX' bX,⟨fun M t r H' _ _ _ _ _ _ S'=>kQ e _ H' S',fun hno H' S'=>(hno ts.length (by omega) bk1).elim⟩⟩⟩⟩)⟩)
  generalize hTT:yni n kd ps (za tt 1) ts=TT at *
  walk_at "rd"
  refine ⟨3,rfl,by decide,by decide,yb7 (n:=3) (fun i σ2 G=>∃ v1 v2 v3:Option V,σ2=[some (.ref l),some (.int wy),some (.ref L),some (.ref tx),some (.ref q2),some (.ref F),some OL,some od,some OX,v1,v2,v3]/\vi H7 G) ⟨_,_,_,rfl,vi.refl _⟩ ?_ ?_⟩
  ·rintro i σ2 G hi ⟨v1,v2,v3,rfl,SG⟩
   have e0:(0:Int)+(i:Int)=(i:Int):=Int.zero_add _
   rw [e0]
   walk_at "rd"
   refine ⟨by walk_at "len",fun p1 g1=>?_⟩
   with_reducible first | refine yh g1 fun G1 T1 ep1=>?_ | refine yk g1 fun G1 T1 ep1=>?_
   have hat:atI [V.ref tx,V.ref F,V.ref F] (i:Int)=some (if i=0 then .ref tx else .ref F):=by
    obtain rfl | rfl | rfl:i=0\/i=1\/i=2:=by omega
    ·rfl
    ·rfl
    ·rfl
   walk_at "rd"
   refine j6 (SqL.of ep1) hat ?_
   walk_at "rd"
   refine ycj (fun σ' G'=>G1=G'/\σ'=[some (.ref l),some (.int wy),some (.ref L),some (.ref tx),some (.ref q2),some (.ref F),some OL,some od,some OX,some (.int i),some (if i=0 then .ref tx else .ref F),some (.str (if wy / 12 % 2=1 then "text" else ""))]) ?_ ?_
   ·walk_at "rd"
    refine zn (fun hb=>?_) (fun hb=>?_)
    ·walk_at "rd"
     exact ⟨rfl,by rw [if_pos hb]⟩
    ·walk_at "rd"
     exact ⟨rfl,by rw [if_neg hb]⟩
   rintro σ' _ ⟨rfl,rfl⟩
   walk_at "rd"
   refine ycj (fun σ' G'=>vi G1 G'/\σ'=[some (.ref l),some (.int wy),some (.ref L),some (.ref tx),some (.ref q2),some (.ref F),some OL,some od,some OX,some (.int i),some (if wy / 6 % 2=1 then od else if i=0 then .ref tx else .ref F),some (.str (if wy / 6 % 2=1 then (if i=0 then "text" else "bytes") else if wy / 12 % 2=1 then "text" else ""))]) ?_ ?_
   ·walk_at "rd"
    refine zn (fun hb=>?_) (fun hb=>?_)
    ·walk_at "rd"
     refine ⟨by walk_at "len",fun p2 g2=>?_⟩
     with_reducible first | refine yh g2 fun G2 T2 ep2=>?_ | refine yk g2 fun G2 T2 ep2=>?_
     have hat2:atI [V.str "text",V.str "bytes",V.str "bytes"] (i:Int)=some (.str (if i=0 then "text" else "bytes")):=by
      obtain rfl | rfl | rfl:i=0\/i=1\/i=2:=by omega
      ·rfl
      ·rfl
      ·rfl
     walk_at "rd"
     refine j6 (SqL.of ep2) hat2 ?_
     walk_at "rd"
     exact ⟨T2,by rw [if_pos hb,if_pos hb]⟩
    ·walk_at "rd"
     exact ⟨vi.refl _,by rw [if_neg hb,if_neg hb]⟩
   rintro σ' G2 ⟨T2,rfl⟩
   walk_at "rd"
   refine ycj (fun σ' G'=>G2=G'/\σ'=[some (.ref l),some (.int wy),some (.ref L),some (.ref tx),some (.ref q2),some (.ref F),some OL,some od,some OX,some (.int i),some (if wy / 6 % 2=1 then od else if i=0 then .ref tx else .ref F),some (.str (yhi (wy / 3 % 2=1) (wy / 6 % 2=1) (wy / 12 % 2=1) i))]) ?_ ?_
   ·walk_at "rd"
    refine zn (fun hb=>?_) (fun hb=>?_)
    ·walk_at "rd"
     exact ⟨rfl,by unfold yhi; rw [if_pos hb]⟩
    ·walk_at "rd"
     exact ⟨rfl,by unfold yhi; rw [if_neg hb]⟩
   rintro σ' _ ⟨rfl,rfl⟩
   have S72:=SG.trans (T1.trans T2)
   have carg':=fun {G:Hp} {Q:VK} {E:XK} (S:vi H7 G)=>carg (G:=G) (i:=i) (Q:=Q) (E:=E) hi S rfl
   generalize (if wy / 6 % 2=1 then od else if i=0 then V.ref tx else V.ref F)=th at carg'
   have hdu:yhi (wy / 3 % 2=1) (wy / 6 % 2=1) (wy / 12 % 2=1) i=""\/yhi (wy / 3 % 2=1) (wy / 6 % 2=1) (wy / 12 % 2=1) i≠"":=Decidable.em _
   generalize yhi (wy / 3 % 2=1) (wy / 6 % 2=1) (wy / 12 % 2=1) i=du at carg' hdu
   have word:∀ {Q:VK} {E:XK},(∀ G3,vi G2 G3->Q (.str du) G3)->yhk K a [.int (i:Int),OL,th,OX] G2 Q E:=fun h=>⟨i,OL,th,OX,rfl,carg' S72 (fun e v H' S'=>by have:=h H' S'; rw [e] at this; exact this) fun D wd H' hw e S'=>⟨D,wd,rfl,hw,fun H'' S''=>by rw [e]; exact h H'' (S'.trans S'')⟩⟩
   walk_at "rd"
   refine word fun G3 T3=>?_
   walk_at "rd"
   refine ⟨rfl,?_⟩
   rw [decide_eq_true rfl]
   walk_at "rd"
   refine ⟨rfl,?_⟩
   have fin:∀ {G4:Hp},vi G3 G4->∃ v1 v2 v3:Option V,[some (V.ref l),some (V.int wy),some (V.ref L),some (V.ref tx),some (V.ref q2),some (V.ref F),some OL,some od,some OX,some (.int i),some th,some (.str du)]=[some (.ref l),some (.int wy),some (.ref L),some (.ref tx),some (.ref q2),some (.ref F),some OL,some od,some OX,v1,v2,v3]/\vi H7 G4:=fun S=>⟨_,_,_,rfl,S72.trans (T3.trans S)⟩
   rcases hdu with hdu | hdu
   ·rw [hdu,decide_eq_true rfl]
    walk_at "rd"
    rw [hdu] at fin
    exact fin (vi.refl _)
   ·rw [decide_eq_false (fun z=>hdu (V.str.inj z))]
    walk_at "rd"
    refine ⟨i,OL,th,OX,rfl,carg' (S72.trans T3) (fun e=>absurd e hdu) fun D wd H' hw _ S'=>⟨D,wd,rfl,hw,fun H'' S''=>?_⟩⟩
    walk_at "rd"
    exact fin (S'.trans S'')
  ·rintro σ2 G ⟨v1,v2,v3,rfl,SG⟩
   have S2G:=S27.trans SG
   walk_at "rd"
   refine ⟨.ref L,.ref tx,.ref q2,rfl,pg S2G fun F2 G2 hF20 hF22 T2=>?_⟩
   have hF22:G2 F2=some (.lst ((yni n kd ps (za tt 1) ts).map V.int)):=hF22
   rw [hTT] at hF22
   walk_at "rd"
   refine ytz (sdI hF22) (sdI (T2 _ _ (SG _ _ hF7))) (by decide) ?_
   have S22:=S2G.trans T2
   have S72:=SG.trans T2
   have ra:∀ {G:Hp} {E:XK} {F':Nat->(Nat->Fin 3)->(Nat->List Int)->List Int->Nat->Nat->(Nat->List Int)->Addr->Prop},vi H7 G->F' n kd ps TT 3 1 tt F->ype K a G (.ref L) (.ref F) (.int (3:Nat)) (.ref q2) E F':=fun S h=>⟨_,_,.lst (S _ _ hF7),.int _,.inr ⟨L,n,lk,kd,tp,ps,rfl,S _ _ (S27 _ _ hL2),n1,n6,(hR2.same S27).same S,.inr ⟨F,_,rfl,S _ _ hF7,hTb,by omega,.inr ⟨3,rfl,by decide,.inr ⟨1,1,_,tt,hpre (S27.trans S),by decide,by decide,by decide,h⟩⟩⟩⟩⟩
   walk_at "rd"
   refine ⟨.ref L,.ref F,.int (3:Nat),.ref q2,rfl,ra S72 ⟨fun M r G3 hM hok he hr0 hr3 T3=>?_,fun hno G3 T3=>(hno _ (by omega) bk1 bk3).elim⟩⟩
   obtain rfl:M=ts.length:=bk1.uniq hok.b1 hok.b0
   rw [bk2] at hr3
   walk_at "rd"
   refine ytz (sdI hr3) (sdI (T3 _ _ (S22 _ _ htx2))) (by decide) ?_
   walk_at "rd"
   refine ⟨.ref L,.ref F,.int (3:Nat),.ref q2,rfl,ra (S72.trans T3) ⟨fun M t r G4 hM hok ht0 hr0 ht4 hr4 T4=>?_,fun hno G4 T4=>(hno _ (by omega) bk1).elim⟩⟩
   obtain rfl:M=ts.length:=bk1.uniq hok.b1 hok.b0
   rw [bk2] at hr4
   rw [bk3] at ht4
   have S74:=S72.trans (T3.trans T4)
   walk_at "rd"
   refine yap (SqL.of (S74 _ _ hF7)) ?_
   rw [List.length_map]
   walk_at "rd"
   refine ⟨by walk_at "len",fun p8 g8=>?_⟩
   with_reducible first | refine yh g8 fun G5 T5 ep8=>?_ | refine yk g8 fun G5 T5 ep8=>?_
   refine ytz (Sd.tup (SqT.of (T5 _ _ ht4)) (.cons (sdI (T5 _ _ hr4)) (.cons (Sd.int _) .nil))) (Sd.tup (SqT.of ep8) (.cons (sdI (T5 _ _ (S74 _ _ (S27 _ _ htx2)))) (.cons (Sd.int _) .nil))) (by decide) ?_
   exact k _
end
theorem all_mk {l:W.OpenLaw} {w:World} {K:W.Frag} {h:Heap} {mg:Str->Option Value} {fa:Addr} (X:K.In h) (G:h.Ns mainGlobals mg) (hfa:mg "law"=some (.ref fa))
  {C_Even:Addr}
  {C_Quick:Addr}
  {C_Run:Addr}
  {C_Mx:Addr}
  {C_Book:Addr}
  {C_Span:Addr}
  {C_Ft:Addr}
  {C_Sk:Addr}
  {C_NT:Addr}
  {C_NY:Addr}
  {C_NoMost:Addr}
  {C_NC:Addr}
  {C_NB:Addr}
  {C_NL:Addr}
  {C_NP:Addr}
  {C_Full:Addr}
  {C_InUse:Addr}
  {C_NoName:Addr}
  {C_NoPiece:Addr}
  {C_NoShelf:Addr}
  {C_NoWords:Addr}
  {C_Taken:Addr}
  {C_TooLong:Addr}
  {C_ForetellError:Addr}
  {f_q1 f_q2 f_q3 f_q4 f_q5 f_q6 f_q7 f_q8 f_q9 f_q10 f_q11 f_q12 f_q13 f_q14 f_q15 f_q16 f_q17 f_q18 f_q19 f_q20 f_q21 f_q22 f_q23 f_q24 f_q25 f_q26 f_q27 f_q28 f_q29 f_q30 f_q31 f_q32 f_q33 f_q34 f_q35 f_q36 f_q37 f_q38 f_q39 f_q40 f_q41 f_q42 f_q43 f_q44 f_q45 f_q46 f_q47 f_q48 f_q49 f_q50 f_q51 f_q52 f_q53 f_q54 f_q55 f_q56 f_q57 f_q59 f_q60 f_q61 f_q62 f_q65 f_q66 f_q67 f_q68 f_q69 f_q70 f_q71 f_q72 f_law:Addr} {d_q1 d_q2 d_q3 d_q4 d_q5 d_q6 d_q7 d_q8 d_q9 d_q10 d_q11 d_q12 d_q13 d_q14 d_q15 d_q16 d_q17 d_q18 d_q19 d_q20 d_q21 d_q22 d_q23 d_q24 d_q25 d_q26 d_q27 d_q28 d_q29 d_q30 d_q31 d_q32 d_q33 d_q34 d_q35 d_q36 d_q37 d_q38 d_q39 d_q40 d_q41 d_q42 d_q43 d_q44 d_q45 d_q46 d_q47 d_q48 d_q49 d_q50 d_q51 d_q52 d_q53 d_q54 d_q55 d_q56 d_q57 d_q59 d_q60 d_q61 d_q62 d_q65 d_q66 d_q67 d_q68 d_q69 d_q70 d_q71 d_q72 d_law:FuncData}
  {f_q58:Addr} {oc_q58 kV_q58 dc_q58 pm_q58 cd_q58 ct_q58:Value} {od_q58 an_q58:Option Addr} {sl_q58:Array (Option Value)}
  {D_q58:Addr} {Do_q58:Option Addr} {Dn_q58:Nat} {Ds_q58:Array (Option Value)}
  {f_q63:Addr} {oc_q63 kV_q63 dc_q63 pm_q63 cd_q63 ct_q63:Value} {od_q63 an_q63:Option Addr} {sl_q63:Array (Option Value)}
  {D_q63:Addr} {Do_q63:Option Addr} {Dn_q63:Nat} {Ds_q63:Array (Option Value)} {Dt_q63_0:Tok}
  {f_q64:Addr} {oc_q64 kV_q64 dc_q64 pm_q64 cd_q64 ct_q64:Value} {od_q64 an_q64:Option Addr} {sl_q64:Array (Option Value)}
  {D_q64:Addr} {Do_q64:Option Addr} {Dn_q64:Nat} {Ds_q64:Array (Option Value)} {Dt_q64_0:Tok}
  {t_LEAST:Tok}
  {t_ONE:Tok}
  {t_MOST_SIGNS:Tok}
  {t_MOST_BYTES:Tok}
  {t_MOST_COUNTED:Tok}
  {t_FARTHEST:Tok}
  {t_MOST_PLACES:Tok}
  {t_MOST_LOOKS:Tok}
  {t_NO_SIGN:Tok}
  {t_FIRST_WEIGHT:Tok}
  {t_OWN_PARTS:Tok}
  {t_MOST_FIGURES:Tok}
  {t_NODES_END:Tok}
  {t_FIRST_WIDTH:Tok}
  {t_FIRST_SIZE:Tok}
  {t_LEAST_WIDTH:Tok}
  {W_WORTHS:Addr} {wd_WORTHS:Option Addr} {wn_WORTHS:Nat} {ws_WORTHS:Array (Option Value)} {wt_WORTHS_0 wt_WORTHS_1 wt_WORTHS_2 wt_WORTHS_3 wt_WORTHS_4 wt_WORTHS_5 wt_WORTHS_6 wt_WORTHS_7:Tok}
  {W_KINDS:Addr} {wd_KINDS:Option Addr} {wn_KINDS:Nat} {ws_KINDS:Array (Option Value)} {wt_KINDS_0 wt_KINDS_1 wt_KINDS_2:Tok}
  (aC_Even:W.nsIn K mainGlobals "Even"=some (some (.ref C_Even)))
  (aC_Quick:W.nsIn K mainGlobals "Quick"=some (some (.ref C_Quick)))
  (aC_Run:W.nsIn K mainGlobals "Run"=some (some (.ref C_Run)))
  (aC_Mx:W.nsIn K mainGlobals "Mixer"=some (some (.ref C_Mx)))
  (aC_Book:W.nsIn K mainGlobals "Book"=some (some (.ref C_Book)))
  (aC_Span:W.nsIn K mainGlobals "Span"=some (some (.ref C_Span)))
  (aC_Ft:W.nsIn K mainGlobals "Foreteller"=some (some (.ref C_Ft)))
  (aC_Sk:W.nsIn K mainGlobals "Seeker"=some (some (.ref C_Sk)))
  (aC_NT:W.nsIn K mainGlobals "NoText"=some (some (.ref C_NT)))
  (aC_NY:W.nsIn K mainGlobals "NoBytes"=some (some (.ref C_NY)))
  (aC_NoMost:W.nsIn K mainGlobals "NoMost"=some (some (.ref C_NoMost)))
  (aC_NC:W.nsIn K mainGlobals "NoChance"=some (some (.ref C_NC)))
  (aC_NB:W.nsIn K mainGlobals "NoBit"=some (some (.ref C_NB)))
  (aC_NL:W.nsIn K mainGlobals "NoLooks"=some (some (.ref C_NL)))
  (aC_NP:W.nsIn K mainGlobals "NoPress"=some (some (.ref C_NP)))
  (aC_Full:W.nsIn K mainGlobals "Full"=some (some (.ref C_Full)))
  (aC_InUse:W.nsIn K mainGlobals "InUse"=some (some (.ref C_InUse)))
  (aC_NoName:W.nsIn K mainGlobals "NoName"=some (some (.ref C_NoName)))
  (aC_NoPiece:W.nsIn K mainGlobals "NoPiece"=some (some (.ref C_NoPiece)))
  (aC_NoShelf:W.nsIn K mainGlobals "NoShelf"=some (some (.ref C_NoShelf)))
  (aC_NoWords:W.nsIn K mainGlobals "NoWords"=some (some (.ref C_NoWords)))
  (aC_Taken:W.nsIn K mainGlobals "Taken"=some (some (.ref C_Taken)))
  (aC_TooLong:W.nsIn K mainGlobals "TooLong"=some (some (.ref C_TooLong)))
  (aC_ForetellError:W.nsIn K mainGlobals "ForetellError"=some (some (.ref C_ForetellError)))
  (y_q1:Dgf K mg "is_whole" vcr f_q1 d_q1)
  (y_q2:Dgf K mg "is_bit" vc1 f_q2 d_q2)
  (y_q3:Dgf K mg "is_chance" vcv f_q3 d_q3)
  (y_q4:Dgf K mg "is_sign" vc0 f_q4 d_q4)
  (y_q5:Dgf K mg "is_list_of_signs" vcy f_q5 d_q5)
  (y_q6:Dgf K mg "checked_text" vcu f_q6 d_q6)
  (y_q7:Dgf K mg "checked_bytes" vc2 f_q7 d_q7)
  (y_q8:Dgf K mg "check_most" vcs f_q8 d_q8)
  (y_q9:Dgf K mg "check_chance" vcq f_q9 d_q9)
  (y_q10:Dgf K mg "check_bit" yus f_q10 d_q10)
  (y_q11:Dgf K mg "gives" yvf f_q11 d_q11)
  (y_q12:Dgf K mg "bits_of" yvx f_q12 d_q12)
  (y_q13:Dgf K mg "decisions_of" yt9 f_q13 d_q13)
  (y_q14:Dgm K C_Even "__init__" "Even.__init__" yud f_q14 d_q14)
  (y_q15:Dgm K C_Even "chance" "Even.chance" yvg f_q15 d_q15)
  (y_q16:Dgm K C_Even "seen" "Even.seen" yvp f_q16 d_q16)
  (y_q17:Dgm K C_Quick "__init__" "Quick.__init__" yvl f_q17 d_q17)
  (y_q18:Dgm K C_Quick "chance" "Quick.chance" yt0 f_q18 d_q18)
  (y_q19:Dgm K C_Quick "seen" "Quick.seen" yt6 f_q19 d_q19)
  (y_q20:Dgm K C_Run "__init__" "Run.__init__" yt3 f_q20 d_q20)
  (y_q21:Dgm K C_Run "chance" "Run.chance" yu5 f_q21 d_q21)
  (y_q22:Dgm K C_Run "seen" "Run.seen" yvt f_q22 d_q22)
  (y_q23:Dgf K mg "slot_of" yuu f_q23 d_q23)
  (y_q24:Dgf K mg "is_kind" yub f_q24 d_q24)
  (y_q25:Dgf K mg "is_place" yu1 f_q25 d_q25)
  (y_q26:Dgf K mg "are_places" yuo f_q26 d_q26)
  (y_q27:Dgf K mg "is_look" yvu f_q27 d_q27)
  (y_q28:Dgf K mg "checked_looks" yum f_q28 d_q28)
  (y_q29:Dgf K mg "sign_back" yvc f_q29 d_q29)
  (y_q30:Dgf K mg "context_of" yvs f_q30 d_q30)
  (y_q31:Dgm K C_Book "__init__" "Book.__init__" ytt f_q31 d_q31)
  (y_q32:Dgm K C_Book "slot_at" "Book.slot_at" yvj f_q32 d_q32)
  (y_q33:Dgm K C_Mx "__init__" "Mixer.__init__" ytu f_q33 d_q33)
  (y_q34:Dgm K C_Mx "mixed" "Mixer.mixed" yu4 f_q34 d_q34)
  (y_q35:Dgm K C_Mx "learn" "Mixer.learn" yuf f_q35 d_q35)
  (y_q36:Dgm K C_Ft "__init__" "Foreteller.__init__" ytv f_q36 d_q36)
  (y_q37:Dgm K C_Ft "arrive" "Foreteller.arrive" ytw f_q37 d_q37)
  (y_q38:Dgm K C_Ft "chances" "Foreteller.chances" yvo f_q38 d_q38)
  (y_q39:Dgm K C_Ft "chance" "Foreteller.chance" yu2 f_q39 d_q39)
  (y_q40:Dgm K C_Ft "see" "Foreteller.see" yvk f_q40 d_q40)
  (y_q41:Dgm K C_Ft "step" "Foreteller.step" yu7 f_q41 d_q41)
  (y_q42:Dgm K C_Ft "step_in_sign" "Foreteller.step_in_sign" yup f_q42 d_q42)
  (y_q43:Dgf K mg "written" yul f_q43 d_q43)
  (y_q44:Dgf K mg "first_block" yut f_q44 d_q44)
  (y_q45:Dgm K C_Span "__init__" "Span.__init__" yvm f_q45 d_q45)
  (y_q46:Dgm K C_Span "cut" "Span.cut" yvv f_q46 d_q46)
  (y_q47:Dgm K C_Span "narrow" "Span.narrow" yvw f_q47 d_q47)
  (y_q48:Dgm K C_Span "holds_block" "Span.holds_block" yvd f_q48 d_q48)
  (y_q49:Dgm K C_Span "told" "Span.told" yu8 f_q49 d_q49)
  (y_q50:Dgm K C_Sk "__init__" "Seeker.__init__" yt7 f_q50 d_q50)
  (y_q51:Dgm K C_Sk "follow" "Seeker.follow" ytx f_q51 d_q51)
  (y_q52:Dgm K C_Sk "byte_at" "Seeker.byte_at" yvi f_q52 d_q52)
  (y_q53:Dgm K C_Sk "bit" "Seeker.bit" yu6 f_q53 d_q53)
  (y_q54:Dgm K C_Sk "told" "Seeker.told" yvb f_q54 d_q54)
  (y_q55:Dgf K mg "checked_learned" yui f_q55 d_q55)
  (y_q56:Dgf K mg "teach" yur f_q56 d_q56)
  (y_q57:Dgf K mg "press_by" yva f_q57 d_q57)
  (a_q58:W.nsIn K mainGlobals "pressed"=some (some (.ref f_q58)))
  (l_q58:K.lookup f_q58=some ⟨oc_q58,od_q58,.func (W.fnOf "pressed" "pressed" (xb yj3) (wx yj3) (yj yj3) (.ref D_q58) kV_q58 dc_q58 pm_q58 an_q58 cd_q58 ct_q58),sl_q58⟩)
  (ld_q58:K.lookup D_q58=some ⟨.type "tuple",Do_q58,.seq #[.none] Dn_q58,Ds_q58⟩)
  (c_q58:W.codeIn K cd_q58 "pressed"=true)
  (k_q58:W.keepIn K (.ref f_q58)=true)
  (y_q59:Dgf K mg "bit_by" yu0 f_q59 d_q59)
  (y_q60:Dgf K mg "sign_by" yuv f_q60 d_q60)
  (y_q61:Dgf K mg "text_by" yuk f_q61 d_q61)
  (y_q62:Dgf K mg "read_by" yuc f_q62 d_q62)
  (a_q63:W.nsIn K mainGlobals "read_first"=some (some (.ref f_q63)))
  (l_q63:K.lookup f_q63=some ⟨oc_q63,od_q63,.func (W.fnOf "read_first" "read_first" (xb yj2) (wx yj2) (yj yj2) (.ref D_q63) kV_q63 dc_q63 pm_q63 an_q63 cd_q63 ct_q63),sl_q63⟩)
  (ld_q63:K.lookup D_q63=some ⟨.type "tuple",Do_q63,.seq #[.int 1000 Dt_q63_0,.none] Dn_q63,Ds_q63⟩)
  (c_q63:W.codeIn K cd_q63 "read_first"=true)
  (k_q63:W.keepIn K (.ref f_q63)=true)
  (a_q64:W.nsIn K mainGlobals "read"=some (some (.ref f_q64)))
  (l_q64:K.lookup f_q64=some ⟨oc_q64,od_q64,.func (W.fnOf "read" "read" (xb yj0) (wx yj0) (yj yj0) (.ref D_q64) kV_q64 dc_q64 pm_q64 an_q64 cd_q64 ct_q64),sl_q64⟩)
  (ld_q64:K.lookup D_q64=some ⟨.type "tuple",Do_q64,.seq #[.int 1000 Dt_q64_0,.none] Dn_q64,Ds_q64⟩)
  (c_q64:W.codeIn K cd_q64 "read"=true)
  (k_q64:W.keepIn K (.ref f_q64)=true)
  (y_q65:Dgf K mg "_law_mixed" yux f_q65 d_q65)
  (y_q66:Dgf K mg "_law_looks" yvq f_q66 d_q66)
  (y_q67:Dgf K mg "_law_text" yuz f_q67 d_q67)
  (y_q68:Dgf K mg "_law_odd_looks" yt4 f_q68 d_q68)
  (y_q69:Dgf K mg "_law_odd_text" yuh f_q69 d_q69)
  (y_q70:Dgf K mg "_law_call" yue f_q70 d_q70)
  (y_q71:Dgf K mg "_law_word" yuy f_q71 d_q71)
  (y_q72:Dgf K mg "_law_any" yt8 f_q72 d_q72)
  (y_law:Dgf K mg "law" yuq f_law d_law)
  (pg_Even:W.plainGet K C_Even Str.empty=true)
  (hd_Even:W.hasDictIn K C_Even=true)
  (po_Even:W.plainOver K C_Even=true)
  (sa_Even:W.findIn K (.ref C_Even) "__setattr__"=some (some (.builtin "object.__setattr__")))
  (mk_Even:W.makesIn K C_Even=true)
  (kc_Even:W.keepIn K (.ref C_Even)=true)
  (n_Even_noughts:W.findIn K (.ref C_Even) "noughts"=some none)
  (n_Even_ones:W.findIn K (.ref C_Even) "ones"=some none)
  (pg_Quick:W.plainGet K C_Quick Str.empty=true)
  (hd_Quick:W.hasDictIn K C_Quick=true)
  (po_Quick:W.plainOver K C_Quick=true)
  (sa_Quick:W.findIn K (.ref C_Quick) "__setattr__"=some (some (.builtin "object.__setattr__")))
  (mk_Quick:W.makesIn K C_Quick=true)
  (kc_Quick:W.keepIn K (.ref C_Quick)=true)
  (n_Quick_held:W.findIn K (.ref C_Quick) "held"=some none)
  (pg_Run:W.plainGet K C_Run Str.empty=true)
  (hd_Run:W.hasDictIn K C_Run=true)
  (po_Run:W.plainOver K C_Run=true)
  (sa_Run:W.findIn K (.ref C_Run) "__setattr__"=some (some (.builtin "object.__setattr__")))
  (mk_Run:W.makesIn K C_Run=true)
  (kc_Run:W.keepIn K (.ref C_Run)=true)
  (n_Run_last:W.findIn K (.ref C_Run) "last"=some none)
  (n_Run_length:W.findIn K (.ref C_Run) "length"=some none)
  (pg_Mx:W.plainGet K C_Mx Str.empty=true)
  (hd_Mx:W.hasDictIn K C_Mx=true)
  (po_Mx:W.plainOver K C_Mx=true)
  (sa_Mx:W.findIn K (.ref C_Mx) "__setattr__"=some (some (.builtin "object.__setattr__")))
  (mk_Mx:W.makesIn K C_Mx=true)
  (kc_Mx:W.keepIn K (.ref C_Mx)=true)
  (n_Mx_kept:W.findIn K (.ref C_Mx) "kept"=some none)
  (pg_Book:W.plainGet K C_Book Str.empty=true)
  (hd_Book:W.hasDictIn K C_Book=true)
  (po_Book:W.plainOver K C_Book=true)
  (sa_Book:W.findIn K (.ref C_Book) "__setattr__"=some (some (.builtin "object.__setattr__")))
  (mk_Book:W.makesIn K C_Book=true)
  (kc_Book:W.keepIn K (.ref C_Book)=true)
  (n_Book_look:W.findIn K (.ref C_Book) "look"=some none)
  (n_Book_slots:W.findIn K (.ref C_Book) "slots"=some none)
  (pg_Span:W.plainGet K C_Span Str.empty=true)
  (hd_Span:W.hasDictIn K C_Span=true)
  (po_Span:W.plainOver K C_Span=true)
  (sa_Span:W.findIn K (.ref C_Span) "__setattr__"=some (some (.builtin "object.__setattr__")))
  (mk_Span:W.makesIn K C_Span=true)
  (kc_Span:W.keepIn K (.ref C_Span)=true)
  (n_Span_low:W.findIn K (.ref C_Span) "low"=some none)
  (n_Span_width:W.findIn K (.ref C_Span) "width"=some none)
  (n_Span_size:W.findIn K (.ref C_Span) "size"=some none)
  (pg_Ft:W.plainGet K C_Ft Str.empty=true)
  (hd_Ft:W.hasDictIn K C_Ft=true)
  (po_Ft:W.plainOver K C_Ft=true)
  (sa_Ft:W.findIn K (.ref C_Ft) "__setattr__"=some (some (.builtin "object.__setattr__")))
  (mk_Ft:W.makesIn K C_Ft=true)
  (kc_Ft:W.keepIn K (.ref C_Ft)=true)
  (n_Ft_looks:W.findIn K (.ref C_Ft) "looks"=some none)
  (n_Ft_books:W.findIn K (.ref C_Ft) "books"=some none)
  (n_Ft_mixer:W.findIn K (.ref C_Ft) "mixer"=some none)
  (n_Ft_ended:W.findIn K (.ref C_Ft) "ended"=some none)
  (n_Ft_place:W.findIn K (.ref C_Ft) "place"=some none)
  (n_Ft_present:W.findIn K (.ref C_Ft) "present"=some none)
  (pg_Sk:W.plainGet K C_Sk Str.empty=true)
  (hd_Sk:W.hasDictIn K C_Sk=true)
  (po_Sk:W.plainOver K C_Sk=true)
  (sa_Sk:W.findIn K (.ref C_Sk) "__setattr__"=some (some (.builtin "object.__setattr__")))
  (mk_Sk:W.makesIn K C_Sk=true)
  (kc_Sk:W.keepIn K (.ref C_Sk)=true)
  (n_Sk_data:W.findIn K (.ref C_Sk) "data"=some none)
  (n_Sk_span:W.findIn K (.ref C_Sk) "span"=some none)
  (n_Sk_number:W.findIn K (.ref C_Sk) "number"=some none)
  (n_Sk_reached:W.findIn K (.ref C_Sk) "reached"=some none)
  (x_NT:XCls K C_NT)
  (r_NT:W.excIn K C_NT [.type "ValueError",.type "Exception",.type "BaseException",.type "object"] "ValueError.__new__"=true)
  (x_NY:XCls K C_NY)
  (r_NY:W.excIn K C_NY [.type "ValueError",.type "Exception",.type "BaseException",.type "object"] "ValueError.__new__"=true)
  (x_NoMost:XCls K C_NoMost)
  (r_NoMost:W.excIn K C_NoMost [.type "ValueError",.type "Exception",.type "BaseException",.type "object"] "ValueError.__new__"=true)
  (x_NC:XCls K C_NC)
  (r_NC:W.excIn K C_NC [.type "ValueError",.type "Exception",.type "BaseException",.type "object"] "ValueError.__new__"=true)
  (x_NB:XCls K C_NB)
  (r_NB:W.excIn K C_NB [.type "ValueError",.type "Exception",.type "BaseException",.type "object"] "ValueError.__new__"=true)
  (x_NL:XCls K C_NL)
  (r_NL:W.excIn K C_NL [.type "ValueError",.type "Exception",.type "BaseException",.type "object"] "ValueError.__new__"=true)
  (x_NP:XCls K C_NP)
  (r_NP:W.excIn K C_NP [.type "ValueError",.type "Exception",.type "BaseException",.type "object"] "ValueError.__new__"=true)
  (eb_ForetellError:W.subIn K (.ref C_ForetellError) (.type "BaseException")=some true)
  (ed_ForetellError:W.hasDictIn K C_ForetellError=true)
  (et_ForetellError:W.typeIn K (.ref C_ForetellError)=some (.type "type"))
  (em_NT_ForetellError:W.subIn K (.ref C_NT) (.ref C_ForetellError)=some true)
  (em_NY_ForetellError:W.subIn K (.ref C_NY) (.ref C_ForetellError)=some true)
  (em_NB_ForetellError:W.subIn K (.ref C_NB) (.ref C_ForetellError)=some true)
  (em_NL_ForetellError:W.subIn K (.ref C_NL) (.ref C_ForetellError)=some true)
  (eb_Full:W.subIn K (.ref C_Full) (.type "BaseException")=some true)
  (ed_Full:W.hasDictIn K C_Full=true)
  (et_Full:W.typeIn K (.ref C_Full)=some (.type "type"))
  (em_NT_Full:W.subIn K (.ref C_NT) (.ref C_Full)=some false)
  (em_NY_Full:W.subIn K (.ref C_NY) (.ref C_Full)=some false)
  (em_NL_Full:W.subIn K (.ref C_NL) (.ref C_Full)=some false)
  (eb_InUse:W.subIn K (.ref C_InUse) (.type "BaseException")=some true)
  (ed_InUse:W.hasDictIn K C_InUse=true)
  (et_InUse:W.typeIn K (.ref C_InUse)=some (.type "type"))
  (em_NT_InUse:W.subIn K (.ref C_NT) (.ref C_InUse)=some false)
  (em_NY_InUse:W.subIn K (.ref C_NY) (.ref C_InUse)=some false)
  (em_NL_InUse:W.subIn K (.ref C_NL) (.ref C_InUse)=some false)
  (eb_NB:W.subIn K (.ref C_NB) (.type "BaseException")=some true)
  (ed_NB:W.hasDictIn K C_NB=true)
  (et_NB:W.typeIn K (.ref C_NB)=some (.type "type"))
  (em_NT_NB:W.subIn K (.ref C_NT) (.ref C_NB)=some false)
  (em_NY_NB:W.subIn K (.ref C_NY) (.ref C_NB)=some false)
  (em_NL_NB:W.subIn K (.ref C_NL) (.ref C_NB)=some false)
  (eb_NY:W.subIn K (.ref C_NY) (.type "BaseException")=some true)
  (ed_NY:W.hasDictIn K C_NY=true)
  (et_NY:W.typeIn K (.ref C_NY)=some (.type "type"))
  (em_NY_NY:W.subIn K (.ref C_NY) (.ref C_NY)=some true)
  (eb_NC:W.subIn K (.ref C_NC) (.type "BaseException")=some true)
  (ed_NC:W.hasDictIn K C_NC=true)
  (et_NC:W.typeIn K (.ref C_NC)=some (.type "type"))
  (em_NT_NC:W.subIn K (.ref C_NT) (.ref C_NC)=some false)
  (em_NY_NC:W.subIn K (.ref C_NY) (.ref C_NC)=some false)
  (em_NL_NC:W.subIn K (.ref C_NL) (.ref C_NC)=some false)
  (eb_NL:W.subIn K (.ref C_NL) (.type "BaseException")=some true)
  (ed_NL:W.hasDictIn K C_NL=true)
  (et_NL:W.typeIn K (.ref C_NL)=some (.type "type"))
  (em_NT_NL:W.subIn K (.ref C_NT) (.ref C_NL)=some false)
  (em_NY_NL:W.subIn K (.ref C_NY) (.ref C_NL)=some false)
  (em_NL_NL:W.subIn K (.ref C_NL) (.ref C_NL)=some true)
  (eb_NoMost:W.subIn K (.ref C_NoMost) (.type "BaseException")=some true)
  (ed_NoMost:W.hasDictIn K C_NoMost=true)
  (et_NoMost:W.typeIn K (.ref C_NoMost)=some (.type "type"))
  (em_NT_NoMost:W.subIn K (.ref C_NT) (.ref C_NoMost)=some false)
  (em_NY_NoMost:W.subIn K (.ref C_NY) (.ref C_NoMost)=some false)
  (em_NL_NoMost:W.subIn K (.ref C_NL) (.ref C_NoMost)=some false)
  (eb_NoName:W.subIn K (.ref C_NoName) (.type "BaseException")=some true)
  (ed_NoName:W.hasDictIn K C_NoName=true)
  (et_NoName:W.typeIn K (.ref C_NoName)=some (.type "type"))
  (em_NT_NoName:W.subIn K (.ref C_NT) (.ref C_NoName)=some false)
  (em_NY_NoName:W.subIn K (.ref C_NY) (.ref C_NoName)=some false)
  (em_NL_NoName:W.subIn K (.ref C_NL) (.ref C_NoName)=some false)
  (eb_NoPiece:W.subIn K (.ref C_NoPiece) (.type "BaseException")=some true)
  (ed_NoPiece:W.hasDictIn K C_NoPiece=true)
  (et_NoPiece:W.typeIn K (.ref C_NoPiece)=some (.type "type"))
  (em_NT_NoPiece:W.subIn K (.ref C_NT) (.ref C_NoPiece)=some false)
  (em_NY_NoPiece:W.subIn K (.ref C_NY) (.ref C_NoPiece)=some false)
  (em_NL_NoPiece:W.subIn K (.ref C_NL) (.ref C_NoPiece)=some false)
  (eb_NP:W.subIn K (.ref C_NP) (.type "BaseException")=some true)
  (ed_NP:W.hasDictIn K C_NP=true)
  (et_NP:W.typeIn K (.ref C_NP)=some (.type "type"))
  (em_NT_NP:W.subIn K (.ref C_NT) (.ref C_NP)=some false)
  (em_NY_NP:W.subIn K (.ref C_NY) (.ref C_NP)=some false)
  (em_NL_NP:W.subIn K (.ref C_NL) (.ref C_NP)=some false)
  (eb_NoShelf:W.subIn K (.ref C_NoShelf) (.type "BaseException")=some true)
  (ed_NoShelf:W.hasDictIn K C_NoShelf=true)
  (et_NoShelf:W.typeIn K (.ref C_NoShelf)=some (.type "type"))
  (em_NT_NoShelf:W.subIn K (.ref C_NT) (.ref C_NoShelf)=some false)
  (em_NY_NoShelf:W.subIn K (.ref C_NY) (.ref C_NoShelf)=some false)
  (em_NL_NoShelf:W.subIn K (.ref C_NL) (.ref C_NoShelf)=some false)
  (eb_NT:W.subIn K (.ref C_NT) (.type "BaseException")=some true)
  (ed_NT:W.hasDictIn K C_NT=true)
  (et_NT:W.typeIn K (.ref C_NT)=some (.type "type"))
  (em_NT_NT:W.subIn K (.ref C_NT) (.ref C_NT)=some true)
  (em_NY_NT:W.subIn K (.ref C_NY) (.ref C_NT)=some false)
  (eb_NoWords:W.subIn K (.ref C_NoWords) (.type "BaseException")=some true)
  (ed_NoWords:W.hasDictIn K C_NoWords=true)
  (et_NoWords:W.typeIn K (.ref C_NoWords)=some (.type "type"))
  (em_NT_NoWords:W.subIn K (.ref C_NT) (.ref C_NoWords)=some false)
  (em_NY_NoWords:W.subIn K (.ref C_NY) (.ref C_NoWords)=some false)
  (em_NL_NoWords:W.subIn K (.ref C_NL) (.ref C_NoWords)=some false)
  (eb_Taken:W.subIn K (.ref C_Taken) (.type "BaseException")=some true)
  (ed_Taken:W.hasDictIn K C_Taken=true)
  (et_Taken:W.typeIn K (.ref C_Taken)=some (.type "type"))
  (em_NT_Taken:W.subIn K (.ref C_NT) (.ref C_Taken)=some false)
  (em_NY_Taken:W.subIn K (.ref C_NY) (.ref C_Taken)=some false)
  (em_NL_Taken:W.subIn K (.ref C_NL) (.ref C_Taken)=some false)
  (eb_TooLong:W.subIn K (.ref C_TooLong) (.type "BaseException")=some true)
  (ed_TooLong:W.hasDictIn K C_TooLong=true)
  (et_TooLong:W.typeIn K (.ref C_TooLong)=some (.type "type"))
  (em_NT_TooLong:W.subIn K (.ref C_NT) (.ref C_TooLong)=some false)
  (em_NY_TooLong:W.subIn K (.ref C_NY) (.ref C_TooLong)=some false)
  (em_NL_TooLong:W.subIn K (.ref C_NL) (.ref C_TooLong)=some false)
  (ki_NT_ValueError:W.kitOne K (.ref C_NT) (.type "ValueError")=some true)
  (ka_NT_0:W.kitAny K (.ref C_NT) [.ref C_NL,.ref C_NT]=some true)
  (ka_NT_1:W.kitAny K (.ref C_NT) [.ref C_NL,.ref C_NY]=some false)
  (ki_NY_ValueError:W.kitOne K (.ref C_NY) (.type "ValueError")=some true)
  (ka_NY_0:W.kitAny K (.ref C_NY) [.ref C_NL,.ref C_NT]=some false)
  (ki_NB_ValueError:W.kitOne K (.ref C_NB) (.type "ValueError")=some true)
  (ki_NL_ValueError:W.kitOne K (.ref C_NL) (.type "ValueError")=some true)
  (ka_NL_2:W.kitAny K (.ref C_NL) [.ref C_NT,.ref C_NY]=some false)
  (z_isinstance:W.nsIn K mainGlobals "isinstance"=some none)
  (z_int:W.nsIn K mainGlobals "int"=some none)
  (z_bool:W.nsIn K mainGlobals "bool"=some none)
  (z_list:W.nsIn K mainGlobals "list"=some none)
  (z_all:W.nsIn K mainGlobals "all"=some none)
  (z_len:W.nsIn K mainGlobals "len"=some none)
  (z_min:W.nsIn K mainGlobals "min"=some none)
  (z_max:W.nsIn K mainGlobals "max"=some none)
  (z_str:W.nsIn K mainGlobals "str"=some none)
  (z_tuple:W.nsIn K mainGlobals "tuple"=some none)
  (z_zip:W.nsIn K mainGlobals "zip"=some none)
  (z_sum:W.nsIn K mainGlobals "sum"=some none)
  (z_range:W.nsIn K mainGlobals "range"=some none)
  (z_ValueError:W.nsIn K mainGlobals "ValueError"=some none)
  (v_LEAST:W.nsIn K mainGlobals "LEAST"=some (some (.int 32768 t_LEAST)))
  (v_ONE:W.nsIn K mainGlobals "ONE"=some (some (.int 16777216 t_ONE)))
  (v_MOST_SIGNS:W.nsIn K mainGlobals "MOST_SIGNS"=some (some (.int 1000 t_MOST_SIGNS)))
  (v_MOST_BYTES:W.nsIn K mainGlobals "MOST_BYTES"=some (some (.int 12000 t_MOST_BYTES)))
  (v_MOST_COUNTED:W.nsIn K mainGlobals "MOST_COUNTED"=some (some (.int 255 t_MOST_COUNTED)))
  (v_FARTHEST:W.nsIn K mainGlobals "FARTHEST"=some (some (.int 8 t_FARTHEST)))
  (v_MOST_PLACES:W.nsIn K mainGlobals "MOST_PLACES"=some (some (.int 4 t_MOST_PLACES)))
  (v_MOST_LOOKS:W.nsIn K mainGlobals "MOST_LOOKS"=some (some (.int 6 t_MOST_LOOKS)))
  (v_NO_SIGN:W.nsIn K mainGlobals "NO_SIGN"=some (some (.int 256 t_NO_SIGN)))
  (v_FIRST_WEIGHT:W.nsIn K mainGlobals "FIRST_WEIGHT"=some (some (.int 1099511627776 t_FIRST_WEIGHT)))
  (v_OWN_PARTS:W.nsIn K mainGlobals "OWN_PARTS"=some (some (.int 31 t_OWN_PARTS)))
  (v_MOST_FIGURES:W.nsIn K mainGlobals "MOST_FIGURES"=some (some (.int 48 t_MOST_FIGURES)))
  (v_NODES_END:W.nsIn K mainGlobals "NODES_END"=some (some (.int 256 t_NODES_END)))
  (v_FIRST_WIDTH:W.nsIn K mainGlobals "FIRST_WIDTH"=some (some (.int 1099511627776 t_FIRST_WIDTH)))
  (v_FIRST_SIZE:W.nsIn K mainGlobals "FIRST_SIZE"=some (some (.int 5 t_FIRST_SIZE)))
  (v_LEAST_WIDTH:W.nsIn K mainGlobals "LEAST_WIDTH"=some (some (.int 4294967296 t_LEAST_WIDTH)))
  (wa_WORTHS:W.nsIn K mainGlobals "WORTHS"=some (some (.ref W_WORTHS)))
  (wl_WORTHS:K.lookup W_WORTHS=some ⟨.type "tuple",wd_WORTHS,.seq #[.int 128 wt_WORTHS_0,.int 64 wt_WORTHS_1,.int 32 wt_WORTHS_2,.int 16 wt_WORTHS_3,.int 8 wt_WORTHS_4,.int 4 wt_WORTHS_5,.int 2 wt_WORTHS_6,.int 1 wt_WORTHS_7] wn_WORTHS,ws_WORTHS⟩)
  (wa_KINDS:W.nsIn K mainGlobals "KINDS"=some (some (.ref W_KINDS)))
  (wl_KINDS:K.lookup W_KINDS=some ⟨.type "tuple",wd_KINDS,.seq #[.str "even" wt_KINDS_0,.str "quick" wt_KINDS_1,.str "run" wt_KINDS_2] wn_KINDS,ws_KINDS⟩)
 :∃ fd:FuncData,(∀ (s:Shared) (v:Value),BindsTo s fd ⟨[v],[]⟩ [("_law_script",v)])/\∀ base:Heap,K.In base->base.Ns mainGlobals mg->wv l.prog w K mg base CX0 15 fa fd ["_law_script"] (yii K):=by
 have e:=hfa.symm.trans y_law.m
 cases e
 have F_q58:=yg0 (st:=yj3) l_q58 c_q58 k_q58
 have F_q63:=yg0 (st:=yj2) l_q63 c_q63 k_q63
 have F_q64:=yg0 (st:=yj0) l_q64 c_q64 k_q64
 have T:Txt K mg ⟨f_q1,d_q1,f_q2,d_q2,f_q3,d_q3,f_q4,d_q4,f_q5,d_q5,f_q6,d_q6,f_q7,d_q7,f_q8,d_q8,f_q9,d_q9,f_q10,d_q10,f_q11,d_q11,f_q12,d_q12,f_q13,d_q13,f_q14,d_q14,f_q15,d_q15,f_q16,d_q16,f_q17,d_q17,f_q18,d_q18,f_q19,d_q19,f_q20,d_q20,f_q21,d_q21,f_q22,d_q22,f_q23,d_q23,f_q24,d_q24,f_q25,d_q25,f_q26,d_q26,f_q27,d_q27,f_q28,d_q28,f_q29,d_q29,f_q30,d_q30,f_q31,d_q31,f_q32,d_q32,f_q33,d_q33,f_q34,d_q34,f_q35,d_q35,f_q36,d_q36,f_q37,d_q37,f_q38,d_q38,f_q39,d_q39,f_q40,d_q40,f_q41,d_q41,f_q42,d_q42,f_q43,d_q43,f_q44,d_q44,f_q45,d_q45,f_q46,d_q46,f_q47,d_q47,f_q48,d_q48,f_q49,d_q49,f_q50,d_q50,f_q51,d_q51,f_q52,d_q52,f_q53,d_q53,f_q54,d_q54,f_q55,d_q55,f_q56,d_q56,f_q57,d_q57,f_q58,_,D_q58,f_q59,d_q59,f_q60,d_q60,f_q61,d_q61,f_q62,d_q62,f_q63,_,D_q63,Dt_q63_0,f_q64,_,D_q64,Dt_q64_0,f_q65,d_q65,f_q66,d_q66,f_q67,d_q67,f_q68,d_q68,f_q69,d_q69,f_q70,d_q70,f_q71,d_q71,f_q72,d_q72,fa,d_law,C_Even,C_Quick,C_Run,C_Mx,C_Book,C_Span,C_Ft,C_Sk,C_NT,C_NY,C_NoMost,C_NC,C_NB,C_NL,C_NP,C_Full,C_InUse,C_NoName,C_NoPiece,C_NoShelf,C_NoWords,C_Taken,C_TooLong,C_ForetellError,t_LEAST,t_ONE,t_MOST_SIGNS,t_MOST_BYTES,t_MOST_COUNTED,t_FARTHEST,t_MOST_PLACES,t_MOST_LOOKS,t_NO_SIGN,t_FIRST_WEIGHT,t_OWN_PARTS,t_MOST_FIGURES,t_NODES_END,t_FIRST_WIDTH,t_FIRST_SIZE,t_LEAST_WIDTH,W_WORTHS,W_KINDS⟩:=⟨
  y_q1.d1 fun _ _ _ _ _ _ _=>rfl,
  y_q2.d1 fun _ _ _ _ _ _ _=>rfl,
  y_q3.d1 fun _ _ _ _ _ _ _=>rfl,
  y_q4.d1 fun _ _ _ _ _ _ _=>rfl,
  y_q5.d2 fun _ _ _ _ _ _ _ _=>rfl,
  y_q6.d1 fun _ _ _ _ _ _ _=>rfl,
  y_q7.d1 fun _ _ _ _ _ _ _=>rfl,
  y_q8.d1 fun _ _ _ _ _ _ _=>rfl,
  y_q9.d1 fun _ _ _ _ _ _ _=>rfl,
  y_q10.d1 fun _ _ _ _ _ _ _=>rfl,
  y_q11.d2 fun _ _ _ _ _ _ _ _=>rfl,
  y_q12.d1 fun _ _ _ _ _ _ _=>rfl,
  y_q13.d1 fun _ _ _ _ _ _ _=>rfl,
  y_q14.d1 fun _ _ _ _ _ _ _=>rfl,
  y_q15.d1 fun _ _ _ _ _ _ _=>rfl,
  y_q16.d2 fun _ _ _ _ _ _ _ _=>rfl,
  y_q17.d1 fun _ _ _ _ _ _ _=>rfl,
  y_q18.d1 fun _ _ _ _ _ _ _=>rfl,
  y_q19.d2 fun _ _ _ _ _ _ _ _=>rfl,
  y_q20.d1 fun _ _ _ _ _ _ _=>rfl,
  y_q21.d1 fun _ _ _ _ _ _ _=>rfl,
  y_q22.d2 fun _ _ _ _ _ _ _ _=>rfl,
  y_q23.d1 fun _ _ _ _ _ _ _=>rfl,
  y_q24.d1 fun _ _ _ _ _ _ _=>rfl,
  y_q25.d1 fun _ _ _ _ _ _ _=>rfl,
  y_q26.d1 fun _ _ _ _ _ _ _=>rfl,
  y_q27.d1 fun _ _ _ _ _ _ _=>rfl,
  y_q28.d1 fun _ _ _ _ _ _ _=>rfl,
  y_q29.d2 fun _ _ _ _ _ _ _ _=>rfl,
  y_q30.d3 fun _ _ _ _ _ _ _ _ _=>rfl,
  y_q31.d2 fun _ _ _ _ _ _ _ _=>rfl,
  y_q32.d3 fun _ _ _ _ _ _ _ _ _=>rfl,
  y_q33.d2 fun _ _ _ _ _ _ _ _=>rfl,
  y_q34.d2 fun _ _ _ _ _ _ _ _=>rfl,
  y_q35.d3 fun _ _ _ _ _ _ _ _ _=>rfl,
  y_q36.d2 fun _ _ _ _ _ _ _ _=>rfl,
  y_q37.d1 fun _ _ _ _ _ _ _=>rfl,
  y_q38.d1 fun _ _ _ _ _ _ _=>rfl,
  y_q39.d1 fun _ _ _ _ _ _ _=>rfl,
  y_q40.d2 fun _ _ _ _ _ _ _ _=>rfl,
  y_q41.d2 fun _ _ _ _ _ _ _ _=>rfl,
  y_q42.d2 fun _ _ _ _ _ _ _ _=>rfl,
  y_q43.d2 fun _ _ _ _ _ _ _ _=>rfl,
  y_q44.d2 fun _ _ _ _ _ _ _ _=>rfl,
  y_q45.d1 fun _ _ _ _ _ _ _=>rfl,
  y_q46.d2 fun _ _ _ _ _ _ _ _=>rfl,
  y_q47.d3 fun _ _ _ _ _ _ _ _ _=>rfl,
  y_q48.d2 fun _ _ _ _ _ _ _ _=>rfl,
  y_q49.d1 fun _ _ _ _ _ _ _=>rfl,
  y_q50.d2 fun _ _ _ _ _ _ _ _=>rfl,
  y_q51.d1 fun _ _ _ _ _ _ _=>rfl,
  y_q52.d2 fun _ _ _ _ _ _ _ _=>rfl,
  y_q53.d2 fun _ _ _ _ _ _ _ _=>rfl,
  y_q54.d1 fun _ _ _ _ _ _ _=>rfl,
  y_q55.d1 fun _ _ _ _ _ _ _=>rfl,
  y_q56.d2 fun _ _ _ _ _ _ _ _=>rfl,
  y_q57.d2 fun _ _ _ _ _ _ _ _=>rfl,
  F_q58,
  yfs.binds (ps:=["looks","text","learned"]) (ds:=[.none]) (j:=2) rfl F_q58 ld_q58 rfl fun _ _ _ _ _ _ us hl=>match us,hl with | [_,_],_=>⟨_,rfl,rfl⟩,
  yfs.binds (ps:=["looks","text","learned"]) (ds:=[]) (j:=3) rfl F_q58 ld_q58 rfl fun _ _ _ _ _ _ us hl=>match us,hl with | [_,_,_],_=>⟨_,rfl,rfl⟩,
  W.mg_of X G a_q58,
  y_q59.d2 fun _ _ _ _ _ _ _ _=>rfl,
  y_q60.d2 fun _ _ _ _ _ _ _ _=>rfl,
  y_q61.d3 fun _ _ _ _ _ _ _ _ _=>rfl,
  y_q62.d3 fun _ _ _ _ _ _ _ _ _=>rfl,
  F_q63,
  yfs.binds (ps:=["looks","data","most","learned"]) (ds:=[.none]) (j:=3) rfl F_q63 ld_q63 rfl fun _ _ _ _ _ _ us hl=>match us,hl with | [_,_,_],_=>⟨_,rfl,rfl⟩,
  yfs.binds (ps:=["looks","data","most","learned"]) (ds:=[.int 1000 Dt_q63_0,.none]) (j:=2) rfl F_q63 ld_q63 rfl fun _ _ _ _ _ _ us hl=>match us,hl with | [_,_],_=>⟨_,rfl,rfl⟩,
  yfs.binds (ps:=["looks","data","most","learned"]) (ds:=[]) (j:=4) rfl F_q63 ld_q63 rfl fun _ _ _ _ _ _ us hl=>match us,hl with | [_,_,_,_],_=>⟨_,rfl,rfl⟩,
  W.mg_of X G a_q63,
  F_q64,
  yfs.binds (ps:=["looks","data","most","learned"]) (ds:=[.none]) (j:=3) rfl F_q64 ld_q64 rfl fun _ _ _ _ _ _ us hl=>match us,hl with | [_,_,_],_=>⟨_,rfl,rfl⟩,
  yfs.binds (ps:=["looks","data","most","learned"]) (ds:=[.int 1000 Dt_q64_0,.none]) (j:=2) rfl F_q64 ld_q64 rfl fun _ _ _ _ _ _ us hl=>match us,hl with | [_,_],_=>⟨_,rfl,rfl⟩,
  yfs.binds (ps:=["looks","data","most","learned"]) (ds:=[]) (j:=4) rfl F_q64 ld_q64 rfl fun _ _ _ _ _ _ us hl=>match us,hl with | [_,_,_,_],_=>⟨_,rfl,rfl⟩,
  W.mg_of X G a_q64,
  y_q65.d2 fun _ _ _ _ _ _ _ _=>rfl,
  y_q66.d2 fun _ _ _ _ _ _ _ _=>rfl,
  y_q67.d3 fun _ _ _ _ _ _ _ _ _=>rfl,
  y_q68.d1 fun _ _ _ _ _ _ _=>rfl,
  y_q69.d1 fun _ _ _ _ _ _ _=>rfl,
  y_q70.d4 fun _ _ _ _ _ _ _ _ _ _=>rfl,
  y_q71.d4 fun _ _ _ _ _ _ _ _ _ _=>rfl,
  y_q72.d4 fun _ _ _ _ _ _ _ _ _ _=>rfl,
  y_law.d1 fun _ _ _ _ _ _ _=>rfl,
  ⟨pg_Even,hd_Even,po_Even,sa_Even⟩,
  W.mg_of X G aC_Even,
  ⟨mk_Even,y_q14.m.1,y_q14.m.2,kc_Even⟩,
  n_Even_noughts,
  n_Even_ones,
  ⟨pg_Quick,hd_Quick,po_Quick,sa_Quick⟩,
  W.mg_of X G aC_Quick,
  ⟨mk_Quick,y_q17.m.1,y_q17.m.2,kc_Quick⟩,
  n_Quick_held,
  ⟨pg_Run,hd_Run,po_Run,sa_Run⟩,
  W.mg_of X G aC_Run,
  ⟨mk_Run,y_q20.m.1,y_q20.m.2,kc_Run⟩,
  n_Run_last,
  n_Run_length,
  ⟨pg_Mx,hd_Mx,po_Mx,sa_Mx⟩,
  W.mg_of X G aC_Mx,
  ⟨mk_Mx,y_q33.m.1,y_q33.m.2,kc_Mx⟩,
  n_Mx_kept,
  ⟨pg_Book,hd_Book,po_Book,sa_Book⟩,
  W.mg_of X G aC_Book,
  ⟨mk_Book,y_q31.m.1,y_q31.m.2,kc_Book⟩,
  n_Book_look,
  n_Book_slots,
  ⟨pg_Span,hd_Span,po_Span,sa_Span⟩,
  W.mg_of X G aC_Span,
  ⟨mk_Span,y_q45.m.1,y_q45.m.2,kc_Span⟩,
  n_Span_low,
  n_Span_width,
  n_Span_size,
  ⟨pg_Ft,hd_Ft,po_Ft,sa_Ft⟩,
  W.mg_of X G aC_Ft,
  ⟨mk_Ft,y_q36.m.1,y_q36.m.2,kc_Ft⟩,
  n_Ft_looks,
  n_Ft_books,
  n_Ft_mixer,
  n_Ft_ended,
  n_Ft_place,
  n_Ft_present,
  ⟨pg_Sk,hd_Sk,po_Sk,sa_Sk⟩,
  W.mg_of X G aC_Sk,
  ⟨mk_Sk,y_q50.m.1,y_q50.m.2,kc_Sk⟩,
  n_Sk_data,
  n_Sk_span,
  n_Sk_number,
  n_Sk_reached,
  W.mg_of X G aC_NT,
  W.mg_of X G aC_NY,
  W.mg_of X G aC_NoMost,
  W.mg_of X G aC_NC,
  W.mg_of X G aC_NB,
  W.mg_of X G aC_NL,
  W.mg_of X G aC_NP,
  W.mg_of X G aC_Full,
  W.mg_of X G aC_InUse,
  W.mg_of X G aC_NoName,
  W.mg_of X G aC_NoPiece,
  W.mg_of X G aC_NoShelf,
  W.mg_of X G aC_NoWords,
  W.mg_of X G aC_Taken,
  W.mg_of X G aC_TooLong,
  W.mg_of X G aC_ForetellError,
  x_NT,
  r_NT,
  x_NY,
  r_NY,
  x_NoMost,
  r_NoMost,
  x_NC,
  r_NC,
  x_NB,
  r_NB,
  x_NL,
  r_NL,
  x_NP,
  r_NP,
  ki_NT_ValueError,
  ka_NT_0,
  ka_NT_1,
  ycb eb_ForetellError ed_ForetellError et_ForetellError em_NT_ForetellError,
  vp eb_Full ed_Full et_Full em_NT_Full,
  vp eb_InUse ed_InUse et_InUse em_NT_InUse,
  vp eb_NB ed_NB et_NB em_NT_NB,
  vp eb_NC ed_NC et_NC em_NT_NC,
  vp eb_NL ed_NL et_NL em_NT_NL,
  vp eb_NoMost ed_NoMost et_NoMost em_NT_NoMost,
  vp eb_NoName ed_NoName et_NoName em_NT_NoName,
  vp eb_NoPiece ed_NoPiece et_NoPiece em_NT_NoPiece,
  vp eb_NP ed_NP et_NP em_NT_NP,
  vp eb_NoShelf ed_NoShelf et_NoShelf em_NT_NoShelf,
  ycb eb_NT ed_NT et_NT em_NT_NT,
  vp eb_NoWords ed_NoWords et_NoWords em_NT_NoWords,
  vp eb_Taken ed_Taken et_Taken em_NT_Taken,
  vp eb_TooLong ed_TooLong et_TooLong em_NT_TooLong,
  ki_NY_ValueError,
  ka_NY_0,
  ycb eb_ForetellError ed_ForetellError et_ForetellError em_NY_ForetellError,
  vp eb_Full ed_Full et_Full em_NY_Full,
  vp eb_InUse ed_InUse et_InUse em_NY_InUse,
  vp eb_NB ed_NB et_NB em_NY_NB,
  ycb eb_NY ed_NY et_NY em_NY_NY,
  vp eb_NC ed_NC et_NC em_NY_NC,
  vp eb_NL ed_NL et_NL em_NY_NL,
  vp eb_NoMost ed_NoMost et_NoMost em_NY_NoMost,
  vp eb_NoName ed_NoName et_NoName em_NY_NoName,
  vp eb_NoPiece ed_NoPiece et_NoPiece em_NY_NoPiece,
  vp eb_NP ed_NP et_NP em_NY_NP,
  vp eb_NoShelf ed_NoShelf et_NoShelf em_NY_NoShelf,
  vp eb_NT ed_NT et_NT em_NY_NT,
  vp eb_NoWords ed_NoWords et_NoWords em_NY_NoWords,
  vp eb_Taken ed_Taken et_Taken em_NY_Taken,
  vp eb_TooLong ed_TooLong et_TooLong em_NY_TooLong,
  ki_NB_ValueError,
  ycb eb_ForetellError ed_ForetellError et_ForetellError em_NB_ForetellError,
  ki_NL_ValueError,
  ka_NL_2,
  ycb eb_ForetellError ed_ForetellError et_ForetellError em_NL_ForetellError,
  vp eb_Full ed_Full et_Full em_NL_Full,
  vp eb_InUse ed_InUse et_InUse em_NL_InUse,
  vp eb_NB ed_NB et_NB em_NL_NB,
  vp eb_NC ed_NC et_NC em_NL_NC,
  ycb eb_NL ed_NL et_NL em_NL_NL,
  vp eb_NoMost ed_NoMost et_NoMost em_NL_NoMost,
  vp eb_NoName ed_NoName et_NoName em_NL_NoName,
  vp eb_NoPiece ed_NoPiece et_NoPiece em_NL_NoPiece,
  vp eb_NP ed_NP et_NP em_NL_NP,
  vp eb_NoShelf ed_NoShelf et_NoShelf em_NL_NoShelf,
  vp eb_NoWords ed_NoWords et_NoWords em_NL_NoWords,
  vp eb_Taken ed_Taken et_Taken em_NL_Taken,
  vp eb_TooLong ed_TooLong et_TooLong em_NL_TooLong,
  W.mg_none_of X G z_isinstance,
  W.mg_none_of X G z_int,
  W.mg_none_of X G z_bool,
  W.mg_none_of X G z_list,
  W.mg_none_of X G z_all,
  W.mg_none_of X G z_len,
  W.mg_none_of X G z_min,
  W.mg_none_of X G z_max,
  W.mg_none_of X G z_str,
  W.mg_none_of X G z_tuple,
  W.mg_none_of X G z_zip,
  W.mg_none_of X G z_sum,
  W.mg_none_of X G z_range,
  W.mg_none_of X G z_ValueError,
  W.mg_of X G v_LEAST,
  W.mg_of X G v_ONE,
  W.mg_of X G v_MOST_SIGNS,
  W.mg_of X G v_MOST_BYTES,
  W.mg_of X G v_MOST_COUNTED,
  W.mg_of X G v_FARTHEST,
  W.mg_of X G v_MOST_PLACES,
  W.mg_of X G v_MOST_LOOKS,
  W.mg_of X G v_NO_SIGN,
  W.mg_of X G v_FIRST_WEIGHT,
  W.mg_of X G v_OWN_PARTS,
  W.mg_of X G v_MOST_FIGURES,
  W.mg_of X G v_NODES_END,
  W.mg_of X G v_FIRST_WIDTH,
  W.mg_of X G v_FIRST_SIZE,
  W.mg_of X G v_LEAST_WIDTH,
  W.mg_of X G wa_WORTHS,
  fun H=>.inr ⟨_,_,_,wl_WORTHS,rfl,rfl,(by show 8 <= sizeLine; decide),(.cons ⟨_,rfl⟩ (.cons ⟨_,rfl⟩ (.cons ⟨_,rfl⟩ (.cons ⟨_,rfl⟩ (.cons ⟨_,rfl⟩ (.cons ⟨_,rfl⟩ (.cons ⟨_,rfl⟩ (.cons ⟨_,rfl⟩ .nil))))))))⟩,
  W.mg_of X G wa_KINDS,
  fun H=>.inr ⟨_,_,_,wl_KINDS,rfl,rfl,(by show 3 <= sizeLine; decide),(.cons ⟨_,rfl⟩ (.cons ⟨_,rfl⟩ (.cons ⟨_,rfl⟩ .nil)))⟩⟩
 refine ⟨d_law,fun s v=>?_,fun base _ _=>yz3 T⟩
 obtain ⟨_,_,_,_,_,_,_,_,_,rfl,_,_⟩:=y_law.F.ex
 exact .of_eq rfl
theorem walk {l:W.OpenLaw} {q:Program} {loose:List Str} {XP:(Str->Option Value)->Heap->Prop} {YP:World->Heap->Prop} {d:DefRec} {K:Params->W.Frag} (hn:l.most=some 63) (hdf:d.params.defaults=[])
  (hY:∀ (w:World) (h:Heap),YP w h->(K w.params).In h)
  (F:∀ (w:World) (mg:Str->Option Value) (fa:Addr) (h:Heap),(K w.params).In h->h.Ns mainGlobals mg->mg d.name=some (.ref fa) ->
   ∃ fd:FuncData,(∀ (s:Shared) (u:Value),BindsTo s fd ⟨[u],[]⟩ [("_law_script",u)])/\∀ base:Heap,(K w.params).In base->base.Ns mainGlobals mg->wv l.prog w (K w.params) mg base CX0 15 fa fd ["_law_script"] (yii (K w.params))) :
  W.WalkO q loose XP YP l.row.toRowW d [] (fun f vs=>PySem.call f vs) :=
 L2.walk_of (n:=63) (k:=15) (x:="_law_script") (CX:=fun _=>CX0) (sp:=fun w=>yii (K w.params)) hn (by decide) hdf ⟨rfl,by decide,by decide⟩ hY F (fun _ _ a ns hl _ hS=>⟨a,ns,rfl,hS,hl,fun _=>rfl⟩) fun _ _ _ _ _ z=>z
end Law
open PySem PySem.W PyProof.Rows
def PySem.W.Fast.tw7634382085589449301 : Unit := ()
def PySem.W.Fast.tw15535339226186508746 : Unit := ()
def PySem.W.Fast.tw11213388692986259535 : Unit := ()
def PySem.W.Fast.tw13248689144487125497 : Unit := ()
def PySem.W.Fast.tw17389896773802827614 : Unit := ()
def PySem.W.Fast.tw9989846387854500630 : Unit := ()
def PySem.W.Fast.tw432312981679319439 : Unit := ()
def PySem.W.Fast.tw18204812454336512752 : Unit := ()
def PySem.W.Fast.tw8999631773077263892 : Unit := ()
def PySem.W.Fast.tw15141172521745929437 : Unit := ()
def PySem.W.Fast.tw10760243375435545618 : Unit := ()
def PySem.W.Fast.tw6115177175239599431 : Unit := ()
def PySem.W.Fast.tw13903453664187262627 : Unit := ()
def PySem.W.Fast.tw12764873656824882296 : Unit := ()
def PySem.W.Fast.tw16134411154333021120 : Unit := ()
def PySem.W.Fast.tw6186226621877956154 : Unit := ()
def PySem.W.Fast.tw6967069341586634146 : Unit := ()
def PySem.W.Fast.tw15177667482938122919 : Unit := ()
def PySem.W.Fast.tw9555485181971596817 : Unit := ()
def PySem.W.Fast.tw17783642967074305605 : Unit := ()
def PySem.W.Fast.tw5800709754132666573 : Unit := ()
def PySem.W.Fast.tw2637844876180553165 : Unit := ()
def PySem.W.Fast.tw10165864516578015119 : Unit := ()
def PySem.W.Fast.tw9959511141736820325 : Unit := ()
def PySem.W.Fast.tw4997506453313905310 : Unit := ()
def PySem.W.Fast.tw13557924234669077183 : Unit := ()
def PySem.W.Fast.tw8598735811034391322 : Unit := ()
def PySem.W.Fast.tw7585783853815761969 : Unit := ()
def PySem.W.Fast.tw7064833941930847219 : Unit := ()
def PySem.W.Fast.tw9220745092276123868 : Unit := ()
def PySem.W.Fast.tw18249137384619218434 : Unit := ()
def PySem.W.Fast.tw2844081151096870202 : Unit := ()
def PySem.W.Fast.tw5683347557966024846 : Unit := ()
namespace PySem.W.Fast
def tw12638759985043882244:Unit:=()
def tw5245805616193915354:Unit:=()
def tw9834148392376384176:Unit:=()
def tw13430455343645216552:Unit:=()
def tw6383167820992321626:Unit:=()
def tw15577195891872318447:Unit:=()
def tw17982261614922952708:Unit:=()
def tw4909450467472101272:Unit:=()
def tw15158487586725160899:Unit:=()
def tw11249446465178276778:Unit:=()
def tw990423807729295699:Unit:=()
def tw18214296754333372925:Unit:=()
def tw10500720577479193011:Unit:=()
def tw1251665704797679014:Unit:=()
def tw8431658405781341059:Unit:=()
def tw18105882726748418051:Unit:=()
def tw18196233452467755895:Unit:=()
def tw14095710191548216152:Unit:=()
def tw17675193703624564334:Unit:=()
def tw12607729844099915523:Unit:=()
def tw16187566527157603465:Unit:=()
def tw789998350201395064:Unit:=()
def tw5502809239989120845:Unit:=()
def tw13243519785590493744:Unit:=()
def tw15010479978780629549:Unit:=()
def tw11141623015049580334:Unit:=()
def tw1542580284507281838:Unit:=()
def tw3591514572874401879:Unit:=()
def tw15235695850268128215:Unit:=()
def tw11942283904388439293:Unit:=()
def tw11232477046940599739:Unit:=()
def tw11764196830261885468:Unit:=()
def tw7896365509139915332:Unit:=()
def tw2383799497275426906:Unit:=()
def tw4726966597850286664:Unit:=()
def tw10040555747155558710:Unit:=()
def tw5130062008060082914:Unit:=()
def tw211104114634695231:Unit:=()
def tw9610886629841281938:Unit:=()
def tw17418345480067122144:Unit:=()
def tw17380117559803386549:Unit:=()
def tw8599259529198244964:Unit:=()
def tw17178693304563580817:Unit:=()
def tw4675776145597173448:Unit:=()
def tw9311132790839081294:Unit:=()
def tw17586925658003023840:Unit:=()
def tw1811750045333038232:Unit:=()
def tw16249766773156559264:Unit:=()
def tw16250208460701052618:Unit:=()
def tw2385486522090565439:Unit:=()
def tw15759210509624610077:Unit:=()
def tw4749047470629390767:Unit:=()
def tw6468000231975102593:Unit:=()
def tw650408742969983485:Unit:=()
def tw10856473111932975078:Unit:=()
def tw9868709998565290994:Unit:=()
def tw7752616052028398526:Unit:=()
def tw6526483097551473312:Unit:=()
def tw6759890968052824996:Unit:=()
def tw14833493971948252255:Unit:=()
def tw8086475051034576504:Unit:=()
def tw17213750100604950642:Unit:=()
def tw4904076624626124109:Unit:=()
def tw4568857869676455859:Unit:=()
def tw5976734954377555302:Unit:=()
def tw6591578016140379968:Unit:=()
def tw14968983248266243402:Unit:=()
def tw13526164377922782015:Unit:=()
def tw612157197434342801:Unit:=()
def tw12466661409045784163:Unit:=()
def tw16659533798461713995:Unit:=()
def tw10390320592292720893:Unit:=()
def tw2279179096356561612:Unit:=()
def tw15337042710228544101:Unit:=()
def tw11705223800871463101:Unit:=()
def tw13327779110635129356:Unit:=()
def tw10671081303425694350:Unit:=()
def tw7362389846702587034:Unit:=()
def tw414333796285695104:Unit:=()
def tw16169548785478190716:Unit:=()
def tw7284840591555603809:Unit:=()
def tw11614858687096391202:Unit:=()
def tw16211363932753032219:Unit:=()
def tw3993752038553640766:Unit:=()
def tw10101564906527339512:Unit:=()
def tw8157978330433242960:Unit:=()
def tw8552773468116649925:Unit:=()
def tw13302584054979209594:Unit:=()
def tw9064792587215117362:Unit:=()
def tw11300489631456908929:Unit:=()
def tw13044624638497903432:Unit:=()
def tw12114081493224106644:Unit:=()
def tw15110334551170948075:Unit:=()
def tw12462335139391593211:Unit:=()
def tw3855284934600573244:Unit:=()
def tw9027861162569484591:Unit:=()
def tw1699724302672985884:Unit:=()
def tw12052847413806641360:Unit:=()
def tw16071031786887921310:Unit:=()
def tw3276719471797632327:Unit:=()
def tw9916605591693448316:Unit:=()
def tw13596290356613323932:Unit:=()
def tw14405857662590880885:Unit:=()
def tw1271671101374122058:Unit:=()
def tw16125931515249782252:Unit:=()
def tw11868836964627629514:Unit:=()
def tw18373412481491025834:Unit:=()
def tw10378792899351733378:Unit:=()
def tw13155101901408881231:Unit:=()
def tw5792711625624132703:Unit:=()
def tw10979596829872155043:Unit:=()
def tw15343650174202364427:Unit:=()
def tw13018959595976231411:Unit:=()
def tw1828797806151017262:Unit:=()
def tw4244244550271141002:Unit:=()
def tw15611801554930305815:Unit:=()
def tw12738237417880985311:Unit:=()
def tw10221626920082531857:Unit:=()
def tw18187157991069219947:Unit:=()
def tw6103361213206242757:Unit:=()
def tw3038743529882786371:Unit:=()
def tw9271474907082873591:Unit:=()
def tw8461571740140285759:Unit:=()
def tw12135545731581872152:Unit:=()
def tw8266627842105852134:Unit:=()
def tw17097648190293652689:Unit:=()
def tw3399879947037085146:Unit:=()
def tw5119898254315463355:Unit:=()
def tw2444002363955926453:Unit:=()
def tw14818974542188191594:Unit:=()
def tw15900169750385879475:Unit:=()
def tw7983602412006420848:Unit:=()
def tw5704527894979641690:Unit:=()
def tw4904205251431428678:Unit:=()
def tw748716109407009680:Unit:=()
def tw15581526843793371141:Unit:=()
def tw6091766711060421584:Unit:=()
def tw17503776020092018538:Unit:=()
def tw4541428761009868641:Unit:=()
def tw11150761914939952349:Unit:=()
def tw12106398383705662047:Unit:=()
def tw7009142932176315103:Unit:=()
def tw7923962827411689127:Unit:=()
def tw6309996447348817208:Unit:=()
def tw15394697673844011056:Unit:=()
def tw10472112290714041373:Unit:=()
def tw15424737472559805909:Unit:=()
def tw12209999732096186297:Unit:=()
def tw18394072950366916676:Unit:=()
def tw7159068333353739746:Unit:=()
def tw6648755877102501191:Unit:=()
def tw10410938067995508392:Unit:=()
def tw1276169203808956268:Unit:=()
def tw5200354447936358234:Unit:=()
def tw15370642512603515037:Unit:=()
def tw793765439933583450:Unit:=()
def tw1630056442222453860:Unit:=()
def tw4472819874468554884:Unit:=()
def tw18392540399882501873:Unit:=()
def tw470661470091538330:Unit:=()
def tw5306252998753320731:Unit:=()
def tw16980488569544543906:Unit:=()
def tw2034695370472094419:Unit:=()
def tw8175620173254664589:Unit:=()
def tw17407433672449114168:Unit:=()
def tw4181472424018287377:Unit:=()
def tw16012889901190368573:Unit:=()
def tw17351934008020638798:Unit:=()
def tw6701775598721445758:Unit:=()
def tw4259261509215114616:Unit:=()
def tw7302079425360618428:Unit:=()
def tw508783294033488022:Unit:=()
def tw794352223533349681:Unit:=()
def tw4734517829162347741:Unit:=()
def tw16349943378363642731:Unit:=()
def tw8667872461003415790:Unit:=()
def tw8377578173396072781:Unit:=()
def tw17888991044939371391:Unit:=()
def tw6370146106599929020:Unit:=()
def tw3829478169329156588:Unit:=()
def tw13237474491602902783:Unit:=()
def tw3547161323045720307:Unit:=()
def tw1233326051646678651:Unit:=()
def tw16159998731917262174:Unit:=()
def tw12944615587814962051:Unit:=()
def tw6705362226207029814:Unit:=()
def tw14836294026379871933:Unit:=()
def tw1111222755456862371:Unit:=()
def tw2449676813535616297:Unit:=()
def tw5932826551492682206:Unit:=()
def tw5639811163054653610:Unit:=()
def tw18071893456337202963:Unit:=()
def tw7661586296453146378:Unit:=()
def tw1251837766265788708:Unit:=()
def tw17293387968303210052:Unit:=()
def tw8808068188095198222:Unit:=()
def tw2714522178144070441:Unit:=()
def tw617401926571314860:Unit:=()
def tw7899655445092040295:Unit:=()
def tw14217414970962624307:Unit:=()
def tw17672766562186820903:Unit:=()
def tw3227005020098516259:Unit:=()
def tw7034424395964397380:Unit:=()
def tw8287249900686948922:Unit:=()
def tw12293789022640070643:Unit:=()
def tw15380046749283813565:Unit:=()
def tw18430244730085192476:Unit:=()
def tw18159158485265983612:Unit:=()
def tw137679426149869728:Unit:=()
def tw8859951158311113263:Unit:=()
def tw4791362849446795123:Unit:=()
def tw10065556344568336941:Unit:=()
def tw11969695105650652688:Unit:=()
def tw16464905996970001084:Unit:=()
def tw3026097219182365599:Unit:=()
def tw11125631351033021988:Unit:=()
def tw9821691996007096977:Unit:=()
def tw7446655108357306046:Unit:=()
def tw14916049971795369389:Unit:=()
def tw14545309598127008265:Unit:=()
def tw3813604311066595311:Unit:=()
def tw8111107308013704001:Unit:=()
def tw7680026119624241971:Unit:=()
def tw608889925816668685:Unit:=()
def tw11535307073163514435:Unit:=()
def tw11782107989728343303:Unit:=()
def tw9077308153200591157:Unit:=()
def tw9101687151377134833:Unit:=()
def tw8062204759791964404:Unit:=()
def tw11407710834903379027:Unit:=()
def tw17580294128858306261:Unit:=()
def tw8317649258388356926:Unit:=()
def tw1238052561812891890:Unit:=()
def tw15706597601920770799:Unit:=()
def tw14850247078704735278:Unit:=()
def tw2116596409928178783:Unit:=()
def tw13635384980812675953:Unit:=()
def tw14125257835158141512:Unit:=()
def tw17153482736853732579:Unit:=()
def tw17660684953730046205:Unit:=()
def tw17547818366419993957:Unit:=()
def tw4862586774353709246:Unit:=()
def tw11880289178913059859:Unit:=()
def tw17223715264576694947:Unit:=()
def tw16333088409685343970:Unit:=()
def tw2494873829465858942:Unit:=()
def tw10786749740507964357:Unit:=()
def tw15299097551770945028:Unit:=()
def tw3331387852290989344:Unit:=()
def tw3790455295272875891:Unit:=()
def tw13696020523956402052:Unit:=()
def tw15536493364441823677:Unit:=()
def tw3839570832731642077:Unit:=()
def tw8170320299710191437:Unit:=()
def tw9390152045602256752:Unit:=()
def tw8700474042643218389:Unit:=()
def tw6123567521941940563:Unit:=()
def tw2612892527085277279:Unit:=()
def tw13300165412079774237:Unit:=()
def tw13453789254604099565:Unit:=()
def tw11122843762741448666:Unit:=()
def tw2269632101861880925:Unit:=()
def tw10297047403389690616:Unit:=()
def tw2873782777136539455:Unit:=()
def tw8942039984581400326:Unit:=()
def tw2039377769461066075:Unit:=()
def tw5808587145061612748:Unit:=()
def tw3665444471671484331:Unit:=()
def tw10600476639433014152:Unit:=()
def tw4968112981025381447:Unit:=()
def tw4398827019118592478:Unit:=()
def tw3486731910785766658:Unit:=()
def tw15268843276502653834:Unit:=()
def tw8193497028062823650:Unit:=()
def tw2517499167174271368:Unit:=()
def tw906763849209506979:Unit:=()
def tw17955205292451119558:Unit:=()
def tw2382361442681512133:Unit:=()
def tw4071200634797308781:Unit:=()
def tw14759657409051096900:Unit:=()
def tw6976898218155245235:Unit:=()
def tw3391835393537364124:Unit:=()
def tw12574136752617398780:Unit:=()
def tw12198449341344179211:Unit:=()
def tw9500954146463535274:Unit:=()
def tw13791983477016437514:Unit:=()
def tw696633906301719273:Unit:=()
def tw9688323923368120242:Unit:=()
def tw3414955245351505241:Unit:=()
def tw13891261122887567725:Unit:=()
def tw3302249196216156034:Unit:=()
def tw14759452007662707214:Unit:=()
def tw5348040879206262826:Unit:=()
def tw12948907872118437609:Unit:=()
def tw18233408698693995728:Unit:=()
def tw17549703370799407085:Unit:=()
def tw10852064958698992816:Unit:=()
def tw853527270265003282:Unit:=()
def tw4094092055895359518:Unit:=()
def tw17804582146736506578:Unit:=()
def tw1041657115623919075:Unit:=()
def tw8784034226740021689:Unit:=()
def tw16414106740324016404:Unit:=()
def tw10728205104272635439:Unit:=()
def tw11689200618669911771:Unit:=()
def tw4970007534755902357:Unit:=()
def tw1723252465399164897:Unit:=()
def tw6746793258737642000:Unit:=()
def tw8272953861046650434:Unit:=()
def tw10617799967591883310:Unit:=()
def tw12822332839340716562:Unit:=()
def tw17789655700708377075:Unit:=()
def tw13366145339084530500:Unit:=()
def tw3559780706172556779:Unit:=()
def tw9377345973621232777:Unit:=()
def tw10053400803242214699:Unit:=()
def tw15283371606339775531:Unit:=()
def tw9170955008782711034:Unit:=()
def tw10741661114301676699:Unit:=()
def tw17974851107210122965:Unit:=()
def tw15883225565379272905:Unit:=()
def tw3285249978941579593:Unit:=()
def tw4015842861979591795:Unit:=()
def tw16983081682873257583:Unit:=()
def tw17297937881416004043:Unit:=()
def tw4749698402601493720:Unit:=()
def tw16375700931111206387:Unit:=()
def tw17904923016564689964:Unit:=()
def tw12599040518053441496:Unit:=()
def tw195104207501964393:Unit:=()
def tw14124514377249710137:Unit:=()
def tw7080690699700215401:Unit:=()
def tw13648552541623565804:Unit:=()
def tw9468325290928247323:Unit:=()
def tw6948855934448670605:Unit:=()
def tw10182046399199383690:Unit:=()
def tw6361765313041222008:Unit:=()
def tw3855139963758778028:Unit:=()
def tw14595197646018939763:Unit:=()
def tw10703390329745861508:Unit:=()
def tw16548044325347350555:Unit:=()
def tw14798849335021497704:Unit:=()
def tw5047372446795454624:Unit:=()
def tw8013285896599814931:Unit:=()
def tw4512229777969429242:Unit:=()
def tw9879345253694580114:Unit:=()
def tw6309546400752110700:Unit:=()
def tw9149076215802195768:Unit:=()
def tw16380961194205452849:Unit:=()
def tw5466561080113318636:Unit:=()
def tw200917055952116996:Unit:=()
def tw6585152109659903927:Unit:=()
def tw12397471214584129847:Unit:=()
def tw343522696998950827:Unit:=()
def tw8332904061268323172:Unit:=()
def tw1433251088835965721:Unit:=()
def tw12008309672100479472:Unit:=()
def tw13314387022089025319:Unit:=()
def tw15102483003086526362:Unit:=()
def tw12109868496610340329:Unit:=()
def tw1392641686632690021:Unit:=()
def tw8267030842825900227:Unit:=()
def tw5315998921453320077:Unit:=()
def tw5181313090925187290:Unit:=()
def tw6656973755808012309:Unit:=()
def tw15236301600725283036:Unit:=()
def tw3540613291743997601:Unit:=()
def tw12466509825379227603:Unit:=()
def tw16771102081866670723:Unit:=()
def tw11930967783609462000:Unit:=()
def tw5402558006202300502:Unit:=()
def tw11911644856471523702:Unit:=()
def tw8434478565802952660:Unit:=()
def tw4241248555667237367:Unit:=()
def tw6915704830604313361:Unit:=()
def tw16201406953418897402:Unit:=()
def tw13868291893855137498:Unit:=()
def tw3486607852808629464:Unit:=()
def tw12366979045211216242:Unit:=()
def tw9853613971722994316:Unit:=()
def tw4094954150667358014:Unit:=()
def tw8410716951114899508:Unit:=()
def tw7902477597108235065:Unit:=()
def tw3699568644499585621:Unit:=()
def tw14969598791940478677:Unit:=()
def tw1576470358519290790:Unit:=()
def tw11549031977936616599:Unit:=()
def tw16693676514997719593:Unit:=()
def tw6688939952336966798:Unit:=()
def tw9114808142146530946:Unit:=()
def tw8205731123497537041:Unit:=()
def tw1148580294531912069:Unit:=()
def tw4971579043258224412:Unit:=()
def tw16578235729332898079:Unit:=()
def tw6221040068511253009:Unit:=()
def tw4120925237887579298:Unit:=()
def tw9016026255397242270:Unit:=()
def tw3530983341835602601:Unit:=()
def tw17253367818450272988:Unit:=()
def tw11485904897388055303:Unit:=()
def tw16267298957098508001:Unit:=()
def tw4443428255554216282:Unit:=()
def tw8708132704147247963:Unit:=()
def tw3850331109549661909:Unit:=()
def tw11333541431533714273:Unit:=()
def tw7804665445935409516:Unit:=()
def tw3156114029043581631:Unit:=()
def tw6551273528076005187:Unit:=()
def tw14146809112167775991:Unit:=()
def tw14318797370175470454:Unit:=()
def tw1825026365648796628:Unit:=()
def tw16152461247653622996:Unit:=()
def tw421326839074089649:Unit:=()
def tw140945630255398084:Unit:=()
def tw11101072725331217613:Unit:=()
def tw14922342920387527797:Unit:=()
def tw9766818410466112417:Unit:=()
def tw23962486794465601:Unit:=()
def tw7366149683911309203:Unit:=()
def tw9038067304063557099:Unit:=()
def tw2346813229488197633:Unit:=()
def tw16208623466774418942:Unit:=()
def tw13120407083223504629:Unit:=()
def tw8724181339815135297:Unit:=()
def tw16023361667827467579:Unit:=()
def tw5797538369224427425:Unit:=()
def tw8419320625068217484:Unit:=()
def tw14832991325848732037:Unit:=()
def tw11939846831764271910:Unit:=()
def tw4436766961876177601:Unit:=()
def tw8599722054715738395:Unit:=()
def tw1976083426906856814:Unit:=()
def tw599498642588425340:Unit:=()
def tw8864659208030201854:Unit:=()
def tw14051530819812727583:Unit:=()
def tw4988856739246123413:Unit:=()
def tw4983976610684924412:Unit:=()
def tw538853688525019804:Unit:=()
def tw11593063933227782268:Unit:=()
def tw15180910080775192828:Unit:=()
def tw16818715866361654858:Unit:=()
def tw14571199098246023531:Unit:=()
def tw7429840926403331863:Unit:=()
def tw1602751066352843618:Unit:=()
def tw15647112596451461986:Unit:=()
def tw7709791739093539940:Unit:=()
def tw12217934298872081322:Unit:=()
def tw642078399465376896:Unit:=()
def tw9319130427799786155:Unit:=()
def tw5696836323673131054:Unit:=()
def tw9197817943286733034:Unit:=()
def tw10046290558954705616:Unit:=()
def tw6340660400007183480:Unit:=()
def tw11915104180000853783:Unit:=()
def tw9555207351034824514:Unit:=()
def tw10240688037679250604:Unit:=()
def tw3154674352926779530:Unit:=()
def tw14604914205724540994:Unit:=()
def tw2742726305290789010:Unit:=()
def tw10466860549040062617:Unit:=()
def tw13366026604429406979:Unit:=()
def tw3144783121901315014:Unit:=()
def tw7040514005455506134:Unit:=()
def tw16807009905823496676:Unit:=()
def tw6670379629681281406:Unit:=()
def tw12591028900699349339:Unit:=()
def tw16637826923740225485:Unit:=()
def tw10790712193102978323:Unit:=()
def tw5563666191052393103:Unit:=()
def tw7128212026426090633:Unit:=()
def tw3638829602162214219:Unit:=()
def tw3149164316556379355:Unit:=()
def tw17887980448917409395:Unit:=()
def tw9749859676315494527:Unit:=()
def tw6734117149505882263:Unit:=()
def tw14467619067320410979:Unit:=()
def tw6790061086608438675:Unit:=()
def tw2514975245839757432:Unit:=()
def tw8768548046758060538:Unit:=()
def tw12745232652039489250:Unit:=()
def tw13875503402763684773:Unit:=()
def tw4093768435294676910:Unit:=()
def tw6962287330168603589:Unit:=()
def tw15930735424317753878:Unit:=()
end PySem.W.Fast
set_option maxRecDepth 100000 in
set_option maxHeartbeats 0 in
theorem PySem.Challenge.cw_foretell_k36_pressing_refused_holds : PySem.Challenge.rw_foretell_k36_pressing_refused.Holds := by
 w_on; o_law; k_head; (case hw => w_witness2)
 k_fill
 refine Law.walk (l := PySem.Challenge.rw_foretell_k36_pressing_refused) rfl rfl (fun w h Y => PySem.W.kIn_of Y) ?F
 case F =>
  intro w mg fa h KX G hmg
  refine' Law.all_mk KX G hmg ?_ ?_ ?_ ?_ ?_ ?_ ?_ ?_ ?_ ?_ ?_ ?_ ?_ ?_ ?_ ?_ ?_ ?_ ?_ ?_ ?_ ?_ ?_ ?_ ?_ ?_ ?_ ?_ ?_ ?_ ?_ ?_ ?_ ?_ ?_ ?_ ?_ ?_ ?_ ?_ ?_ ?_ ?_ ?_ ?_ ?_ ?_ ?_ ?_ ?_ ?_ ?_ ?_ ?_ ?_ ?_ ?_ ?_ ?_ ?_ ?_ ?_ ?_ ?_ ?_ ?_ ?_ ?_ ?_ ?_ ?_ ?_ ?_ ?_ ?_ ?_ ?_ ?_ ?_ ?_ ?_ ?_ ?_ ?_ ?_ ?_ ?_ ?_ ?_ ?_ ?_ ?_ ?_ ?_ ?_ ?_ ?_ ?_ ?_ ?_ ?_ ?_ ?_ ?_ ?_ ?_ ?_ ?_ ?_ ?_ ?_ ?_ ?_ ?_ ?_ ?_ ?_ ?_ ?_ ?_ ?_ ?_ ?_ ?_ ?_ ?_ ?_ ?_ ?_ ?_ ?_ ?_ ?_ ?_ ?_ ?_ ?_ ?_ ?_ ?_ ?_ ?_ ?_ ?_ ?_ ?_ ?_ ?_ ?_ ?_ ?_ ?_ ?_ ?_ ?_ ?_ ?_ ?_ ?_ ?_ ?_ ?_ ?_ ?_ ?_ ?_ ?_ ?_ ?_ ?_ ?_ ?_ ?_ ?_ ?_ ?_ ?_ ?_ ?_ ?_ ?_ ?_ ?_ ?_ ?_ ?_ ?_ ?_ ?_ ?_ ?_ ?_ ?_ ?_ ?_ ?_ ?_ ?_ ?_ ?_ ?_ ?_ ?_ ?_ ?_ ?_ ?_ ?_ ?_ ?_ ?_ ?_ ?_ ?_ ?_ ?_ ?_ ?_ ?_ ?_ ?_ ?_ ?_ ?_ ?_ ?_ ?_ ?_ ?_ ?_ ?_ ?_ ?_ ?_ ?_ ?_ ?_ ?_ ?_ ?_ ?_ ?_ ?_ ?_ ?_ ?_ ?_ ?_ ?_ ?_ ?_ ?_ ?_ ?_ ?_ ?_ ?_ ?_ ?_ ?_ ?_ ?_ ?_ ?_ ?_ ?_ ?_ ?_ ?_ ?_ ?_ ?_ ?_ ?_ ?_ ?_ ?_ ?_ ?_ ?_ ?_ ?_ ?_ ?_ ?_ ?_ ?_ ?_ ?_ ?_ ?_ ?_ ?_ ?_ ?_ ?_ ?_ ?_ ?_ ?_ ?_ ?_ ?_ ?_ ?_ ?_ ?_ ?_ ?_ ?_ ?_ ?_ ?_ ?_ ?_ ?_ ?_ ?_ ?_ ?_ ?_ ?_ ?_ ?_ ?_ ?_ ?_ ?_
  any_goals first | (refine' L2.dgf_mk KX G ?_ ?_ ?_ ?_; any_goals k_is; done) | (refine' L2.dgm_mk ?_ ?_ ?_ ?_ ?_; any_goals k_is; done) | (refine' L2.XCls.mk ?_ ?_ ?_ ?_ ?_ ?_ ?_ ?_ <;> k_is) | k_is | kit_is | k_exc
#print axioms PySem.Challenge.cw_foretell_k36_pressing_refused_holds
