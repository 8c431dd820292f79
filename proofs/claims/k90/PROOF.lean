import PyProof.Rows.All
import Wide.All
import OpenK.AllK
import Wide.FinOn
import PyProof.EqAt
import PyProof.EqKinds
import PyProof.TupleCall
import Lean
import PySem.Challenge.RW_foretell_k90_whole_pressed
set_option Elab.async false
set_option linter.all false
set_option maxRecDepth 100000
set_option maxHeartbeats 4000000
namespace L2
open PySem PySem.Spec PyProof.Rows
abbrev Key:=Sum Int Str
def yin:Key->Value->Bool
 | .inl k,v=>Value.isInt k v
 | .inr x,v=>Value.isStrOf x v
def vb7 (w:World):Key->Int
 | .inl k=>hashInt k
 | .inr x=>hashStr w x
theorem wx:∀ {k:Key} {v:Value},yin k v=true->(∃ i t,k=Sum.inl i/\v=Value.int i t)\/(∃ x t,k=Sum.inr x/\v=Value.str x t)
 | .inl i,v,h=>by
  obtain ⟨t,e⟩:=Value.isInt_shape (k:=i) (v:=v) h
  exact .inl ⟨i,t,rfl,e⟩
 | .inr x,v,h=>by
  obtain ⟨t,e⟩:=Value.isStrOf_shape (x:=x) (v:=v) h
  exact .inr ⟨x,t,rfl,e⟩
theorem yjw (i:Int) (t:Tok):yin (.inl i) (.int i t)=true:=by simp [yin,Value.isInt]
theorem ykf (x:Str) (t:Tok):yin (.inr x) (.str x t)=true:=by simp [yin,Value.isStrOf]
theorem yw0 (a b:Int):decide ((Sum.inl a:Key)=Sum.inl b)=(a == b):=by
 by_cases e:a=b
 ·subst e; simp
 ·have h:¬ (Sum.inl a:Key)=Sum.inl b:=fun q=>e (Sum.inl.inj q)
  rw [decide_eq_false h]
  exact (beq_eq_false_iff_ne.mpr e).symm
theorem ywc (a b:Str):decide ((Sum.inr a:Key)=Sum.inr b)=decide (a=b):=by
 by_cases e:a=b
 ·subst e; simp
 ·have h:¬ (Sum.inr a:Key)=Sum.inr b:=fun q=>e (Sum.inr.inj q)
  rw [decide_eq_false h,decide_eq_false e]
theorem yvr (a:Int) (b:Str):decide ((Sum.inl a:Key)=Sum.inr b)=false:=decide_eq_false (fun q=>nomatch q)
theorem ywg (a:Str) (b:Int):decide ((Sum.inr a:Key)=Sum.inl b)=false:=decide_eq_false (fun q=>nomatch q)
def xy (prog:Program) (w:World):PySem.KeyKind prog w Key where
 is:=yin
 hash:=vb7 w
 inj:=fun v a b ha hb=>by
  rcases wx ha with ⟨i,t,rfl,rfl⟩ | ⟨x,t,rfl,rfl⟩
  ·rcases wx hb with ⟨j,u,rfl,e⟩ | ⟨y,u,rfl,e⟩
   ·injection e with e1 _; rw [e1]
   ·exact nomatch e
  ·rcases wx hb with ⟨j,u,rfl,e⟩ | ⟨y,u,rfl,e⟩
   ·exact nomatch e
   ·injection e with e1 _; rw [e1]
 byValue:=fun k v h=>by
  rcases wx h with ⟨i,t,rfl,rfl⟩ | ⟨x,t,rfl,rfl⟩ <;> rfl
 pyHash:=fun hv h=>by
  rcases wx hv with ⟨i,t,rfl,rfl⟩ | ⟨x,t,rfl,rfl⟩
  ·exact wpAny_pyHash_int h
  ·exact wpAny_pyHash_str h
 eqBool:=fun hu hv h=>by
  rcases wx hu with ⟨i,t,rfl,rfl⟩ | ⟨x,t,rfl,rfl⟩
  ·rcases wx hv with ⟨j,u,rfl,rfl⟩ | ⟨y,u,rfl,rfl⟩
   ·rw [yw0] at h; exact wpAny_eqBool_int h
   ·rw [yvr] at h; exact SeqAt.EqAt.int_str i t y u _ _ _ _ h
  ·rcases wx hv with ⟨j,u,rfl,rfl⟩ | ⟨y,u,rfl,rfl⟩
   ·rw [ywg] at h; exact SeqAt.EqAt.str_int x t j u _ _ _ _ h
   ·rw [ywc] at h; exact wpAny_eqBool_str h
 «strs»:=fun k x t v h=>by
  rcases wx h with ⟨i,u,rfl,e⟩ | ⟨y,u,rfl,e⟩
  ·exact nomatch e
  ·injection e with e1 _
   subst e1
   cases v <;> rfl
theorem ye0 (prog:Program) (w:World) (i:Int) (t:Tok):(xy prog w).is (.inl i) (.int i t)=true:=yjw i t
theorem yey (prog:Program) (w:World) (x:Str) (t:Tok):(xy prog w).is (.inr x) (.str x t)=true:=ykf x t
end L2
namespace L2
open PySem PySem.Spec PyProof.Rows
inductive V where
 | non | bl (b:Bool) | int (i:Int) | str (x:Str) | byt (b:Array UInt8) | flt (b:UInt64) | ref (a:Addr) | ty (n:String)
 deriving DecidableEq
def xk:V->Value->Prop
 | .non,u=>u=Value.none
 | .bl b,u=>u=Value.bool b
 | .int i,u=>∃ t,u=Value.int i t
 | .str x,u=>∃ t,u=Value.str x t
 | .byt b,u=>∃ t,u=Value.bytes b t
 | .flt b,u=>∃ t,u=Value.float b t
 | .ref a,u=>u=Value.ref a
 | .ty n,u=>u=Value.type n
abbrev wu:List V->List Value->Prop:=Paired xk
theorem wu.length {xs:List V} {us:List Value} (r:wu xs us):xs.length=us.length:=Paired.length r
theorem wu.get:∀ {xs:List V} {us:List Value} {i:Nat} {x:V},wu xs us->xs[i]?=some x->∃ u,us[i]?=some u/\xk x u
 | _,_,_,_,.nil,e=>by simp at e
 | _,_,0,_,.cons r _,e=>by simp at e; subst e; exact ⟨_,rfl,r⟩
 | _,_,i+1,x,.cons _ t,e=>by
  obtain ⟨u,h1,h2⟩:=wu.get (i:=i) (x:=x) t (by simpa using e)
  exact ⟨u,by simpa using h1,h2⟩
theorem wu.append:∀ {xs ys:List V} {us ws:List Value},wu xs us->wu ys ws->wu (xs++ys) (us++ws)
 | _,_,_,_,.nil,s=>s
 | _,_,_,_,.cons r t,s=>.cons r (wu.append t s)
theorem wu.take:∀ {xs:List V} {us:List Value} (n:Nat),wu xs us->wu (xs.take n) (us.take n)
 | _,_,0,_=>.nil
 | _,_,_+1,.nil=>.nil
 | _,_,n+1,.cons r t=>.cons r (wu.take n t)
theorem wu.drop:∀ {xs:List V} {us:List Value} (n:Nat),wu xs us->wu (xs.drop n) (us.drop n)
 | _,_,0,r=>r
 | _,_,_+1,.nil=>.nil
 | _,_,n+1,.cons _ t=>wu.drop n t
def yew:Option V->Option Value->Prop
 | some v,some u=>xk v u
 | none,none=>True
 | _,_=>False
def KV {κ:Type}:List (κ × V)->List (κ × Value)->Prop:=Paired fun (p:κ × V) (q:κ × Value)=>p.1=q.1/\xk p.2 q.2
def kV:Key->V
 | .inl i=>.int i
 | .inr x=>.str x
inductive HO where
 | lst (xs:List V)
 | tup (xs:List V)
 | dK (kvs:List (Key × V)) | dT (kvs:List (List Key × V))
 | set (S:Int->Bool) (n:Nat)
 | ins (C dx:Addr) (fs:List (Str × V))
 | own (x:Addr)
 | xd (fs:List (Str × V))
 | met (f x:Addr)
 | rng (lo hi:Int)
 | frz (o:Obj) (u:HO)
 | tbl (ps:Array Value)
 | ext (φ:Heap->Prop)
abbrev Hp:=Addr->Option HO
def upd (H:Hp) (a:Addr) (o:HO):Hp:=fun b=>if b=a then some o else H b
theorem yd {H:Hp} {a:Addr} {o:HO}:upd H a o a=some o:=by unfold upd; rw [if_pos rfl]
theorem yu {H:Hp} {a b:Addr} {o:HO} (h:b≠a):upd H a o b=H b:=by unfold upd; rw [if_neg h]
theorem xf {H:Hp} {a b:Addr} {o u:HO} (h:H a=some o) (h':H b=some u) (d:o≠u):a≠b:=by
 intro e; subst e; rw [h] at h'; exact d (Option.some.inj h')
theorem ye {H:Hp} {a b:Addr} {o:HO} (h:H a=some o) (h':H b=none):a≠b:=by
 intro e; subst e; rw [h] at h'; cases h'
section
variable (P:Program) (w:World)
def xr (H:Hp) (h:Heap) (a:Addr):HO->Prop
 | .lst xs=>xs.length <= sizeLine/\∃ (its:List Value) (n:Nat),wu xs its/\h.get? a=some { cls:=.type "list",data:=.seq its.toArray n }
 | .tup xs=>xs.length <= sizeLine/\∃ its:List Value,wu xs its/\IsTup h a its.toArray
 | .dK kvs=>kvs.length <= sizeLine/\(a == sysModules)=false/\∃ vs,KV kvs vs/\h.DictOf (xy P w) a vs
 | .dT kvs=>kvs.length <= sizeLine/\(a == sysModules)=false/\∃ xs:List (List Key × Addr × Value),
   Paired (fun (p:List Key × V) (q:List Key × Addr × Value)=>p.1=q.1/\H q.2.1=some (.tup (p.1.map kV))/\xk p.2 q.2.2) kvs xs /\
   ∃ o es ep,h.get? a=some o/\o.ExactDict/\o.data=.dict es ep/\es.toList=xs.map (entryOfKey (tupleKind (xy P w)))/\(xs.map (·.1)).Nodup
 | .set S n=>h.SetOf (intKind P w) a S n
 | .ins C dx fs=>H dx=some (.own a)/\fs.length <= 1000/\dx≠a/\h.get? a=some (W.instObj C dx) /\
   ∃ mA,h.Ns1 dx mA/\(∀ f,yew (fs.lookup f) (mA f))/\PySem.Within mA (fs.map (·.1))
 | .own _=>∃ o,h.get? a=some o
 | .xd fs=>∃ mA,h.Ns1 a mA/\∀ f,yew (fs.lookup f) (mA f)
 | .rng lo hi=>∃ t u v,h.get? a=some { cls:=.type "range",data:=.fields #[.int lo t,.int hi u,.int 1 v] }
 | .frz o u=>h.get? a=some o/\xr H h a u
 | .tbl ps=>h.get? a=some { cls:=.none,data:=.fields ps }
 | .met f x=>h.get? a=some (W.methodObj (.ref f) (.ref x))
 | .ext φ=>φ h/\(∃ o,h.get? a=some o)/\∀ h1 h2:Heap,φ h1->(∀ o,h1.get? a=some o->h2.get? a=some o)->φ h2
def HOk (H:Hp) (h:Heap):Prop:=∀ a o,H a=some o->xr P w H h a o
end
section
variable {P:Program} {w:World} {H H':Hp} {h h':Heap} {a:Addr} {o:HO}
theorem xr.lt (x:xr P w H h a o):a < h.objs.size:=by
 cases o with
 | lst xs=>obtain ⟨_,_,_,_,e⟩:=x; exact Heap.lt_size e
 | tup xs=>obtain ⟨_,_,_,p⟩:=x; exact p.lt
 | dK kvs=>obtain ⟨_,_,_,_,o,_,_,e,_⟩:=x; exact Heap.lt_size e
 | dT kvs=>obtain ⟨_,_,_,_,o,_,_,e,_⟩:=x; exact Heap.lt_size e
 | set S n=>obtain ⟨o,_,_,_,e,_⟩:=x; exact Heap.lt_size e
 | ins C dx fs=>obtain ⟨_,_,_,e,_⟩:=x; exact Heap.lt_size e
 | own y=>obtain ⟨_,e⟩:=x; exact Heap.lt_size e
 | xd fs=>obtain ⟨_,⟨_,_,_,e,_⟩,_⟩:=x; exact Heap.lt_size e
 | rng lo hi=>obtain ⟨_,_,_,e⟩:=x; exact Heap.lt_size e
 | frz ob u=>obtain ⟨e,_⟩:=x; exact Heap.lt_size e
 | tbl ps=>exact Heap.lt_size (show h.get? a=some _ from x)
 | met f y=>exact Heap.lt_size (show h.get? a=some _ from x)
 | ext φ=>obtain ⟨_,⟨_,e⟩,_⟩:=x; exact Heap.lt_size e
theorem Paired.mapP {α β:Type} {F G:α->β->Prop}:∀ {l₁:List α} {l₂:List β},Paired F l₁ l₂->(∀ a b,F a b->G a b)->Paired G l₁ l₂
 | _,_,.nil,_=>.nil
 | _,_,.cons r t,f=>.cons (f _ _ r) (Paired.mapP t f)
theorem xr.stay (x:xr P w H h a o) (k:∀ b u,(b=a\/H b=some (.own a))->h.get? b=some u->h'.get? b=some u)
  (ho:∀ b,H b=some (.own a)->H' b=some (.own a)) (ht:∀ b xs,H b=some (.tup xs)->H' b=some (.tup xs)):xr P w H' h' a o:=by
 induction o with
 | lst xs=>obtain ⟨z,its,n,r,e⟩:=x; exact ⟨z,its,n,r,k _ _ (.inl rfl) e⟩
 | tup xs=>obtain ⟨z,its,r,ob,e,c⟩:=x; exact ⟨z,its,r,ob,k _ _ (.inl rfl) e,c⟩
 | dK kvs=>obtain ⟨z,y,vs,r,ob,es,ep,e,c⟩:=x; exact ⟨z,y,vs,r,ob,es,ep,k _ _ (.inl rfl) e,c⟩
 | dT kvs =>
  obtain ⟨z,y,xs,r,ob,es,ep,e,c⟩:=x
  exact ⟨z,y,xs,Paired.mapP r fun p q z=>⟨z.1,ht _ _ z.2.1,z.2.2⟩,ob,es,ep,k _ _ (.inl rfl) e,c⟩
 | set S n=>obtain ⟨ob,es,ep,t,e,c⟩:=x; exact ⟨ob,es,ep,t,k _ _ (.inl rfl) e,c⟩
 | ins C dx fs =>
  obtain ⟨d,z,ne,e,mA,⟨od,es,ep,e2,c⟩,r⟩:=x
  exact ⟨ho _ d,z,ne,k _ _ (.inl rfl) e,mA,⟨od,es,ep,k _ _ (.inr d) e2,c⟩,r⟩
 | own y=>obtain ⟨ob,e⟩:=x; exact ⟨ob,k _ _ (.inl rfl) e⟩
 | xd fs=>obtain ⟨mA,⟨od,es,ep,e,c⟩,r⟩:=x; exact ⟨mA,⟨od,es,ep,k _ _ (.inl rfl) e,c⟩,r⟩
 | rng lo hi=>obtain ⟨t,u,v,e⟩:=x; exact ⟨t,u,v,k _ _ (.inl rfl) e⟩
 | frz ob u ih=>obtain ⟨e,q⟩:=x; exact ⟨k _ _ (.inl rfl) e,ih q⟩
 | tbl ps =>
  have e:h.get? a=some { cls:=.none,data:=.fields ps }:=x
  show h'.get? a=some { cls:=.none,data:=.fields ps }
  exact k a _ (.inl rfl) e
 | met f y =>
  have e:h.get? a=some (W.methodObj (.ref f) (.ref y)):=x
  show h'.get? a=some (W.methodObj (.ref f) (.ref y))
  exact k a _ (.inl rfl) e
 | ext φ=>obtain ⟨p,⟨o,e⟩,st⟩:=x; exact ⟨st _ _ p fun o q=>k _ _ (.inl rfl) q,⟨o,k _ _ (.inl rfl) e⟩,st⟩
theorem HOk.lt (x:HOk P w H h) (e:H a=some o):a < h.objs.size:=(x a o e).lt
theorem HOk.fresh (x:HOk P w H h) (e:h.objs.size <= a):H a=none:=by
 cases q:H a with
 | none=>rfl
 | some u=>exact absurd (Nat.lt_of_lt_of_le (x.lt q) e) (Nat.lt_irrefl _)
theorem HOk.kept (x:HOk P w H h) (k:∀ b u,h.get? b=some u->h'.get? b=some u):HOk P w H h':=fun a o e =>
 (x a o e).stay (fun b u _ q=>k b u q) (fun _ q=>q) fun _ _ q=>q
theorem HOk.laid (x:HOk P w H h) (k:∀ b u,h.get? b=some u->h'.get? b=some u) (hp:h.objs.size <= a) (new:xr P w (upd H a o) h' a o):HOk P w (upd H a o) h':=fun b u e=>by
 have hn:=x.fresh hp
 by_cases hb:b=a
 ·subst hb; rw [yd] at e; cases e; exact new
 ·rw [yu hb] at e
  exact (x b u e).stay (fun c v _ q=>k c v q) (fun c q=>by rw [yu (ye q hn)]; exact q) fun c xs q=>by rw [yu (ye q hn)]; exact q
end
def Rd (H:Hp) (a:Addr) (u:HO):Prop:=H a=some u\/∃ o,H a=some (.frz o u)
theorem Rd.ok {P:Program} {w:World} {H:Hp} {h:Heap} {a:Addr} {u:HO} (r:Rd H a u) (x:HOk P w H h):xr P w H h a u:=by
 rcases r with r | ⟨o,r⟩
 ·exact x a u r
 ·obtain ⟨_,q⟩:=x a _ r
  exact q
def Mut:Option HO->Prop
 | some (.lst _)=>True
 | some (.dK _)=>True
 | some (.dT _)=>True
 | some (.set _ _)=>True
 | some (.ins _ _ _)=>True
 | some (.ext _)=>True
 | _=>False
section
variable {P:Program} {w:World} {H:Hp} {h h':Heap} {x e:Addr} {o':HO}
theorem HOk.write (ok:HOk P w H h) (mu:Mut (H x)) (he:e=x\/H e=some (.own x)) (k:∀ b u,b≠e->h.get? b=some u->h'.get? b=some u) (heo:∃ u,h'.get? e=some u)
  (new:xr P w (upd H x o') h' x o'):HOk P w (upd H x o') h':=fun b u q=>by
 have nown:∀ c y,H c=some (.own y)->c≠x:=fun c y r z=>by subst z; rw [r] at mu; exact mu
 have ntup:∀ c xs,H c=some (.tup xs)->c≠x:=fun c xs r z=>by subst z; rw [r] at mu; exact mu
 by_cases hb:b=x
 ·subst hb; rw [yd] at q; cases q; exact new
 ·rw [yu hb] at q
  by_cases hbe:b=e
  ·have q':H b=some (.own x):=by
    rcases he with z | z
    ·exact absurd (hbe.trans z) hb
    ·rw [hbe]; exact z
   rw [q] at q'; cases q'
   obtain ⟨v,hv⟩:=heo
   exact ⟨v,by rw [hbe]; exact hv⟩
  ·refine (ok b u q).stay (fun c v hc r=>k c v ?_ r) (fun c r=>by rw [yu (nown c b r)]; exact r) fun c xs r=>by rw [yu (ntup c xs r)]; exact r
   rcases hc with rfl | hc
   ·exact hbe
   ·rintro rfl
    rcases he with z | z
    ·exact nown c b hc z
    ·rw [hc] at z; cases z; exact hb rfl
end
structure Un (fs ex:List Addr) (H H':Hp) (h h':Heap):Prop where
 keep:∀ b o,h.get? b=some o->H b=none->b∉fs->b∉ex->h'.get? b=some o
 slot:∀ b o,h.get? b=some o->H b=none->b∈fs->b∉ex->∃ sl,h'.get? b=some { o with slots:=sl }
 free:∀ b o,h.get? b=some o->H b=none->b∉ex->H' b=none
 there:∀ b o,h.get? b=some o->b∉ex->∃ o',h'.get? b=some o'
 tups:∀ b xs,H b=some (.tup xs)->H' b=some (.tup xs)
 frzs:∀ b o u,H b=some (.frz o u)->H' b=some (.frz o u)
 tbls:∀ b ps,H b=some (.tbl ps)->∃ more,H' b=some (.tbl (ps++more))
section
variable {fs fs' ex ex':List Addr} {H H1 H2:Hp} {h h1 h2 h':Heap} {a x e:Addr} {o:HO}
theorem Un.any (u:Un fs ex H H1 h h1) {b:Addr} {ob:Obj} (q:h.get? b=some ob) (n:H b=none) (hx:b∉ex):∃ sl,h1.get? b=some { ob with slots:=sl }:=by
 by_cases hb:b∈fs
 ·exact u.slot b ob q n hb hx
 ·exact ⟨ob.slots,u.keep b ob q n hb hx⟩
theorem Un.kept (k:∀ b u,h.get? b=some u->h'.get? b=some u):Un fs ex H H h h' :=
 ⟨fun b ob q _ _ _=>k b ob q,fun b ob q _ _ _=>⟨ob.slots,k b ob q⟩,fun _ _ _ n _=>n,fun b ob q _=>⟨ob,k b ob q⟩,fun _ _ q=>q,fun _ _ _ q=>q,fun _ ps q=>⟨#[],by rw [q]; simp⟩⟩
theorem Un.refl:Un fs ex H H h h:=Un.kept fun _ _ q=>q
theorem Un.laid (k:∀ b u,h.get? b=some u->h'.get? b=some u) (hp:h.objs.size <= a) (hn:H a=none):Un fs ex H (upd H a o) h h' where
 keep:=fun b u q _ _ _=>k b u q
 slot:=fun b u q _ _ _=>⟨u.slots,k b u q⟩
 free:=fun b u q n _=>by rw [yu (Nat.ne_of_lt (Nat.lt_of_lt_of_le (Heap.lt_size q) hp))]; exact n
 there:=fun b u q _=>⟨u,k b u q⟩
 tups:=fun b xs q=>by rw [yu (ye q hn)]; exact q
 frzs:=fun b u xs q=>by rw [yu (ye q hn)]; exact q
 tbls:=fun b ps q=>⟨#[],by rw [yu (ye q hn),q]; simp⟩
theorem Un.write (mu:Mut (H x)) (he:e=x\/H e=some (.own x)) (k:∀ b u,b≠e->h.get? b=some u->h'.get? b=some u) (heo:∃ u,h'.get? e=some u):Un fs ex H (upd H x o) h h':=by
 have hx:∀ b,H b=none->b≠x:=fun b n z=>by subst z; rw [n] at mu; exact mu
 have hb:∀ b,H b=none->b≠e:=fun b n z=>by
  subst z
  rcases he with r | r
  ·exact hx b n r
  ·rw [n] at r; cases r
 have hm:∀ b u,H b=some u->¬ Mut (some u)->b≠x:=fun b u q nm z=>by subst z; rw [q] at mu; exact nm mu
 refine ⟨fun b u q n _ _=>k b u (hb b n) q,fun b u q n _ _=>⟨u.slots,k b u (hb b n) q⟩,fun b u q n _=>by rw [yu (hx b n)]; exact n,fun b u q _=>?_,
  fun b xs q=>by rw [yu (hm b _ q fun z=>z)]; exact q,fun b u xs q=>by rw [yu (hm b _ q fun z=>z)]; exact q,fun b ps q=>⟨#[],by rw [yu (hm b _ q fun z=>z),q]; simp⟩⟩
 by_cases hbe:b=e
 ·subst hbe; exact heo
 ·exact ⟨u,k b u hbe q⟩
end
def trk (h:Heap) (H:Hp):List Addr:=(List.range h.objs.size).filter fun a=>(H a).isSome
def yoc (h:Heap) (H:Hp):Heap:=W.hideAll h (trk h H)
theorem yi6 (h:Heap) (H:Hp):(yoc h H).objs.size=h.objs.size:=W.hideAll_size _ _
theorem ynd {h:Heap} {H:Hp} {b:Addr} {o:Obj} (e:h.get? b=some o) (n:H b=none):(yoc h H).get? b=some o :=
 W.hideAll_get _ e fun hm=>by
  have q:(H b).isSome=true:=(List.mem_filter.mp hm).2
  rw [n] at q; simp at q
theorem yrp {h:Heap} {H:Hp} {b:Addr} {o:Obj} (e:(yoc h H).get? b=some o):h.get? b=some o/\H b=none:=by
 have e':h.get? b=some o:=W.of_hideAll (trk h H) e
 refine ⟨e',?_⟩
 cases q:H b with
 | none=>rfl
 | some x =>
  have hm:b∈trk h H:=List.mem_filter.mpr ⟨List.mem_range.mpr (Heap.lt_size e'),by simp [q]⟩
  have z:(yoc h H).get? b=none:=W.hideAll_none (trk h H) hm
  rw [z] at e; cases e
def yqr (g h:Heap) (L:Addr):List (Addr × Obj):=(List.range h.objs.size).filterMap fun a=>if a=L\/(g.get? a).isSome=true then none else (h.get? a).map fun o=>(a,o)
def yav (g h:Heap) (L d:Addr):List (Addr × Obj):=(yqr g h L).filter fun p=>decide (p.1≠d)
end L2
namespace L2
open PySem PySem.Spec PyProof.Rows
structure Mod (K:W.Frag) (mg:Str->Option Value) (base:Heap):Prop where
 kin:K.In base
 glob:base.Ns mainGlobals mg
 blt:∃ mb,base.Ns builtinsNs mb/\∀ x:Str,x≠"__name__"->mb x=bootBuiltins x
 nolimit:base.NoLimit
structure Cx where
 prog:Program
 w:World
 K:W.Frag
 mg:Str->Option Value
 base:Heap
 A:Around
 N:List Str
 s₀:Shared
 H₀:Hp
 env:Env
 outer:List Env
 stack:List Env
 ex:List Addr
 fn:Str->Bool
 calm:Bool
 pn:List (Addr × Obj)
 xe:Value->Shared->Prop
def frs (l:List Env):List Addr:=l.filterMap (·.frame)
abbrev Cx.fs (X:Cx):List Addr:=frs X.outer
def Vis (sc:Scope) (x:Str):Prop:=sc.names.lookup x=some .local\/sc.names.lookup x=some .cell\/sc.names.lookup x=some .free
def Loc (sc:Scope) (x:Str):Prop:=sc.names.lookup x=some .local\/sc.names.lookup x=some .cell
def vcf (env:Env) (h:Heap) (m:Str->Option Value) (x:Str) (u:Value):Prop :=
 (env.kindOf x=some .local/\m x=some u)\/((env.kindOf x=some .cell\/env.kindOf x=some .free)/\∃ c,env.cells.lookup x=some c/\h.IsCell c (some u))
structure Cx.Ok (X:Cx):Prop where
 mod:Mod X.K X.mg X.base
 kind:X.env.scope.kind=.function
 glob:X.env.globals=mainGlobals
 blt:X.env.builtins=builtinsNs
 above:X.s₀.heap.objs.size <= X.env.locals
 inj:∀ x y c,X.env.cells.lookup x=some c->X.env.cells.lookup y=some c->x=y
 has:∀ x,(X.env.kindOf x=some .cell\/X.env.kindOf x=some .free)->∃ c,X.env.cells.lookup x=some c
 cab:∀ x c,X.fn x=true->X.env.cells.lookup x=some c->X.s₀.heap.objs.size <= c
 hd:X.calm=true->X.A.handled=none
 frames:X.A.frames=some X.stack
 stk:X.stack=X.outer\/(X.stack=X.env :: X.outer/\X.env.frame=some X.env.locals)
 exf:∀ b∈X.ex,b≠X.env.locals/\∀ x c,X.env.cells.lookup x=some c->c≠b
 bs:∀ b o,X.base.get? b=some o->X.s₀.heap.get? b=some o/\X.H₀ b=none
 bsz:X.base.objs.size <= X.s₀.heap.objs.size
 noex:∀ b o,X.base.get? b=some o->b∉X.ex
 exfs:∀ b∈X.ex,b∉X.fs
 funs:X.s₀.heap.FunFrames X.base X.outer
 frf:∀ b∈X.fs,X.H₀ b=none
structure Inv (X:Cx) (pins:List (Addr × Obj)) (σ:List (Option V)) (H:Hp) (s:Shared):Prop where
 ok:X.Ok
 os:s.os=X.s₀.os
 bare:AllBare s.gens
 base:Un X.fs X.ex X.H₀ H X.s₀.heap s.heap
 loc:∃ m,s.heap.Ns X.env.locals m/\∀ (i:Nat) (x:Str) (v:V),X.N[i]?=some x->σ[i]?=some (some v)->Vis X.env.scope x->∃ u,xk v u/\vcf X.env s.heap m x u
 cell:∀ x c,X.env.cells.lookup x=some c->∃ v,s.heap.IsCell c v
 free:H X.env.locals=none
 freeC:∀ x c,X.env.cells.lookup x=some c->H c=none
 pin:∀ p∈X.pn++pins,s.heap.get? p.1=some p.2/\H p.1=none/\p.1≠X.env.locals/\p.1∉X.fs/\∀ v,p.2.data≠.cell v
 hok:HOk X.prog X.w H s.heap
 len:σ.length=X.N.length
section
variable {X:Cx} {pins:List (Addr × Obj)} {σ:List (Option V)} {H H':Hp} {s:Shared} {h':Heap}
theorem Cx.Ok.nofr (ok:X.Ok) {b:Addr} {o:Obj} (e:X.base.get? b=some o):b∉X.fs:=fun hb=>by
 have:=(ok.funs.mem hb).1
 rw [e] at this; cases this
theorem Inv.bs (I:Inv X pins σ H s):∀ b o,X.base.get? b=some o->s.heap.get? b=some o/\H b=none:=fun b o e =>
 ⟨I.base.keep b o (I.ok.bs b o e).1 (I.ok.bs b o e).2 (I.ok.nofr e) (I.ok.noex b o e),I.base.free b o (I.ok.bs b o e).1 (I.ok.bs b o e).2 (I.ok.noex b o e)⟩
theorem Inv.bk (I:Inv X pins σ H s):∀ b o,X.base.get? b=some o->s.heap.get? b=some o:=fun b o e=>(I.bs b o e).1
theorem Inv.mod (I:Inv X pins σ H s):Mod X.K X.mg X.base:=I.ok.mod
theorem Inv.kIn (I:Inv X pins σ H s):X.K.In s.heap:=I.ok.mod.kin.keeps I.bk
theorem Inv.lt (I:Inv X pins σ H s):X.env.locals < s.heap.objs.size:=let ⟨_,hn,_⟩:=I.loc; hn.lt
theorem Inv.sz (I:Inv X pins σ H s):X.s₀.heap.objs.size <= s.heap.objs.size:=Nat.le_trans I.ok.above (Nat.le_of_lt I.lt)
theorem Inv.nofs (I:Inv X pins σ H s) {a:Addr} (h:s.heap.objs.size <= a):a∉X.fs:=fun hb=>by
 obtain ⟨_,o,ho,_⟩:=I.ok.funs.mem hb
 exact absurd (Nat.lt_of_lt_of_le (Heap.lt_size ho) (Nat.le_trans I.sz h)) (Nat.lt_irrefl _)
theorem Inv.cne (I:Inv X pins σ H s):∀ x c,X.env.cells.lookup x=some c->c≠X.env.locals:=fun x c e z=>by
 obtain ⟨v,o,ho,hd⟩:=I.cell x c e
 obtain ⟨m,⟨o',es,ep,ho',hd',_⟩,_⟩:=I.loc
 rw [z,ho'] at ho; cases ho; rw [hd'] at hd; cases hd
theorem Inv.funs (I:Inv X pins σ H s):s.heap.FunFrames X.base X.outer:=by
 have all:∀ (l:List Env),(∀ b∈frs l,b∈X.fs)->X.s₀.heap.FunFrames X.base l->s.heap.FunFrames X.base l:=by
  intro l
  induction l with
  | nil=>intro _ _; trivial
  | cons env r ih =>
   intro hs hl
   obtain ⟨hk,⟨L,o,hf,hn,ho,hd⟩,hr⟩:=hl
   have hL:L∈X.fs:=hs L (by unfold frs; rw [List.filterMap_cons,hf]; exact List.mem_cons_self)
   obtain ⟨sl,e⟩:=I.base.slot L o ho (I.ok.frf L hL) hL fun z=>I.ok.exfs L z hL
   exact ⟨hk,⟨L,_,hf,hn,e,hd⟩,ih (fun b hb=>hs b (by unfold frs; rw [List.filterMap_cons,hf]; exact List.mem_cons_of_mem _ hb)) hr⟩
 exact all X.outer (fun _ hb=>hb) I.ok.funs
theorem Inv.stack (I:Inv X pins σ H s):s.heap.FunFrames X.base X.stack:=by
 rcases I.ok.stk with e | ⟨e,hf⟩
 ·rw [e]; exact I.funs
 ·rw [e]
  obtain ⟨m,hn,_⟩:=I.loc
  refine .cons (by rw [I.ok.kind]; decide) hf hn ?_ I.funs
  exact Heap.get?_none_of_le (Nat.le_trans I.ok.bsz I.ok.above)
theorem Inv.stkSub (I:Inv X pins σ H s):∀ b∈frs X.stack,b∈X.env.locals :: X.fs:=fun b hb=>by
 rcases I.ok.stk with e | ⟨e,hf⟩
 ·rw [e] at hb; exact List.mem_cons_of_mem _ hb
 ·rw [e] at hb
  unfold frs at hb
  rw [List.filterMap_cons,hf] at hb
  exact hb
theorem Inv.stkFree (I:Inv X pins σ H s):∀ b∈frs X.stack,H b=none:=fun b hb=>by
 rcases List.mem_cons.mp (I.stkSub b hb) with e | hb
 ·rw [e]; exact I.free
 ·obtain ⟨_,o,ho,_⟩:=I.ok.funs.mem hb
  exact I.base.free b o ho (I.ok.frf b hb) fun z=>I.ok.exfs b z hb
theorem Inv.step {g':Array GenState} {t':Nat} {d':Drawn} {ch:List Addr} (I:Inv X pins σ H s)
  (hch:∀ b∈ch,(b∈X.ex\/X.s₀.heap.objs.size <= b)/\b≠X.env.locals/\(∀ x c,X.env.cells.lookup x=some c->c≠b)/\∀ p∈X.pn++pins,p.1≠b)
  (keep:∀ b o,b≠X.env.locals->b∉X.fs->b∉ch->s.heap.get? b=some o->H b=none->h'.get? b=some o)
  (slot:∀ b o,b≠X.env.locals->b∈X.fs->b∉ch->s.heap.get? b=some o->H b=none->∃ sl,h'.get? b=some { o with slots:=sl }) (free:∀ b o,b∉ch->s.heap.get? b=some o->H b=none->H' b=none)
  (there:∀ b o,b∉ch->s.heap.get? b=some o->∃ o',h'.get? b=some o')
  (tups:∀ b xs,H b=some (.tup xs)->H' b=some (.tup xs)) (frzs:∀ b o u,H b=some (.frz o u)->H' b=some (.frz o u)) (tbls:∀ b ps,H b=some (.tbl ps)->∃ more,H' b=some (.tbl (ps++more)))
  (ns:∀ m,s.heap.Ns X.env.locals m->h'.Ns X.env.locals m) (hok:HOk X.prog X.w H' h') (hg:AllBare g') :
  Inv X pins σ H' { s with heap:=h',gens:=g',drawn:=d',toks:=t' }:=by
 have neL:∀ b o,X.s₀.heap.get? b=some o->b≠X.env.locals:=fun b o e=>Nat.ne_of_lt (Nat.lt_of_lt_of_le (Heap.lt_size e) I.ok.above)
 have neC:∀ b o,X.s₀.heap.get? b=some o->b∉X.ex->b∉ch:=fun b o e hx hb=>by
  rcases (hch b hb).1 with z | z
  ·exact hx z
  ·exact absurd (Nat.lt_of_lt_of_le (Heap.lt_size e) z) (Nat.lt_irrefl _)
 have cellK:∀ x c,X.env.cells.lookup x=some c->∀ v,s.heap.IsCell c v->h'.IsCell c v:=fun x c e v ⟨o,ho,hd⟩=>by
  have nch:c∉ch:=fun z=>(hch c z).2.2.1 x c e rfl
  by_cases hc:c∈X.fs
  ·obtain ⟨sl,q⟩:=slot c o (I.cne x c e) hc nch ho (I.freeC x c e)
   exact ⟨_,q,hd⟩
  ·exact ⟨o,keep c o (I.cne x c e) hc nch ho (I.freeC x c e),hd⟩
 refine ⟨I.ok,I.os,hg,⟨fun b o e n hb hx=>?_,fun b o e n hb hx=>?_,fun b o e n hx=>?_,fun b o e hx=>?_,fun b xs e=>tups b xs (I.base.tups b xs e),fun b o xs e=>frzs b o xs (I.base.frzs b o xs e),fun b ps e=>?_⟩,?_,fun x c e=>?_,?_,fun x c e=>?_,fun p hp=>?_,hok,I.len⟩
 ·exact keep b o (neL b o e) hb (neC b o e hx) (I.base.keep b o e n hb hx) (I.base.free b o e n hx)
 ·obtain ⟨sl,e1⟩:=I.base.slot b o e n hb hx
  obtain ⟨sl',e2⟩:=slot b _ (neL b o e) hb (neC b o e hx) e1 (I.base.free b o e n hx)
  exact ⟨sl',e2⟩
 ·obtain ⟨o',e1⟩:=I.base.there b o e hx
  exact free b o' (neC b o e hx) e1 (I.base.free b o e n hx)
 ·obtain ⟨o',e1⟩:=I.base.there b o e hx
  exact there b o' (neC b o e hx) e1
 ·obtain ⟨m1,e1⟩:=I.base.tbls b ps e
  obtain ⟨m2,e2⟩:=tbls b _ e1
  exact ⟨m1++m2,by rw [e2,Array.append_assoc]⟩
 ·obtain ⟨m,hn,hl⟩:=I.loc
  refine ⟨m,ns m hn,fun i x v e1 e2 e3=>?_⟩
  obtain ⟨u,r,l⟩:=hl i x v e1 e2 e3
  refine ⟨u,r,?_⟩
  rcases l with l | ⟨k,c,e,z⟩
  ·exact .inl l
  ·exact .inr ⟨k,c,e,cellK x c e _ z⟩
 ·obtain ⟨v,z⟩:=I.cell x c e
  exact ⟨v,cellK x c e v z⟩
 ·obtain ⟨m,⟨o,_,_,ho,_⟩,_⟩:=I.loc
  exact free _ o (fun z=>(hch _ z).2.1 rfl) ho I.free
 ·obtain ⟨v,o,ho,hd⟩:=I.cell x c e
  exact free c o (fun z=>(hch c z).2.2.1 x c e rfl) ho (I.freeC x c e)
 ·obtain ⟨e,n,ne,nf,d⟩:=I.pin p hp
  have nch:p.1∉ch:=fun z=>(hch p.1 z).2.2.2 p hp rfl
  exact ⟨keep p.1 p.2 ne nf nch e n,free p.1 p.2 nch e n,ne,nf,d⟩
theorem Inv.un {t':Nat} (I:Inv X pins σ H s) (u:Un X.fs [] H H' s.heap h') (hok:HOk X.prog X.w H' h'):Inv X pins σ H' { s with heap:=h',toks:=t' }:=by
 obtain ⟨m,⟨o,es,ep,ho,r⟩,_⟩:=id I.loc
 obtain ⟨sl,hL⟩:=u.any ho I.free (by simp)
 exact I.step (g':=s.gens) (d':=s.drawn) (ch:=[]) (fun _ z=>nomatch z) (fun b o _ hb _ e n=>u.keep b o e n hb (by simp)) (fun b o _ hb _ e n=>u.slot b o e n hb (by simp)) (fun b o _ e n=>u.free b o e n (by simp)) (fun b o _ e=>u.there b o e (by simp)) u.tups u.frzs u.tbls (fun m' hm=>by
  obtain ⟨o',es',ep',ho',r'⟩:=hm
  rw [ho] at ho'; cases ho'
  exact ⟨_,es',ep',hL,r'⟩) hok I.bare
theorem Inv.call {g':Array GenState} {t':Nat} {d':Drawn} {ch:List Addr} (I:Inv X pins σ H s) (u:Un (frs X.stack) ch H H' s.heap h') (hok:HOk X.prog X.w H' h') (hg:AllBare g')
  (hch:∀ b∈ch,(b∈X.ex\/X.s₀.heap.objs.size <= b)/\b≠X.env.locals/\(∀ x c,X.env.cells.lookup x=some c->c≠b)/\∀ p∈X.pn++pins,p.1≠b) :
  Inv X pins σ H' { s with heap:=h',gens:=g',drawn:=d',toks:=t' }:=by
 obtain ⟨m,⟨o,es,ep,ho,r⟩,_⟩:=id I.loc
 obtain ⟨sl,hL⟩:=u.any ho I.free fun z=>(hch _ z).2.1 rfl
 exact I.step (ch:=ch) hch (fun b o hL hb hc e n=>u.keep b o e n (fun z=>(List.mem_cons.mp (I.stkSub b z)).elim hL hb) hc) (fun b o _ _ hc e n=>u.any e n hc) (fun b o hc e n=>u.free b o e n hc) (fun b o hc e=>u.there b o e hc) u.tups u.frzs u.tbls (fun m' hm=>by
  obtain ⟨o',es',ep',ho',r'⟩:=hm
  rw [ho] at ho'; cases ho'
  exact ⟨_,es',ep',hL,r'⟩) hok hg
theorem Inv.turned {t':Nat} {it:Addr} (I:Inv X pins σ H s) (k:∀ b o,b≠it->s.heap.get? b=some o->h'.get? b=some o) (hn:H it=none) (hL:it≠X.env.locals)
  (h1:it∈X.ex\/X.s₀.heap.objs.size <= it) (h2:∀ x c,X.env.cells.lookup x=some c->c≠it) (h3:∀ p∈X.pn++pins,p.1≠it):Inv X pins σ H { s with heap:=h',toks:=t' }:=by
 have nit:∀ b u,H b=some u->b≠it:=fun b u e z=>by rw [z,hn] at e; cases e
 refine I.step (g':=s.gens) (d':=s.drawn) (ch:=[it]) (fun b hb=>?_) (fun b o _ _ hc e _=>k b o (fun z=>hc (by simp [z])) e) (fun b o _ _ hc e _=>⟨o.slots,k b o (fun z=>hc (by simp [z])) e⟩) (fun _ _ _ _ n=>n)
  (fun b o hc e=>⟨o,k b o (fun z=>hc (by simp [z])) e⟩) (fun _ _ e=>e) (fun _ _ _ e=>e) (fun b ps e=>⟨#[],by rw [e]; simp⟩) (fun m hm=>?_) (fun b u e=>?_) I.bare
 ·have e:b=it:=by simpa using hb
  subst e
  exact ⟨h1,hL,h2,h3⟩
 ·obtain ⟨o,es,ep,ho,r⟩:=hm
  exact ⟨o,es,ep,k _ o (Ne.symm hL) ho,r⟩
 ·refine (I.hok b u e).stay (fun c v hc q=>k c v ?_ q) (fun _ q=>q) fun _ _ q=>q
  rcases hc with z | z
  ·rw [z]; exact nit b u e
  ·exact nit c _ z
theorem Inv.tok (I:Inv X pins σ H s) (t:Nat):Inv X pins σ H { s with toks:=t }:=I.un (h':=s.heap) (t':=t) Un.refl I.hok
theorem Inv.kept {t':Nat} (I:Inv X pins σ H s) (k:∀ b u,s.heap.get? b=some u->h'.get? b=some u):Inv X pins σ H { s with heap:=h',toks:=t' }:=I.un (Un.kept k) (I.hok.kept k)
theorem Inv.laid {a:Addr} {o:HO} {t':Nat} (I:Inv X pins σ H s) (k:∀ b u,s.heap.get? b=some u->h'.get? b=some u) (hp:s.heap.objs.size <= a) (new:xr X.prog X.w (upd H a o) h' a o) :
  Inv X pins σ (upd H a o) { s with heap:=h',toks:=t' }:=I.un (Un.laid k hp (I.hok.fresh hp)) (I.hok.laid k hp new)
theorem Inv.write {x e:Addr} {o:HO} {t':Nat} (I:Inv X pins σ H s) (mu:Mut (H x)) (he:e=x\/H e=some (.own x)) (k:∀ b u,b≠e->s.heap.get? b=some u->h'.get? b=some u) (heo:∃ u,h'.get? e=some u)
  (new:xr X.prog X.w (upd H x o) h' x o):Inv X pins σ (upd H x o) { s with heap:=h',toks:=t' }:=I.un (Un.write mu he k heo) (I.hok.write mu he k heo new)
theorem Inv.pins_of {pins':List (Addr × Obj)} (I:Inv X pins σ H s) (h:∀ p∈pins',s.heap.get? p.1=some p.2/\H p.1=none/\p.1≠X.env.locals/\p.1∉X.fs/\∀ v,p.2.data≠.cell v):Inv X pins' σ H s :=
 ⟨I.ok,I.os,I.bare,I.base,I.loc,I.cell,I.free,I.freeC,fun p hp=>(List.mem_append.mp hp).elim (fun z=>I.pin p (List.mem_append_left _ z)) (h p),I.hok,I.len⟩
theorem ygt {N:List Str} (hN:N.Nodup) {i j:Nat} {x:Str} (a:N[i]?=some x) (b:N[j]?=some x):i=j:=by
 obtain ⟨h1,e1⟩:=List.getElem?_eq_some_iff.mp a
 obtain ⟨h2,e2⟩:=List.getElem?_eq_some_iff.mp b
 exact (List.getElem_inj hN).mp (e1.trans e2.symm)
theorem ybd {M:Model} {A:Around} {E:Value->Shared->Prop} {i:Nat} {x:Str} {v:V} {u:Value} {Q:Unit->Shared->Prop} (I:Inv X pins σ H s) (hN:X.N.Nodup) (hi:X.N[i]?=some x) (hx:Loc X.env.scope x) (r:xk v u)
  (h:∀ s',Inv X pins (σ.set i (some v)) H s'->(∃ a,Heap.SameBut a s.heap s'.heap/\(a=X.env.locals\/X.env.cells.lookup x=some a))->Q () s') (hf:X.fn x=true\/X.env.scope.names.lookup x=some .local:=by first | exact .inl rfl | exact .inr rfl | assumption):wpAny M A (storeName X.env x u) Q E s:=by
 obtain ⟨m,hn,hl⟩:=id I.loc
 have hcls:(X.env.scope.kind == .class || (X.env.scope.kind == .module && X.env.locals != X.env.globals))=false:=by rw [I.ok.kind]; rfl
 have hiσ:i < σ.length:=by rw [I.len]; exact (List.getElem?_eq_some_iff.mp hi).1
 have cne:=I.cne
 have tracked:∀ {a:Addr} {h':Heap},(∃ o,s.heap.get? a=some o/\H a=none)->Heap.SameBut a s.heap h'->HOk X.prog X.w H h':=fun {a h'} ha hs b ob e=>by
  obtain ⟨_,_,hfree⟩:=ha
  refine (I.hok b ob e).stay (fun c w' hc q=>(hs.2 c ?_).trans q) (fun _ q=>q) fun _ _ q=>q
  rintro rfl
  rcases hc with rfl | hc
  ·rw [hfree] at e; cases e
  ·rw [hfree] at hc; cases hc
 rcases hx with hk | hk
 ·refine wpAny_storeName_local hk hn (fun h' hn' hs=>?_) hcls
  obtain ⟨oL,_,_,hoL,_⟩:=id hn
  refine h _ ⟨I.ok,I.os,I.bare,⟨fun b o e n hb hx=>?_,fun b o e n hb hx=>?_,I.base.free,fun b o e hx=>?_,I.base.tups,I.base.frzs,I.base.tbls⟩,⟨_,hn',fun j y v' e1 e2 e3=>?_⟩,fun y c e=>?_,I.free,I.freeC,fun p hp=>?_,tracked ⟨oL,hoL,I.free⟩ hs,by simpa using I.len⟩ ⟨_,hs,.inl rfl⟩
  ·exact (hs.2 b (Nat.ne_of_lt (Nat.lt_of_lt_of_le (Heap.lt_size e) I.ok.above))).trans (I.base.keep b o e n hb hx)
  ·obtain ⟨sl,e1⟩:=I.base.slot b o e n hb hx
   exact ⟨sl,(hs.2 b (Nat.ne_of_lt (Nat.lt_of_lt_of_le (Heap.lt_size e) I.ok.above))).trans e1⟩
  ·obtain ⟨o',e1⟩:=I.base.there b o e hx
   exact ⟨o',(hs.2 b (Nat.ne_of_lt (Nat.lt_of_lt_of_le (Heap.lt_size e) I.ok.above))).trans e1⟩
  ·by_cases hj:j=i
   ·subst hj
    rw [hi] at e1; cases e1
    rw [List.getElem?_set_self hiσ] at e2
    cases e2
    exact ⟨u,r,.inl ⟨hk,by simp⟩⟩
   ·rw [List.getElem?_set_ne (Ne.symm hj)] at e2
    obtain ⟨u',r',q⟩:=hl j y v' e1 e2 e3
    refine ⟨u',r',?_⟩
    rcases q with ⟨k,e⟩ | ⟨k,c,e,z⟩
    ·refine .inl ⟨k,?_⟩
     have:y≠x:=fun e=>hj (ygt hN e1 (e ▸ hi))
     simp [this,e]
    ·exact .inr ⟨k,c,e,z.sameBut hs (cne y c e)⟩
  ·obtain ⟨w',z⟩:=I.cell y c e
   exact ⟨w',z.sameBut hs (cne y c e)⟩
  ·obtain ⟨e,n,ne,nf,d⟩:=I.pin p hp
   exact ⟨(hs.2 p.1 ne).trans e,n,ne,nf,d⟩
 ·have hfn:X.fn x=true:=by
   rcases hf with z | z
   ·exact z
   ·rw [z] at hk; cases hk
  obtain ⟨c,hc⟩:=I.ok.has x (.inl hk)
  obtain ⟨w',z⟩:=I.cell x c hc
  refine wpAny_storeName_cell I.ok.kind hk hc z (fun h' hc' hs=>?_)
  obtain ⟨oc,hoc,hocd⟩:=id z
  refine h { s with heap:=h' } ⟨I.ok,I.os,I.bare,⟨fun b o e n hb hx=>?_,fun b o e n hb hx=>?_,I.base.free,fun b o e hx=>?_,I.base.tups,I.base.frzs,I.base.tbls⟩,⟨m,hn.sameBut hs (Ne.symm (cne x c hc)),fun j y v' e1 e2 e3=>?_⟩,fun y c' e=>?_,I.free,I.freeC,fun p hp=>?_,tracked ⟨oc,hoc,I.freeC x c hc⟩ hs,by simpa using I.len⟩ ⟨c,hs,.inr hc⟩
  ·exact (hs.2 b (Nat.ne_of_lt (Nat.lt_of_lt_of_le (Heap.lt_size e) (I.ok.cab x c hfn hc)))).trans (I.base.keep b o e n hb hx)
  ·obtain ⟨sl,e1⟩:=I.base.slot b o e n hb hx
   exact ⟨sl,(hs.2 b (Nat.ne_of_lt (Nat.lt_of_lt_of_le (Heap.lt_size e) (I.ok.cab x c hfn hc)))).trans e1⟩
  ·obtain ⟨o',e1⟩:=I.base.there b o e hx
   exact ⟨o',(hs.2 b (Nat.ne_of_lt (Nat.lt_of_lt_of_le (Heap.lt_size e) (I.ok.cab x c hfn hc)))).trans e1⟩
  ·by_cases hj:j=i
   ·subst hj
    rw [hi] at e1; cases e1
    rw [List.getElem?_set_self hiσ] at e2
    cases e2
    exact ⟨u,r,.inr ⟨.inl hk,c,hc,hc'⟩⟩
   ·rw [List.getElem?_set_ne (Ne.symm hj)] at e2
    obtain ⟨u',r',q⟩:=hl j y v' e1 e2 e3
    refine ⟨u',r',?_⟩
    rcases q with q | ⟨k,c',e,z'⟩
    ·exact .inl q
    ·refine .inr ⟨k,c',e,z'.sameBut hs ?_⟩
     rintro rfl
     exact hj (ygt hN e1 (I.ok.inj _ _ _ e hc ▸ hi))
  ·by_cases hcc:c'=c
   ·subst hcc; exact ⟨_,hc'⟩
   ·obtain ⟨w2,z2⟩:=I.cell y c' e
    exact ⟨w2,z2.sameBut hs hcc⟩
  ·obtain ⟨e,n,ne,nf,d⟩:=I.pin p hp
   refine ⟨(hs.2 p.1 ?_).trans e,n,ne,nf,d⟩
   intro q
   rw [q,hoc] at e
   have q':oc=p.2:=Option.some.inj e
   exact d w' (by rw [<- q']; exact hocd)
theorem yat {M:Model} {A:Around} {E:Value->Shared->Prop} {i:Nat} {x:Str} {v:V} {u:Value} {Q:Unit->Shared->Prop} (I:Inv X pins σ H s) (hN:X.N.Nodup) (hi:X.N[i]?=some x) (hx:Loc X.env.scope x) (r:xk v u)
  (h:∀ s',Inv X pins (σ.set i (some v)) H s'->Q () s') (hf:X.fn x=true\/X.env.scope.names.lookup x=some .local:=by first | exact .inl rfl | exact .inr rfl | assumption):wpAny M A (storeName X.env x u) Q E s :=
 ybd I hN hi hx r (fun s' I' _=>h s' I') hf
theorem Inv.call' {s':Shared} {ch:List Addr} (I:Inv X pins σ H s) (ho:s'.os=s.os) (u:Un (frs X.stack) ch H H' s.heap s'.heap) (hok:HOk X.prog X.w H' s'.heap) (hg:AllBare s'.gens)
  (hch:∀ b∈ch,(b∈X.ex\/X.s₀.heap.objs.size <= b)/\b≠X.env.locals/\(∀ x c,X.env.cells.lookup x=some c->c≠b)/\∀ p∈X.pn++pins,p.1≠b):Inv X pins σ H' s':=by
 obtain ⟨h',g',d',t',o'⟩:=s'
 have e:o'=s.os:=ho
 subst e
 exact I.call (g':=g') (t':=t') (d':=d') u hok hg hch
end
abbrev XK:=Value->Option Addr->Hp->Prop
abbrev St:=List (Option V)
abbrev VK:=V->Hp->Prop
abbrev TE:=St->Hp->VK->Prop
abbrev TT:=St->Hp->(Bool->Hp->Prop)->Prop
abbrev TA:=St->Hp->(List V->Hp->Prop)->Prop
structure yhk where
 nx:St->Hp->Prop
 rt:VK
 bk:St->Hp->Prop:=fun _ _=>False
 ct:St->Hp->Prop:=fun _ _=>False
abbrev TS:=yhk->St->Hp->Prop
def EP (X:Cx) (pins:List (Addr × Obj)) (σ:St) (Q:VK) (u:Value) (s':Shared):Prop:=∃ v H',Inv X pins σ H' s'/\xk v u/\Q v H'
def TP (X:Cx) (pins:List (Addr × Obj)) (σ:St) (Q:Bool->Hp->Prop) (b:Bool) (s':Shared):Prop:=∃ H',Inv X pins σ H' s'/\Q b H'
def AP (X:Cx) (pins:List (Addr × Obj)) (σ:St) (Q:List V->Hp->Prop) (us:List Value) (s':Shared):Prop:=∃ vs H',Inv X pins σ H' s'/\wu vs us/\Q vs H'
def SP (X:Cx) (pins:List (Addr × Obj)) (D:yhk) (f:Flow) (s':Shared):Prop :=
 match f with
 | .next=>∃ σ' H',Inv X pins σ' H' s'/\D.nx σ' H'
 | .brk=>∃ σ' H',Inv X pins σ' H' s'/\D.bk σ' H'
 | .cont=>∃ σ' H',Inv X pins σ' H' s'/\D.ct σ' H'
 | .ret u=>∃ v σ' H',Inv X pins σ' H' s'/\xk v u/\D.rt v H'
def PE (X:Cx) (e:Expr) (t:TE):Prop :=
 ∀ (pins:List (Addr × Obj)) (s:Shared) (σ:St) (H:Hp) (Q:VK),Inv X pins σ H s->t σ H Q->wpAny (model X.prog X.w) X.A (eval e X.env) (EP X pins σ Q) X.xe s
def PT (X:Cx) (e:Expr) (t:TT):Prop :=
 ∀ (pins:List (Addr × Obj)) (s:Shared) (σ:St) (H:Hp) (Q:Bool->Hp->Prop),Inv X pins σ H s->t σ H Q->wpAny (model X.prog X.w) X.A (isTrue e X.env (eval e X.env)) (TP X pins σ Q) X.xe s
def PW (X:Cx) (e:Expr) (t:TT):Prop :=
 ∀ (whole:Sem Value) (pins:List (Addr × Obj)) (s:Shared) (σ:St) (H:Hp) (Q:Bool->Hp->Prop),Inv X pins σ H s->t σ H Q->wpAny (model X.prog X.w) X.A (isTrue e X.env whole) (TP X pins σ Q) X.xe s
theorem PW.pt {X:Cx} {e:Expr} {t:TT} (h:PW X e t):PT X e t:=h _
def PA (X:Cx) (es:List Expr) (t:TA):Prop :=
 ∀ (pos:Pos) (pins:List (Addr × Obj)) (s:Shared) (σ:St) (H:Hp) (Q:List V->Hp->Prop),Inv X pins σ H s->t σ H Q->wpAny (model X.prog X.w) X.A (spliced (backTo pos (starEach es X.env))) (AP X pins σ Q) X.xe s
def PS (X:Cx) (st:Stmt) (t:TS):Prop :=
 ∀ (pins:List (Addr × Obj)) (s:Shared) (σ:St) (H:Hp) (D:yhk),Inv X pins σ H s->t D σ H->wpAny (model X.prog X.w) X.A (exec st X.env) (SP X pins D) X.xe s
def PSs (X:Cx) (st:List Stmt) (t:TS):Prop :=
 ∀ (pins:List (Addr × Obj)) (s:Shared) (σ:St) (H:Hp) (D:yhk),Inv X pins σ H s->t D σ H->wpAny (model X.prog X.w) X.A (execs st X.env) (SP X pins D) X.xe s
theorem thn {α:Type} {t:Sem α} {Q Q':α->Shared->Prop} {M:Model} {A:Around} {E:Value->Shared->Prop} {s:Shared} (h:wpAny M A t Q E s) (hQ:∀ a s,Q a s->Q' a s):wpAny M A t Q' E s:=wpAny_mono h hQ fun _ _ x=>x
end L2
namespace L2
open PySem PySem.Spec PyProof.Rows
section
variable {X:Cx}
def va5 (i:Nat):TE:=fun σ H Q=>∃ v,σ[i]?=some (some v)/\Q v H
def tC (v:V):TE:=fun _ H Q=>Q v H
theorem yxn {i:Nat} {x:Str} {pos:Pos} (hN:X.N[i]?=some x) (hv:Vis X.env.scope x) (hd:(x == ("__debug__":Str))=false:=by decide) (hcd:(x == ("__classdict__":Str))=false:=by decide):PE X (.Name x pos) (va5 i):=by
 intro pins s σ H Q I h
 obtain ⟨v,e,h⟩:=h
 obtain ⟨m,hn,hl⟩:=I.loc
 obtain ⟨u,r,l⟩:=hl i x v hN e hv
 have fin:EP X pins σ Q u s:=⟨v,H,I,r,h⟩
 rcases l with ⟨hk,hm⟩ | ⟨hk,c,hc,hcell⟩
 ·exact wpAny_Name (wpAny_loadName_local I.ok.kind hk hn hm fin) hd
 ·rcases hk with hk | hk
  ·exact wpAny_Name (wpAny_loadName_cell I.ok.kind hk hc hcell fin) hd
  ·exact wpAny_Name (wpAny_loadName_free I.ok.kind hk hc hcell fin hcd) hd
theorem yg {i j pos}:PE X (.Constant (.int i) j pos) (tC (.int i)):=fun _ _ _ H _ I h=>wpAny_Constant_int ⟨.int i,H,I.tok _,⟨_,rfl⟩,h⟩
theorem ybm {b j pos}:PE X (.Constant (.bool b) j pos) (tC (.bl b)):=fun _ _ _ H _ I h=>Constant_bool ⟨.bl b,H,I,rfl,h⟩
theorem yop {j pos}:PE X (.Constant .none j pos) (tC .non):=fun _ _ _ H _ I h=>Constant_none ⟨.non,H,I,rfl,h⟩
theorem x9 {x j pos}:PE X (.Constant (.str x) j pos) (tC (.str x)):=fun _ _ _ H _ I h=>Calls.Constant_str ⟨.str x,H,I.tok _,⟨_,rfl⟩,h⟩
def Gl (X:Cx) (x:Str):Prop:=X.env.kindOf x=some .globalImplicit
theorem jc {E:Value->Shared->Prop} {pins:List (Addr × Obj)} {s:Shared} {σ:St} {H:Hp} {x:Str} {u:Value} {pos:Pos} {Q:Value->Shared->Prop} (I:Inv X pins σ H s) (hg:Gl X x) (hm:X.mg x=some u) (h:Q u s)
  (hd:(x == ("__debug__":Str))=false:=by decide):wpAny (model X.prog X.w) X.A (eval (.Name x pos) X.env) Q E s :=
 Calls.Name_function_global I.ok.kind hg (Calls.loadGlobal_global (by rw [I.ok.glob]; exact I.mod.glob.keeps I.bk) hm h) hd
theorem ybj {E:Value->Shared->Prop} {pins:List (Addr × Obj)} {s:Shared} {σ:St} {H:Hp} {x:Str} {u:Value} {pos:Pos} {Q:Value->Shared->Prop} (I:Inv X pins σ H s) (hg:Gl X x) (hm:X.mg x=none) (hv:bootBuiltins x=some u) (h:Q u s)
  (hn:x≠"__name__":=by decide) (hd:(x == ("__debug__":Str))=false:=by decide):wpAny (model X.prog X.w) X.A (eval (.Name x pos) X.env) Q E s:=by
 obtain ⟨mb,h1,h2⟩:=I.mod.blt
 exact Calls.Name_function_global I.ok.kind hg (Calls.loadGlobal_builtin (by rw [I.ok.glob]; exact I.mod.glob.keeps I.bk) hm (by rw [I.ok.blt]; exact h1.keeps I.bk) ((h2 x hn).trans hv) h) hd
theorem yk6 {x:Str} {v:V} {u:Value} {pos:Pos} (hg:Gl X x) (hm:X.mg x=some u) (r:xk v u) (hd:(x == ("__debug__":Str))=false:=by decide):PE X (.Name x pos) (tC v) :=
 fun _ _ _ H _ I h=>jc I hg hm ⟨v,H,I,r,h⟩ hd
theorem yrk {x:Str} {v:V} {u:Value} {pos:Pos} (hg:Gl X x) (hm:X.mg x=none) (hv:bootBuiltins x=some u) (r:xk v u) (hn:x≠"__name__":=by decide) (hd:(x == ("__debug__":Str))=false:=by decide):PE X (.Name x pos) (tC v) :=
 fun _ _ _ H _ I h=>ybj I hg hm hv ⟨v,H,I,r,h⟩ hn hd
variable {a b:Expr} {ta tb:TE} {pos:Pos}
def PC (X:Cx) (op:CmpOp) (a b:Expr) (t:TE):Prop :=
 ∀ (pins:List (Addr × Obj)) (s:Shared) (σ:St) (H:Hp) (Q:VK),Inv X pins σ H s->t σ H Q ->
  wpAny (model X.prog X.w) X.A (eval a X.env) (fun v s₁=>wpAny (model X.prog X.w) X.A (eval b X.env) (fun u s₂=>wpAny (model X.prog X.w) X.A (compareOp op v u) (EP X pins σ Q) X.xe s₂) X.xe s₁) X.xe s
def tB (t:TE):TT:=fun σ H Q=>t σ H fun x H1=>∃ c,x=.bl c/\Q c H1
theorem yv1 {op:CmpOp} {t:TE} (h:PC X op a b t) (h1:behindInMarks op b=false:=by first | exact nobehind _ (by decide) (by decide) | rfl):PT X (.Compare a [op] [b] pos) (tB t):=by
 intro pins s σ H Q I hw
 refine wpAny_isTrue_Compare1 (thn (h pins s σ H _ I hw) fun v s1 h1=>thn h1 fun u s2 h2=>thn h2 fun c s3 ⟨x,H1,I1,r1,q1⟩=>?_) h1
 obtain ⟨d,rfl,q⟩:=q1
 cases r1
 exact wpAny_truthy_bool ⟨H1,I1,q⟩
theorem wq {e:Expr} {t:TE} (h:PE X e t) (he:∀ whole,isTrue e X.env whole=(do let v <- whole; standAt e.pos; holding [v] (truthy v)):=by intro _; rfl):PT X e (tB t):=by
 intro pins s σ H Q I hw
 refine isTrue_plain (thn (h pins s σ H _ I hw) fun v s1 ⟨x,H1,I1,r1,q1⟩=>?_) (he _)
 obtain ⟨d,rfl,q⟩:=q1
 cases r1
 exact wpAny_truthy_bool ⟨H1,I1,q⟩
variable {tA tB':TT} {yav:List Expr}
def vbn (t u:TT):TT:=fun σ H Q=>t σ H fun c H1=>if c=true then u σ H1 Q else Q false H1
def tOr (t u:TT):TT:=fun σ H Q=>t σ H fun c H1=>if c=true then Q true H1 else u σ H1 Q
def vbu (t:TT):TT:=fun σ H Q=>t σ H fun c H1=>Q (!c) H1
theorem yfx (ha:PT X a tA):PW X (.BoolOp .And [a] pos) tA:=by
 intro wh pins s σ H Q I h
 refine isTrue_and (thn (ha pins s σ H Q I h) fun c s1 e=>?_)
 cases c with
 | true=>exact isTrue_and_nil e
 | false=>exact e
theorem u5 (ha:PT X a tA):PW X (.BoolOp .Or [a] pos) tA:=by
 intro wh pins s σ H Q I h
 refine isTrue_or (thn (ha pins s σ H Q I h) fun c s1 e=>?_)
 cases c with
 | false=>exact isTrue_or_nil e
 | true=>exact e
theorem ylm (ha:PT X a tA) (hb:PW X (.BoolOp .And (b :: yav) pos) tB'):PW X (.BoolOp .And (a :: b :: yav) pos) (vbn tA tB'):=by
 intro wh pins s σ H Q I h
 refine isTrue_and (thn (ha pins s σ H _ I h) fun c s1 ⟨H1,I1,q1⟩=>?_)
 cases c with
 | true=>exact hb wh pins s1 σ H1 Q I1 q1
 | false=>exact ⟨H1,I1,q1⟩
theorem uk (ha:PT X a tA) (hb:PW X (.BoolOp .Or (b :: yav) pos) tB'):PW X (.BoolOp .Or (a :: b :: yav) pos) (tOr tA tB'):=by
 intro wh pins s σ H Q I h
 refine isTrue_or (thn (ha pins s σ H _ I h) fun c s1 ⟨H1,I1,q1⟩=>?_)
 cases c with
 | true=>exact ⟨H1,I1,q1⟩
 | false=>exact hb wh pins s1 σ H1 Q I1 q1
theorem wd (ha:PT X a tA):PT X (.UnaryOp .Not a pos) (vbu tA):=by
 intro pins s σ H Q I h
 exact isTrue_not (ha pins s σ H (fun c H1=>Q (!c) H1) I h)
def yze (ta tb:TE):TE:=fun σ H Q=>ta σ H fun x H1=>∃ c,x=.bl c/\if c=true then tb σ H1 Q else Q (.bl false) H1
def yyn (ta:TE):TE:=fun σ H Q=>ta σ H fun x H1=>∃ c,x=.bl c/\Q (.bl (!c)) H1
theorem zy {op} {t:TE} (h:PE X a t):PE X (.BoolOp op [a] pos) t:=fun pins s σ H Q I hw=>BoolOp_one (h pins s σ H Q I hw)
theorem ut (ha:PE X a ta) (hb:PE X (.BoolOp .And (b :: yav) pos) tb):PE X (.BoolOp .And (a :: b :: yav) pos) (yze ta tb):=by
 intro pins s σ H Q I h
 refine BoolOp_and (thn (ha pins s σ H _ I h) fun v s1 ⟨x,H1,I1,r1,q1⟩=>?_)
 obtain ⟨c,rfl,q1⟩:=q1
 cases r1
 refine wpAny_truthy_bool ?_
 cases c with
 | true=>exact hb pins s1 σ H1 Q I1 q1
 | false=>exact ⟨.bl false,H1,I1,rfl,q1⟩
theorem yp3 (ha:PE X a ta):PE X (.UnaryOp .Not a pos) (yyn ta):=by
 intro pins s σ H Q I h
 refine UnaryOp_ (thn (ha pins s σ H _ I h) fun v s1 ⟨x,H1,I1,r1,q1⟩=>?_)
 obtain ⟨c,rfl,q1⟩:=q1
 cases r1
 exact not_of (wpAny_truthy_bool ⟨.bl (!c),H1,I1,rfl,q1⟩)
def tIf (t:TT) (ta tb:TE):TE:=fun σ H Q=>t σ H fun c H1=>if c=true then ta σ H1 Q else tb σ H1 Q
theorem jw {c:Expr} (hc:PT X c tA) (ha:PE X a ta) (hb:PE X b tb):PE X (.IfExp c a b pos) (tIf tA ta tb):=by
 intro pins s σ H Q I h
 refine wpAny_IfExp (thn (hc pins s σ H _ I h) fun d s1 ⟨H1,I1,q1⟩=>?_)
 cases d with
 | true=>exact ha pins s1 σ H1 Q I1 q1
 | false=>exact hb pins s1 σ H1 Q I1 q1
end
end L2
namespace L2
open PySem PySem.Spec PyProof.Rows
def SqL (K:W.Frag) (H:Hp) (a:Addr) (xs:List V):Prop :=
 Rd H a (.lst xs) \/
  ∃ (o:Obj) (its:Array Value) (n:Nat),K.lookup a=some o/\o.cls=.type "list"/\o.dict=none/\o.data=.seq its n/\its.size <= sizeLine/\wu xs its.toList
def SqT (K:W.Frag) (H:Hp) (a:Addr) (xs:List V):Prop :=
 Rd H a (.tup xs) \/
  ∃ (o:Obj) (its:Array Value) (n:Nat),K.lookup a=some o/\o.cls=.type "tuple"/\o.data=.seq its n/\its.size <= sizeLine/\wu xs its.toList
def vch:Value->Option V
 | .none=>some .non
 | .bool b=>some (.bl b)
 | .int i _=>some (.int i)
 | .str x _=>some (.str x)
 | .bytes b _=>some (.byt b)
 | .float b _=>some (.flt b)
 | .ref a=>some (.ref a)
 | .type n=>some (.ty n)
 | _=>none
theorem xk.abs {x:V} {u:Value} (r:xk x u):vch u=some x:=by
 cases x with
 | non=>cases r; rfl
 | bl _=>cases r; rfl
 | int _=>obtain ⟨t,rfl⟩:=r; rfl
 | str _=>obtain ⟨t,rfl⟩:=r; rfl
 | byt _=>obtain ⟨t,rfl⟩:=r; rfl
 | flt _=>obtain ⟨t,rfl⟩:=r; rfl
 | ref _=>cases r; rfl
 | ty _=>cases r; rfl
theorem xk.inj {x y:V} {u:Value} (r:xk x u) (q:xk y u):x=y:=Option.some.inj (r.abs.symm.trans q.abs)
theorem wu.inj:∀ {xs ys:List V} {us:List Value},wu xs us->wu ys us->xs=ys
 | _,_,_,.nil,.nil=>rfl
 | _,_,_,.cons r t,.cons r' t'=>by rw [r.inj r',wu.inj t t']
section
variable {X:Cx} {pins:List (Addr × Obj)} {σ:St} {H:Hp} {s:Shared} {a:Addr} {xs ys:List V}
theorem SqL.of {K:W.Frag} (h:H a=some (.lst xs)):SqL K H a xs:=.inl (.inl h)
theorem SqT.of {K:W.Frag} (h:H a=some (.tup xs)):SqT K H a xs:=.inl (.inl h)
theorem Inv.list (I:Inv X pins σ H s) (h:SqL X.K H a xs):∃ its:List Value,wu xs its/\PlainL s.heap a its.toArray/\xs.length <= sizeLine:=by
 rcases h with h | ⟨o,its,n,hk,hc,hd,hs,hz,r⟩
 ·obtain ⟨z,its,n,r,e⟩:=h.ok I.hok
  exact ⟨its,r,⟨_,n,e,rfl,rfl,rfl⟩,z⟩
 ·refine ⟨its.toList,r,⟨o,n,I.kIn a o hk,hc,hd,by simpa using hs⟩,?_⟩
  have e:=r.length
  simp only [Array.length_toList] at e
  omega
theorem Inv.tuple (I:Inv X pins σ H s) (h:SqT X.K H a xs):∃ its:List Value,wu xs its/\IsTup s.heap a its.toArray/\xs.length <= sizeLine:=by
 rcases h with h | ⟨o,its,n,hk,hc,hs,hz,r⟩
 ·obtain ⟨z,its,r,p⟩:=h.ok I.hok
  exact ⟨its,r,p,z⟩
 ·refine ⟨its.toList,r,⟨o,I.kIn a o hk,hc,n,by simpa using hs⟩,?_⟩
  have e:=r.length
  simp only [Array.length_toList] at e
  omega
theorem Inv.list_inj (I:Inv X pins σ H s) (h:SqL X.K H a xs) (h':SqL X.K H a ys):xs=ys:=by
 obtain ⟨its,r,⟨o,n,e,_,_,d⟩,_⟩:=I.list h
 obtain ⟨its',r',⟨o',n',e',_,_,d'⟩,_⟩:=I.list h'
 rw [e] at e'; cases e'
 rw [d] at d'
 injection d' with d1 _
 have:its=its':=by simpa using congrArg Array.toList d1
 subst this
 exact r.inj r'
theorem Inv.tuple_inj (I:Inv X pins σ H s) (h:SqT X.K H a xs) (h':SqT X.K H a ys):xs=ys:=by
 obtain ⟨its,r,⟨o,e,_,n,d⟩,_⟩:=I.tuple h
 obtain ⟨its',r',⟨o',e',_,n',d'⟩,_⟩:=I.tuple h'
 rw [e] at e'; cases e'
 rw [d] at d'
 injection d' with d1 _
 have:its=its':=by simpa using congrArg Array.toList d1
 subst this
 exact r.inj r'
end
abbrev Cx.wish (X:Cx) (E:Value->Shared->Prop):Cx:={ X with xe:=E }
abbrev Cx.nox (X:Cx):Cx:=X.wish fun _ _=>False
theorem Cx.Ok.wish {X:Cx} (ok:X.Ok) (E:Value->Shared->Prop):(X.wish E).Ok :=
 ⟨ok.mod,ok.kind,ok.glob,ok.blt,ok.above,ok.inj,ok.has,ok.cab,ok.hd,ok.frames,ok.stk,ok.exf,ok.bs,ok.bsz,ok.noex,ok.exfs,ok.funs,ok.frf⟩
theorem Cx.Ok.unwish {X:Cx} {E:Value->Shared->Prop} (ok:(X.wish E).Ok):X.Ok :=
 ⟨ok.mod,ok.kind,ok.glob,ok.blt,ok.above,ok.inj,ok.has,ok.cab,ok.hd,ok.frames,ok.stk,ok.exf,ok.bs,ok.bsz,ok.noex,ok.exfs,ok.funs,ok.frf⟩
section
variable {X:Cx} {pins:List (Addr × Obj)} {σ:St} {H:Hp} {s:Shared} {E:Value->Shared->Prop}
theorem Inv.wish (I:Inv X pins σ H s) (E:Value->Shared->Prop):Inv (X.wish E) pins σ H s:=⟨I.ok.wish E,I.os,I.bare,I.base,I.loc,I.cell,I.free,I.freeC,I.pin,I.hok,I.len⟩
theorem Inv.unwish (I:Inv (X.wish E) pins σ H s):Inv X pins σ H s:=⟨I.ok.unwish,I.os,I.bare,I.base,I.loc,I.cell,I.free,I.freeC,I.pin,I.hok,I.len⟩
theorem SP.unwish {D:yhk} {f:Flow} {s':Shared} (h:SP (X.wish E) pins D f s'):SP X pins D f s':=by
 cases f with
 | next=>obtain ⟨σ',H',I,q⟩:=h; exact ⟨σ',H',I.unwish,q⟩
 | brk=>obtain ⟨σ',H',I,q⟩:=h; exact ⟨σ',H',I.unwish,q⟩
 | cont=>obtain ⟨σ',H',I,q⟩:=h; exact ⟨σ',H',I.unwish,q⟩
 | ret u=>obtain ⟨v,σ',H',I,r,q⟩:=h; exact ⟨v,σ',H',I.unwish,r,q⟩
theorem PSs.nox {st:List Stmt} {t:TS} (h:PSs X.nox st t):PSs X st t:=fun pins s σ H D I hw =>
 wpAny_mono (h pins s σ H D (I.wish _) hw) (fun _ _ q=>q.unwish) fun _ _ z=>False.elim z
end
section
variable {X:Cx} {st:Stmt} {yav:List Stmt} {t u:TS} {e:Expr} {te:TE} {pos:Pos}
def yyy:TS:=fun D σ H=>D.nx σ H
def vbh (t u:TS):TS:=fun D σ H=>t { D with nx:=u D } σ H
theorem ve:PSs X [] yyy:=fun _ _ σ H _ I h=>wpAny_execs_nil ⟨σ,H,I,h⟩
theorem yj (h1:PS X st t) (h2:PSs X yav u):PSs X (st :: yav) (vbh t u):=by
 intro pins s σ H D I h
 refine wpAny_execs_cons (thn (h1 pins s σ H { D with nx:=u D } I h) fun f s1 q=>?_)
 cases f with
 | next =>
  obtain ⟨σ',H',I',q⟩:=q
  exact h2 pins s1 σ' H' D I' q
 | ret v=>exact q
 | brk=>exact q
 | cont=>exact q
theorem yh (h1:PS X st t):PSs X [st] t:=by
 intro pins s σ H D I h
 refine wpAny_execs_cons (thn (h1 pins s σ H D I h) fun f s1 q=>?_)
 cases f with
 | next=>exact wpAny_execs_nil q
 | ret v=>exact q
 | brk=>exact q
 | cont=>exact q
theorem Inv.quiet {pins:List (Addr × Obj)} {σ:St} {H:Hp} {s:Shared} (I:Inv X pins σ H s):interactive X.env=false:=by simp [interactive,I.ok.kind]
def yyw (te:TE):TS:=fun D σ H=>te σ H fun _ H1=>D.nx σ H1
theorem y9 (he:PE X e te) (hs:swapsWith e none pos.line X.env=pure false:=by rfl):PS X (.Expr e pos) (yyw te):=by
 intro pins s σ H D I h
 exact wpAny_Expr_any (thn (he pins s σ H _ I h) fun v s1 ⟨x,H1,I1,r1,q1⟩=>⟨σ,H1,I1,q1⟩) I.quiet hs
def vbm (te:TE):TS:=fun D σ H=>te σ H D.rt
theorem yw (he:PE X e te):PS X (.Return (some e) pos) (vbm te):=by
 intro pins s σ H D I h
 exact wpAny_Return_some (thn (he pins s σ H _ I h) fun v s1 ⟨x,H1,I1,r1,q1⟩=>⟨x,σ,H1,I1,r1,q1⟩)
def vbt (c:TT) (t u:TS):TS:=fun D σ H=>c σ H fun b H1=>if b=true then t D σ H1 else u D σ H1
theorem wo {c:Expr} {a b:List Stmt} {tc:TT} (hc:PT X c tc) (ha:PSs X a t) (hb:PSs X b u):PS X (.If c a b pos) (vbt tc t u):=by
 intro pins s σ H D I h
 refine wpAny_If (thn (hc pins s σ H _ I h) fun d s1 ⟨H1,I1,q1⟩=>?_)
 cases d with
 | true=>exact ha pins s1 σ H1 D I1 q1
 | false=>exact hb pins s1 σ H1 D I1 q1
def yxa:TS:=fun _ _ _=>False
theorem ycz:PS X st yxa:=fun _ _ _ _ _ _ h=>h.elim
end
abbrev TG:=V->St->Hp->(St->Hp->Prop)->Prop
abbrev TGs:=List V->St->Hp->(St->Hp->Prop)->Prop
def PG (X:Cx) (target:Expr) (t:TG):Prop :=
 ∀ (pins:List (Addr × Obj)) (s:Shared) (σ:St) (H:Hp) (v:V) (u:Value) (Q:St->Hp->Prop),Inv X pins σ H s->xk v u->t v σ H Q ->
  wpAny (model X.prog X.w) X.A (assign target X.env u) (fun _ s'=>∃ σ' H',Inv X pins σ' H' s'/\Q σ' H') X.xe s
def PGs (X:Cx) (ts:List Expr) (t:TGs):Prop :=
 ∀ (pins:List (Addr × Obj)) (s:Shared) (σ:St) (H:Hp) (vs:List V) (us:List Value) (Q:St->Hp->Prop),Inv X pins σ H s->wu vs us->t vs σ H Q ->
  wpAny (model X.prog X.w) X.A (assignInOrder ((assignEach ts X.env).map (·.2)) us) (fun _ s'=>∃ σ' H',Inv X pins σ' H' s'/\Q σ' H') X.xe s
section
variable {X:Cx} {pos:Pos}
def wy (i:Nat):TG:=fun v σ H Q=>Q (σ.set i (some v)) H
theorem vz {i:Nat} {x:Str} (hN:X.N.Nodup) (hi:X.N[i]?=some x) (hx:Loc X.env.scope x) (hf:X.fn x=true\/X.env.scope.names.lookup x=some .local:=by first | exact .inl rfl | exact .inr rfl | assumption):PG X (.Name x pos) (wy i):=by
 intro pins s σ H v u Q I r h
 exact wpAny_assign_Name (yat I hN hi hx r (fun s' I'=>⟨_,H,I',h⟩) hf)
def ymb:TGs:=fun vs σ H Q=>vs=[]/\Q σ H
def ul (t:TG) (u:TGs):TGs:=fun vs σ H Q=>∃ v r,vs=v :: r/\t v σ H fun σ' H'=>u r σ' H' Q
theorem j9:PGs X [] ymb:=by
 intro pins s σ H vs us Q I r h
 obtain ⟨e,h⟩:=h
 subst e
 cases r
 exact assignInOrder_nil ⟨σ,H,I,h⟩
theorem w6 {e:Expr} {es:List Expr} {t:TG} {u:TGs} (h1:PG X e t) (h2:PGs X es u)
  (hs:(assignEach (e :: es) X.env).map (·.2)=assign e X.env :: (assignEach es X.env).map (·.2):=by rfl):PGs X (e :: es) (ul t u):=by
 intro pins s σ H vs us Q I r h
 obtain ⟨v,vr,e1,h⟩:=h
 subst e1
 cases r with
 | cons r rr =>
  rw [hs]
  refine assignInOrder_cons (thn (h1 pins s σ H _ _ _ I r h) fun _ s1 ⟨σ1,H1,I1,q1⟩=>?_)
  exact h2 pins s1 σ1 H1 _ _ Q I1 rr q1
def yub (K:W.Frag) (n:Nat) (t:TGs):TG:=fun v σ H Q=>∃ a xs,v=.ref a/\SqT K H a xs/\xs.length=n/\t xs σ H Q
theorem yb8 {es:List Expr} {k:Nat} {t:TGs} {n:Nat} (hc:X.calm=true) (h:PGs X es t)
  (hn:(assignEach es X.env).length=n:=by rfl) (hst:(assignEach es X.env).findIdx? (·.1)=none:=by rfl):PG X (.Tuple es k pos) (yub X.K n t):=by
 intro pins s σ H v u Q I r hw
 obtain ⟨a,xs,e1,hq,hl,hw⟩:=hw
 subst e1
 cases r
 obtain ⟨its,rv,ht,hz⟩:=I.tuple hq
 refine assign_Tuple_tuple (I.ok.hd hc) ht (by simp [hn,<- hl,rv.length]) hst fun h' hx=>?_
 have I1:Inv X pins σ H { s with heap:=h' }:=I.kept (t':=s.toks) fun b o e=>hx b o (Nat.ne_of_lt (Heap.lt_size e)) e
 exact h pins _ σ H xs _ Q I1 (by simpa using rv) hw
def yzg (te:TE) (g:TG):TS:=fun D σ H=>te σ H fun x H1=>g x σ H1 D.nx
theorem ywb {tg e:Expr} {te:TE} {g:TG} (he:PE X e te) (hg:PG X tg g) (hs:swapsWithSole [tg] e pos.line X.env=pure false:=by rfl) (hw:swappedStores [tg] e X.env=pure none:=by rfl)
  (h1:(assignEach [tg] X.env).map (·.2)=[assign tg X.env]:=by rfl):PS X (.Assign [tg] e pos) (yzg te g):=by
 intro pins s σ H D I h
 refine wpAny_Assign_stores (thn (he pins s σ H _ I h) fun v s1 ⟨x,H1,I1,r1,q1⟩=>?_) hs hw
 rw [h1]
 exact thn (hg pins s1 σ H1 x v _ I1 r1 q1) fun _ s2 q=>q
theorem y6 {i:Nat} {x:Str} {e:Expr} {te:TE} {pos':Pos} (hN:X.N.Nodup) (hi:X.N[i]?=some x) (hx:Loc X.env.scope x) (he:PE X e te) (hs:swapsWith e (some (.Name x pos')) pos.line X.env=pure false:=by rfl) (hf:X.fn x=true\/X.env.scope.names.lookup x=some .local:=by first | exact .inl rfl | exact .inr rfl | assumption) :
  PS X (.Assign [.Name x pos'] e pos) (yzg te (wy i)):=by
 intro pins s σ H D I h
 refine wpAny_Assign_Name (thn (he pins s σ H _ I h) fun v s1 ⟨y,H1,I1,r1,q1⟩=>?_) hs
 exact yat I1 hN hi hx r1 (fun s2 I2=>⟨_,H1,I2,q1⟩) hf
end
section
variable {X:Cx} {pos:Pos}
def yvj (c:TT) (tb:TS):TS:=fun D σ H=>∃ W:Nat->St->Hp->Prop,(∃ m,W m σ H)/\∀ m σ H,W m σ H ->
 c σ H fun b H1=>if b=true then ∃ N:St->Hp->Prop,(∀ σ' H',N σ' H'->∃ m',m' < m/\W m' σ' H')/\tb { D with nx:=N,ct:=N,bk:=D.nx } σ H1 else D.nx σ H1
theorem jr {c:Expr} {body:List Stmt} {tc:TT} {tb:TS} (hp:PassesOwn (model X.prog X.w) X.A X.env X.xe) (hc:PT X c tc) (hb:PSs X body tb):PS X (.While c body [] pos) (yvj tc tb):=by
 intro pins s σ H D I h
 obtain ⟨W,⟨m0,w0⟩,turn⟩:=h
 refine wpAny_While (codeAny_whileLoop (fun n s'=>∃ σ' H',Inv X pins σ' H' s'/\W n σ' H') ?_ m0 ⟨σ,H,I,w0⟩)
 rintro n s1 ⟨σ1,H1,I1,w1⟩
 refine wpAny_passesOwn hp (thn (hc pins s1 σ1 H1 _ I1 (turn n σ1 H1 w1)) fun b s2 ⟨H2,I2,q2⟩=>?_)
 cases b with
 | true =>
  obtain ⟨N,hN,q2⟩:=q2
  rw [if_pos rfl]
  refine wpAny_passesOwn hp (thn (hb pins s2 σ1 H2 _ I2 q2) fun f s3 q3=>?_)
  cases f with
  | next =>
   obtain ⟨σ3,H3,I3,n3⟩:=q3
   obtain ⟨m',hm,w3⟩:=hN σ3 H3 n3
   exact ⟨m',hm,σ3,H3,I3,w3⟩
  | cont =>
   obtain ⟨σ3,H3,I3,n3⟩:=q3
   obtain ⟨m',hm,w3⟩:=hN σ3 H3 n3
   exact ⟨m',hm,σ3,H3,I3,w3⟩
  | brk=>exact q3
  | ret v=>exact q3
 | false =>
  rw [if_neg Bool.false_ne_true]
  exact wpAny_execs_nil ⟨σ1,H2,I2,q2⟩
end
structure It where
 go:Nat->Hp->Prop
 yld:Nat->Hp->V->Hp->Prop
 stop:Nat->Hp->Prop
def yf8 (X:Cx) (pins:List (Addr × Obj)) (H:Hp) (b:Addr):Prop :=
 H b=none/\b≠X.env.locals/\b∉X.fs/\(b∈X.ex\/X.s₀.heap.objs.size <= b)/\(∀ x c,X.env.cells.lookup x=some c->c≠b)/\∀ p∈X.pn++pins,p.1≠b
theorem Inv.fpOk {X:Cx} {pins:List (Addr × Obj)} {σ:St} {H H':Hp} {s:Shared} {b:Addr} (I:Inv X pins σ H s) (hb:s.heap.objs.size <= b) (hn:H' b=none):yf8 X pins H' b:=by
 refine ⟨hn,Nat.ne_of_gt (Nat.lt_of_lt_of_le I.lt hb),I.nofs hb,.inr (Nat.le_trans I.sz hb),fun x c e z=>?_,fun p hp z=>?_⟩
 ·obtain ⟨v,q⟩:=I.cell x c e
  exact absurd (Nat.lt_of_lt_of_le q.lt (by rw [z]; exact hb)) (Nat.lt_irrefl _)
 ·exact absurd (Nat.lt_of_lt_of_le (Heap.lt_size (I.pin p hp).1) (by rw [z]; exact hb)) (Nat.lt_irrefl _)
structure yn8 (P:Program) (w:World) (K:W.Frag) (tg:Expr) (J:It) (fp:List Addr) (it:Addr) (tn:Nat->Heap->Prop):Prop where
 mem:it∈fp
 obj:∀ i h,tn i h->∀ b∈fp,∃ o,h.get? b=some o/\∀ v,o.data≠.cell v
 keep:∀ i h h',tn i h->(∀ b∈fp,∀ o,h.get? b=some o->h'.get? b=some o)->tn i h'
 item:∀ (X:Cx),X.prog=P->X.w=w->X.K=K->X.calm=true->∀ (i:Nat) (pins:List (Addr × Obj)) (s:Shared) (σ:St) (H:Hp) (E:Value->Shared->Prop),Inv X pins σ H s->(∀ b∈fp,yf8 X pins H b)->tn i s.heap->J.go i H ->
  wpAny (model P w) X.A (pyNext (.ref it)) (fun r s1=>∃ u,r=some u /\
   wpAny (model P w) X.A (letOwnedTupleGo tg (.ref it) u) (fun _ s2=>∃ x H',Inv X pins σ H' s2/\xk x u/\J.yld i H x H'/\tn (i+1) s2.heap/\∀ b∈fp,H' b=none) E s1) E s
 done:∀ (X:Cx),X.prog=P->X.w=w->X.K=K->X.calm=true->∀ (i:Nat) (pins:List (Addr × Obj)) (s:Shared) (σ:St) (H:Hp) (E:Value->Shared->Prop),Inv X pins σ H s->(∀ b∈fp,yf8 X pins H b)->tn i s.heap->J.stop i H ->
  wpAny (model P w) X.A (pyNext (.ref it)) (fun r s1=>r=none/\Inv X pins σ H s1) E s
 self:∀ (A:Around) (i:Nat) (s:Shared) (Q:Value->Shared->Prop) (E:Value->Shared->Prop),tn i s.heap->Q (.ref it) s->wpAny (model P w) A (pyIter (.ref it)) Q E s
abbrev TI:=St->Hp->(It->Hp->Prop)->Prop
def PIE (X:Cx) (pins:List (Addr × Obj)) (σ:St) (tg:Expr) (R:It->Hp->Prop) (itv:Value) (s2:Shared):Prop :=
 ∃ (it:Addr) (fp:List Addr) (tn:Nat->Heap->Prop) (J:It) (H':Hp),itv=.ref it/\Inv X pins σ H' s2/\yn8 X.prog X.w X.K tg J fp it tn/\tn 0 s2.heap/\(∀ b∈fp,yf8 X pins H' b)/\R J H'
def PI (X:Cx) (tg iter:Expr) (wi:TI):Prop :=
 ∀ (pins:List (Addr × Obj)) (s:Shared) (σ:St) (H:Hp) (R:It->Hp->Prop),Inv X pins σ H s->wi σ H R ->
  wpAny (model X.prog X.w) X.A (eval iter X.env) (fun v s1=>wpAny (model X.prog X.w) X.A (pyIter v) (PIE X pins σ tg R) X.xe s1) X.xe s
theorem ytr {M:Model} {A:Around} {E:Value->Shared->Prop} {s:Shared} {tg:Expr} {it:Addr} {u:Value} {o:Obj} {n:String} {vs:Array Value} {Q:Unit->Shared->Prop} (ho:s.heap.get? it=some o) (hc:o.cls=.type n) (hd:o.data=.fields vs)
  (hn:["enumerate","zip","dict_itemiterator","dict_reverseitemiterator","odict_iterator","itertools.zip_longest","itertools.pairwise"].contains n=false) (hQ:Q () s):wpAny M A (letOwnedTupleGo tg (.ref it) u) Q E s:=by
 unfold letOwnedTupleGo
 cases tg <;> first
  | exact wpAny_pure hQ
  | (cases u <;> first
    | exact wpAny_pure hQ
    | (refine wpAny_bind (wpAny_load ho ?_)
       rw [hc,hd]
       show wpAny M A (if (["enumerate","zip","dict_itemiterator","dict_reverseitemiterator","odict_iterator","itertools.zip_longest","itertools.pairwise"].contains n && vs[0]? == some (rawInt _))=true then _ else _) Q E s
       rw [if_neg (by intro h; rw [hn,Bool.false_and] at h; cases h)]
       exact wpAny_pure hQ))
def Itl (K:W.Frag) (a:Addr):It :=
 ⟨fun i H=>∃ xs x,SqL K H a xs/\xs[i]?=some x,fun i H x H'=>H'=H/\∀ xs,SqL K H a xs->xs[i]?=some x,fun i H=>∃ xs,SqL K H a xs/\xs.length <= i⟩
def Itt (K:W.Frag) (a:Addr):It :=
 ⟨fun i H=>∃ xs x,SqT K H a xs/\xs[i]?=some x,fun i H x H'=>H'=H/\∀ xs,SqT K H a xs->xs[i]?=some x,fun i H=>∃ xs,SqT K H a xs/\xs.length <= i⟩
def Itr (lo:Int) (n:Nat):It:=⟨fun i _=>i < n,fun i H x H'=>H'=H/\x=.int (lo+i),fun i _=>n <= i⟩
theorem yi5 {P:Program} {w:World} {K:W.Frag} {tg:Expr} (a it:Addr):yn8 P w K tg (Itl K a) [it] it (fun i h=>h.IsListIter it a i) where
 mem:=by simp
 obj:=fun i h st b hb=>by
  have e:b=it:=by simpa using hb
  subst e
  obtain ⟨o,e,c,d⟩:=st
  exact ⟨o,e,fun v z=>by rw [d] at z; cases z⟩
 keep:=fun i h h' st k=>st.at fun o e=>k it (by simp) o e
 item:=by
  intro X hP hw hK hc i pins s σ H E I hf st hg
  subst hP hw hK
  obtain ⟨xs,x,hq,hx⟩:=hg
  obtain ⟨its,rv,p,hz⟩:=I.list hq
  obtain ⟨u,hu,ru⟩:=rv.get hx
  obtain ⟨f0,f1,f2,f3,f4,f5⟩:=hf it (by simp)
  refine wpAny_pyNext_list_item st p.isList (x:=u) (by simpa using hu) fun h' st' sb=>?_
  have I1:Inv X pins σ H { s with heap:=h' }:=I.turned (t':=s.toks) (fun b o hb e=>(sb.2 b hb).trans e) f0 f1 f3 f4 f5
  obtain ⟨o,e,c,d⟩:=id st'
  exact ⟨u,rfl,ytr (s:={ s with heap:=h' }) e c d (by decide) ⟨x,H,I1,ru,⟨rfl,fun ys hy=>by rw [I.list_inj hy hq]; exact hx⟩,st',fun b hb=>(hf b hb).1⟩⟩
 done:=by
  intro X hP hw hK hc i pins s σ H E I hf st hg
  subst hP hw hK
  obtain ⟨xs,hq,hx⟩:=hg
  obtain ⟨its,rv,p,hz⟩:=I.list hq
  obtain ⟨f0,f1,f2,f3,f4,f5⟩:=hf it (by simp)
  have hl:=rv.length
  exact wpAny_pyNext_list_end (I.ok.hd hc) st p.isList (by simp; omega) fun h' eb=>⟨rfl,I.turned (t':=s.toks) (fun b o hb e=>eb b o hb e) f0 f1 f3 f4 f5⟩
 self:=fun _ _ _ _ _ st h=>wpAny_pyIter_listiter st h
theorem yik {P:Program} {w:World} {K:W.Frag} {tg:Expr} (a it:Addr):yn8 P w K tg (Itt K a) [it] it (fun i h=>h.IsTupleIter it a i) where
 mem:=by simp
 obj:=fun i h st b hb=>by
  have e:b=it:=by simpa using hb
  subst e
  obtain ⟨o,e,c,d⟩:=st
  exact ⟨o,e,fun v z=>by rw [d] at z; cases z⟩
 keep:=fun i h h' st k=>st.at fun o e=>k it (by simp) o e
 item:=by
  intro X hP hw hK hc i pins s σ H E I hf st hg
  subst hP hw hK
  obtain ⟨xs,x,hq,hx⟩:=hg
  obtain ⟨its,rv,p,hz⟩:=I.tuple hq
  obtain ⟨u,hu,ru⟩:=rv.get hx
  obtain ⟨f0,f1,f2,f3,f4,f5⟩:=hf it (by simp)
  refine wpAny_pyNext_tuple_item st (show s.heap.IsTuple a its.toArray from p) (x:=u) (by simpa using hu) fun h' st' sb=>?_
  have I1:Inv X pins σ H { s with heap:=h' }:=I.turned (t':=s.toks) (fun b o hb e=>(sb.2 b hb).trans e) f0 f1 f3 f4 f5
  obtain ⟨o,e,c,d⟩:=id st'
  exact ⟨u,rfl,ytr (s:={ s with heap:=h' }) e c d (by decide) ⟨x,H,I1,ru,⟨rfl,fun ys hy=>by rw [I.tuple_inj hy hq]; exact hx⟩,st',fun b hb=>(hf b hb).1⟩⟩
 done:=by
  intro X hP hw hK hc i pins s σ H E I hf st hg
  subst hP hw hK
  obtain ⟨xs,hq,hx⟩:=hg
  obtain ⟨its,rv,p,hz⟩:=I.tuple hq
  obtain ⟨f0,f1,f2,f3,f4,f5⟩:=hf it (by simp)
  have hl:=rv.length
  exact wpAny_pyNext_tuple_end (I.ok.hd hc) st (show s.heap.IsTuple a its.toArray from p) (by simp; omega) fun h' eb=>⟨rfl,I.turned (t':=s.toks) (fun b o hb e=>eb b o hb e) f0 f1 f3 f4 f5⟩
 self:=fun _ _ _ _ _ st h=>wpAny_pyIter_tupleiter st h
theorem yhx {P:Program} {w:World} {K:W.Frag} {tg:Expr} (it:Addr) (lo:Int) (n:Nat):yn8 P w K tg (Itr lo n) [it] it (fun i h=>IsRangeIter h it (lo+(i:Nat) * 1) ((n:Int) - (i:Nat)) 1) where
 mem:=by simp
 obj:=fun i h st b hb=>by
  have e:b=it:=by simpa using hb
  subst e
  exact ⟨_,st,fun v z=>by
   have z':Data.fields _=Data.cell v:=z
   cases z'⟩
 keep:=fun i h h' st k=>k it (by simp) _ st
 item:=by
  intro X hP hw hK hc i pins s σ H E I hf st hg
  subst hP hw hK
  obtain ⟨f0,f1,f2,f3,f4,f5⟩:=hf it (by simp)
  have W:=Walks.range (prog:=X.prog) (w:=X.w) (I.ok.hd hc) it lo 1 n
  refine W.item i s _ _ hg st fun v h' tk hv st' kk=>?_
  obtain ⟨t,rfl⟩:=hv
  have I1:Inv X pins σ H { s with heap:=h',toks:=tk }:=I.turned (fun b o hb e=>kk b o (by simpa using hb) e) f0 f1 f3 f4 f5
  refine ⟨_,rfl,ytr (s:={ s with heap:=h',toks:=tk }) (n:="range_iterator") st' rfl rfl (by decide) ⟨.int (lo+i),H,I1,⟨t,?_⟩,⟨rfl,rfl⟩,st',fun b hb=>(hf b hb).1⟩⟩
  rw [Int.mul_one]
 done:=by
  intro X hP hw hK hc i pins s σ H E I hf st hg
  subst hP hw hK
  obtain ⟨f0,f1,f2,f3,f4,f5⟩:=hf it (by simp)
  exact wpAny_pyNext_range_end (I.ok.hd hc) st (by have:n <= i:=hg; omega) fun h' eb=>⟨rfl,I.turned (t':=s.toks) (fun b o hb e=>eb b o hb e) f0 f1 f3 f4 f5⟩
 self:=fun _ _ _ _ _ st h=>wpAny_pyIter_rangeiter st h
end L2
namespace L2
open PySem PySem.Spec PyProof.Rows
section
variable {X:Cx} {tg:Expr}
def yy9 (K:W.Frag) (tl:TE):TI:=fun σ H R=>tl σ H fun x H1=>∃ a,x=.ref a/\(∃ xs,SqL K H1 a xs)/\R (Itl K a) H1
def vb3 (K:W.Frag) (tl:TE):TI:=fun σ H R=>tl σ H fun x H1=>∃ a,x=.ref a/\(∃ xs,SqT K H1 a xs)/\R (Itt K a) H1
theorem v8 {l:Expr} {tl:TE} (hl:PE X l tl):PI X tg l (yy9 X.K tl):=by
 intro pins s σ H R I h
 refine thn (hl pins s σ H _ I h) fun v s1 ⟨x,H1,I1,r1,q1⟩=>?_
 obtain ⟨a,e,⟨xs,hq⟩,q⟩:=q1
 subst e
 cases r1
 obtain ⟨its,rv,p,hz⟩:=I1.list hq
 refine wpAny_pyIter_list p.isList ?_
 refine ⟨s1.heap.objs.size,[s1.heap.objs.size],_,_,H1,rfl,I1.kept (t':=s1.toks) fun b o e=>Heap.get?_push_of_some _ e,yi5 a _,⟨_,Heap.get?_push_size _ rfl,rfl,rfl⟩,fun b hb=>?_,q⟩
 have e:b=s1.heap.objs.size:=by simpa using hb
 subst e
 exact I1.fpOk (Nat.le_refl _) (I1.hok.fresh (Nat.le_refl _))
theorem yha {l:Expr} {tl:TE} (hl:PE X l tl):PI X tg l (vb3 X.K tl):=by
 intro pins s σ H R I h
 refine thn (hl pins s σ H _ I h) fun v s1 ⟨x,H1,I1,r1,q1⟩=>?_
 obtain ⟨a,e,⟨xs,hq⟩,q⟩:=q1
 subst e
 cases r1
 obtain ⟨its,rv,p,hz⟩:=I1.tuple hq
 refine wpAny_pyIter_tuple (show s1.heap.IsTuple a its.toArray from p) ?_
 refine ⟨s1.heap.objs.size,[s1.heap.objs.size],_,_,H1,rfl,I1.kept (t':=s1.toks) fun b o e=>Heap.get?_push_of_some _ e,yik a _,⟨_,Heap.get?_push_size _ rfl,rfl,rfl⟩,fun b hb=>?_,q⟩
 have e:b=s1.heap.objs.size:=by simpa using hb
 subst e
 exact I1.fpOk (Nat.le_refl _) (I1.hok.fresh (Nat.le_refl _))
theorem ygm {pins:List (Addr × Obj)} {σ:St} {H:Hp} {s:Shared} {R:It->Hp->Prop} {E:Value->Shared->Prop} {lo hi:Int} {t u v:Tok} {tk:Nat} (I:Inv X pins σ H s) (h1:-(2 ^ 62) <= lo) (h2:lo < 2 ^ 62) (h3:-(2 ^ 62) <= hi) (h4:hi < 2 ^ 62)
  (q:R (Itr lo (hi - lo).toNat) H):wpAny (model X.prog X.w) X.A (pyIter (.ref s.heap.objs.size)) (PIE X pins σ tg R) E { s with heap:=s.heap.push { cls:=.type "range",data:=.fields #[.int lo t,.int hi u,.int 1 v] },toks:=tk }:=by
 refine wpAny_pyIter_range (IsRange.new ..) (small_one h1 h2 h3 h4) ?_
 have I1:Inv X pins σ H { s with heap:=s.heap.push { cls:=.type "range",data:=.fields #[.int lo t,.int hi u,.int 1 v] },toks:=tk }:=I.kept fun b o e=>Heap.get?_push_of_some _ e
 refine ⟨(s.heap.push { cls:=.type "range",data:=.fields #[.int lo t,.int hi u,.int 1 v] }).objs.size,[(s.heap.push { cls:=.type "range",data:=.fields #[.int lo t,.int hi u,.int 1 v] }).objs.size],_,_,H,rfl,
  I1.kept (t':=tk) fun b o e=>Heap.get?_push_of_some _ e,yhx _ lo (hi - lo).toNat,?_,fun b hb=>?_,q⟩
 ·have e1:lo+((0:Nat):Int) * 1=lo:=by simp
  have e2:(((hi - lo).toNat:Nat):Int) - ((0:Nat):Int)=Builtin.Range.rangeSize lo hi 1:=by rw [rangeSize_one]; split <;> omega
  show IsRangeIter _ _ (lo+((0:Nat):Int) * 1) ((((hi - lo).toNat:Nat):Int) - ((0:Nat):Int)) 1
  rw [e1,e2]
  exact Heap.get?_push_size _ rfl
 ·have e:b=(s.heap.push { cls:=.type "range",data:=.fields #[.int lo t,.int hi u,.int 1 v] }).objs.size:=by simpa using hb
  subst e
  exact I1.fpOk (Nat.le_refl _) (I1.hok.fresh (Nat.le_refl _))
def yyz (ta:TA):TI:=fun σ H R=>ta σ H fun vs H1=>∃ j:Int,vs=[.int j]/\-(2 ^ 62) <= j/\j < 2 ^ 62/\R (Itr 0 j.toNat) H1
def yym (ta:TA):TI:=fun σ H R=>ta σ H fun vs H1=>∃ i j:Int,vs=[.int i,.int j]/\(-(2 ^ 62) <= i/\i < 2 ^ 62/\-(2 ^ 62) <= j/\j < 2 ^ 62)/\R (Itr i (j - i).toNat) H1
theorem u4 {a:Expr} {ta:TA} {p pos:Pos} (hg:Gl X "range") (hm:X.mg "range"=none) (ha:PA X [a] ta) (hs:starEach [a] X.env=[(false,eval a X.env)]:=by rfl):PI X tg (.Call (.Name "range" p) [a] [] pos) (yyz ta):=by
 intro pins s σ H R I h
 refine Call_ (ybj I hg hm boot_range (PyProof.Rows.callWith_type1 (thn (ha pos pins s σ H _ I h) fun us s1 ⟨vs,H1,I1,r1,q1⟩=>?_) hs rfl))
 obtain ⟨j,e,q1,q2,q⟩:=q1
 subst e
 cases r1 with
 | cons r rr =>
  cases rr
  obtain ⟨t,rfl⟩:=r
  exact call_range_1 (ygm I1 (by omega) (by omega) q1 q2 (by simpa using q))
theorem yjq {a b:Expr} {ta:TA} {p pos:Pos} (hg:Gl X "range") (hm:X.mg "range"=none) (ha:PA X [a,b] ta) (hs:starEach [a,b] X.env=[(false,eval a X.env),(false,eval b X.env)]:=by rfl) (hs2:starEach [b] X.env=[(false,eval b X.env)]:=by rfl) :
  PI X tg (.Call (.Name "range" p) [a,b] [] pos) (yym ta):=by
 intro pins s σ H R I h
 refine Call_ (ybj I hg hm boot_range (PyProof.Rows.callWith_type1 (thn (ha pos pins s σ H _ I h) fun us s1 ⟨vs,H1,I1,r1,q1⟩=>?_) (by rw [hs,hs2]) (by rw [hs2]; rfl)))
 obtain ⟨i,j,e,⟨q1,q2,q3,q4⟩,q⟩:=q1
 subst e
 cases r1 with
 | cons r rr =>
  cases rr with
  | cons r' rr =>
   cases rr
   obtain ⟨t,rfl⟩:=r
   obtain ⟨t',rfl⟩:=r'
   exact call_range_2 (ygm I1 q1 q2 q3 q4 q)
def vbx (wi:TI) (g:TG) (tb:TS):TS:=fun D σ H=>wi σ H fun J H1=>∃ W:Nat->Nat->St->Hp->Prop,(∃ m,W 0 m σ H1)/\∀ i m σ H,W i m σ H ->
 (J.stop i H/\D.nx σ H)\/(J.go i H/\∃ N:St->Hp->Prop,(∀ σ' H',N σ' H'->∃ m',m' < m/\W (i+1) m' σ' H')/\∀ x H',J.yld i H x H'->g x σ H' fun σ2 H2=>tb { D with nx:=N,ct:=N,bk:=D.nx } σ2 H2)
def yg2 (fp:List Addr) (h:Heap):List (Addr × Obj):=fp.filterMap fun b=>(h.get? b).map fun o=>(b,o)
theorem xh {fp:List Addr} {h:Heap} {b:Addr} {o:Obj} (hb:b∈fp) (e:h.get? b=some o):(b,o)∈yg2 fp h:=List.mem_filterMap.mpr ⟨b,hb,by rw [e]; rfl⟩
theorem yjn {fp:List Addr} {h:Heap} {p:Addr × Obj} (hp:p∈yg2 fp h):p.1∈fp/\h.get? p.1=some p.2:=by
 obtain ⟨b,hb,e⟩:=List.mem_filterMap.mp hp
 cases q:h.get? b with
 | none=>rw [q] at e; cases e
 | some o =>
  rw [q] at e
  have e':(b,o)=p:=Option.some.inj e
  subst e'
  exact ⟨hb,q⟩
theorem Inv.pinned {pins:List (Addr × Obj)} {σ:St} {H:Hp} {s:Shared} {fp:List Addr} (I:Inv X pins σ H s) (hf:∀ b∈fp,yf8 X pins H b) (ho:∀ b∈fp,∃ o,s.heap.get? b=some o/\∀ v,o.data≠.cell v):Inv X (pins++yg2 fp s.heap) σ H s :=
 I.pins_of fun p hp=>(List.mem_append.mp hp).elim (fun z=>I.pin p (List.mem_append_right _ z)) fun z=>by
  obtain ⟨hb,e⟩:=yjn z
  obtain ⟨f0,f1,f2,_⟩:=hf p.1 hb
  obtain ⟨o,e',d⟩:=ho p.1 hb
  rw [e] at e'; cases e'
  exact ⟨e,f0,f1,f2,d⟩
theorem Inv.unpinned {pins pl:List (Addr × Obj)} {σ:St} {H:Hp} {s:Shared} (I:Inv X (pins++pl) σ H s):Inv X pins σ H s:=I.pins_of fun p hp=>I.pin p (List.mem_append_right _ (List.mem_append_left _ hp))
theorem uv {iter:Expr} {body:List Stmt} {wi:TI} {g:TG} {tb:TS} {pos:Pos} (hp:PassesOwn (model X.prog X.w) X.A X.env X.xe) (hc:X.calm=true) (hi:PI X tg iter wi) (hg:PG X tg g) (hb:PSs X body tb)
  (hs:∀ x,foldedSetIterable iter X.env x=pure x:=by intro _; rfl):PS X (.For tg iter body [] pos) (vbx wi g tb):=by
 intro pins s σ H D I h
 refine wpAny_For (thn (hi pins s σ H _ I h) fun v s1 h1=>thn h1 fun itv s2 h2=>?_) hs
 obtain ⟨it,fp,tn,J,H2,e,I2,T,st2,f2,W,⟨m0,w0⟩,turn⟩:=h2
 subst e
 have stat:∀ {H':Hp},(∀ b∈fp,H' b=none)->∀ b∈fp,yf8 X pins H' b:=fun hn b hb=>⟨hn b hb,(f2 b hb).2⟩
 refine codeAny_forLoop_any (fun n s'=>∃ i σ' H',Inv X pins σ' H' s'/\tn i s'.heap/\(∀ b∈fp,H' b=none)/\W i n σ' H') ?_ m0 ⟨0,σ,H2,I2,st2,fun b hb=>(f2 b hb).1,w0⟩
 rintro n s3 ⟨i,σ3,H3,I3,st3,fr3,w3⟩
 rcases turn i n σ3 H3 w3 with ⟨stop,qn⟩ | ⟨go,N,hN,step⟩
 ·refine wpAny_passesOwn hp (thn (T.done X rfl rfl rfl hc i pins s3 σ3 H3 X.xe I3 (stat fr3) st3 stop) fun r s4 ⟨hr,I4⟩=>?_)
  subst hr
  exact wpAny_execs_nil ⟨σ3,H3,I4,qn⟩
 ·refine wpAny_passesOwn hp (thn (T.item X rfl rfl rfl hc i pins s3 σ3 H3 X.xe I3 (stat fr3) st3 go) fun r s4 ⟨u,hr,h4⟩=>?_)
  subst hr
  refine wpAny_passesOwn hp (thn h4 fun _ s5 ⟨x,H5,I5,r5,y5,st5,fr5⟩=>?_)
  have I5':=I5.pinned (stat fr5) (T.obj _ _ st5)
  refine wpAny_passesOwn hp (thn (hg _ s5 σ3 H5 x u _ I5' r5 (step x H5 y5)) fun _ s6 ⟨σ6,H6,I6,q6⟩=>?_)
  refine wpAny_passesOwn hp (thn (hb _ s6 σ6 H6 _ I6 q6) fun f s7 q7=>?_)
  have again:∀ {σ7:St} {H7:Hp},Inv X (pins++yg2 fp s5.heap) σ7 H7 s7->N σ7 H7->∃ m,m < n/\∃ i σ' H',Inv X pins σ' H' s7/\tn i s7.heap/\(∀ b∈fp,H' b=none)/\W i m σ' H':=fun {σ7 H7} I7 n7=>by
   obtain ⟨m',hm,w7⟩:=hN σ7 H7 n7
   refine ⟨m',hm,i+1,σ7,H7,I7.unpinned,T.keep _ _ _ st5 fun b hb o e=>(I7.pin (b,o) (List.mem_append_right _ (List.mem_append_right _ (xh hb e)))).1,fun b hb=>?_,w7⟩
   obtain ⟨o,e,d⟩:=T.obj _ _ st5 b hb
   exact (I7.pin (b,o) (List.mem_append_right _ (List.mem_append_right _ (xh hb e)))).2.1
  cases f with
  | next=>obtain ⟨σ7,H7,I7,n7⟩:=q7; exact again I7 n7
  | cont=>obtain ⟨σ7,H7,I7,n7⟩:=q7; exact again I7 n7
  | brk=>obtain ⟨σ7,H7,I7,q7⟩:=q7; exact ⟨σ7,H7,I7.unpinned,q7⟩
  | ret v=>obtain ⟨x7,σ7,H7,I7,r7,q7⟩:=q7; exact ⟨x7,σ7,H7,I7.unpinned,r7,q7⟩
end
theorem ua {K:W.Frag} {a:Addr} {xs:List V} {g:TG} {tb:TS} {D:yhk} {σ:St} {H:Hp} (Pv:Nat->St->Hp->Prop) (h0:Pv 0 σ H) (hl:∀ i σ H,i <= xs.length->Pv i σ H->SqL K H a xs)
  (hs:∀ i x σ H,xs[i]?=some x->Pv i σ H->g x σ H fun σ2 H2=>tb { D with nx:=Pv (i+1),ct:=Pv (i+1),bk:=D.nx } σ2 H2) (hd:∀ σ H,Pv xs.length σ H->D.nx σ H) :
  ∃ W:Nat->Nat->St->Hp->Prop,(∃ m,W 0 m σ H)/\∀ i m σ H,W i m σ H ->
   ((Itl K a).stop i H/\D.nx σ H)\/((Itl K a).go i H/\∃ N:St->Hp->Prop,(∀ σ' H',N σ' H'->∃ m',m' < m/\W (i+1) m' σ' H')/\∀ x H',(Itl K a).yld i H x H'->g x σ H' fun σ2 H2=>tb { D with nx:=N,ct:=N,bk:=D.nx } σ2 H2):=by
 refine ⟨fun i m σ H=>m=xs.length - i/\i <= xs.length/\Pv i σ H,⟨xs.length,by simp,Nat.zero_le _,h0⟩,?_⟩
 rintro i m σ H ⟨rfl,hi,p⟩
 have q:=hl i σ H hi p
 by_cases hlt:i < xs.length
 ·refine .inr ⟨⟨xs,xs[i],q,by simp [hlt]⟩,Pv (i+1),fun σ' H' p'=>⟨xs.length - (i+1),by omega,rfl,hlt,p'⟩,fun x H' y=>?_⟩
  obtain ⟨e,y⟩:=y
  subst e
  exact hs i x σ _ (y xs q) p
 ·have e:i=xs.length:=by omega
  subst e
  exact .inl ⟨⟨xs,q,Nat.le_refl _⟩,hd σ H p⟩
theorem zt {lo:Int} {n:Nat} {g:TG} {tb:TS} {D:yhk} {σ:St} {H:Hp} (Pv:Nat->St->Hp->Prop) (h0:Pv 0 σ H)
  (hs:∀ i σ H,i < n->Pv i σ H->g (.int (lo+i)) σ H fun σ2 H2=>tb { D with nx:=Pv (i+1),ct:=Pv (i+1),bk:=D.nx } σ2 H2) (hd:∀ σ H,Pv n σ H->D.nx σ H) :
  ∃ W:Nat->Nat->St->Hp->Prop,(∃ m,W 0 m σ H)/\∀ i m σ H,W i m σ H ->
   ((Itr lo n).stop i H/\D.nx σ H)\/((Itr lo n).go i H/\∃ N:St->Hp->Prop,(∀ σ' H',N σ' H'->∃ m',m' < m/\W (i+1) m' σ' H')/\∀ x H',(Itr lo n).yld i H x H'->g x σ H' fun σ2 H2=>tb { D with nx:=N,ct:=N,bk:=D.nx } σ2 H2):=by
 refine ⟨fun i m σ H=>m=n - i/\i <= n/\Pv i σ H,⟨n,by simp,Nat.zero_le _,h0⟩,?_⟩
 rintro i m σ H ⟨rfl,hi,p⟩
 by_cases hlt:i < n
 ·refine .inr ⟨hlt,Pv (i+1),fun σ' H' p'=>⟨n - (i+1),by omega,rfl,hlt,p'⟩,fun x H' y=>?_⟩
  obtain ⟨e,y⟩:=y
  subst e y
  exact hs i σ _ hlt p
 ·have e:i=n:=by omega
  subst e
  exact .inl ⟨Nat.le_refl _,hd σ H p⟩
end L2
namespace L2
open PySem PySem.Spec PyProof.Rows
abbrev R2:=V->V->Hp->VK->Prop
def OpR (X:Cx) (f:Value->Value->Sem Value) (r:R2):Prop :=
 ∀ (pins:List (Addr × Obj)) (s:Shared) (σ:St) (H:Hp) (x y:V) (v u:Value) (Q:VK),Inv X pins σ H s->xk x v->xk y u->r x y H Q ->
  wpAny (model X.prog X.w) X.A (f v u) (EP X pins σ Q) X.xe s
def UnR (X:Cx) (f:Value->Sem Value) (r:V->Hp->VK->Prop):Prop :=
 ∀ (pins:List (Addr × Obj)) (s:Shared) (σ:St) (H:Hp) (x:V) (v:Value) (Q:VK),Inv X pins σ H s->xk x v->r x H Q ->
  wpAny (model X.prog X.w) X.A (f v) (EP X pins σ Q) X.xe s
def ybq (X:Cx) (f:Value) (r:List V->Hp->VK->Prop):Prop :=
 ∀ (pins:List (Addr × Obj)) (s:Shared) (σ:St) (H:Hp) (xs:List V) (us:List Value) (Q:VK),Inv X pins σ H s->wu xs us->r xs H Q ->
  wpAny (model X.prog X.w) X.A (call f us) (EP X pins σ Q) X.xe s
def tOp (r:R2) (ta tb:TE):TE:=fun σ H Q=>ta σ H fun x H1=>tb σ H1 fun y H2=>r x y H2 Q
def tUn (r:V->Hp->VK->Prop) (ta:TE):TE:=fun σ H Q=>ta σ H fun x H1=>r x H1 Q
def rI (C:Int->Int->Prop) (g:Int->Int->V):R2:=fun x y H Q=>∃ i j,x=.int i/\y=.int j/\C i j/\Q (g i j) H
def rI0 (g:Int->Int->V):R2:=fun x y H Q=>∃ i j,x=.int i/\y=.int j/\Q (g i j) H
def rU (g:Int->V):V->Hp->VK->Prop:=fun x H Q=>∃ i,x=.int i/\Q (g i) H
section
variable {X:Cx} {a b c:Expr} {ta tb tc:TE} {pos:Pos}
theorem va0 (ha:PE X a ta) (hb:PE X b tb) {pins:List (Addr × Obj)} {s:Shared} {σ:St} {H:Hp} {R:V->V->Hp->Prop} (I:Inv X pins σ H s)
  (h:ta σ H fun x H1=>tb σ H1 fun y H2=>R x y H2) {Q:Value->Shared->Prop} {f:Value->Value->Sem Value}
  (hf:∀ v u s2 x y H2,Inv X pins σ H2 s2->xk x v->xk y u->R x y H2->wpAny (model X.prog X.w) X.A (f v u) Q X.xe s2) :
  wpAny (model X.prog X.w) X.A (eval a X.env) (fun v s₁=>wpAny (model X.prog X.w) X.A (eval b X.env) (fun u s₂=>wpAny (model X.prog X.w) X.A (f v u) Q X.xe s₂) X.xe s₁) X.xe s:=by
 refine thn (ha pins s σ H _ I h) fun v s1 ⟨x,H1,I1,r1,q1⟩=>?_
 refine thn (hb pins s1 σ H1 _ I1 q1) fun u s2 ⟨y,H2,I2,r2,q2⟩=>?_
 exact hf v u s2 x y H2 I2 r1 r2 q2
theorem yq {op:Operator} {r:R2} (ho:OpR X (binaryOp op) r) (ha:PE X a ta) (hb:PE X b tb):PE X (.BinOp a op b pos) (tOp r ta tb):=by
 intro pins s σ H Q I h
 exact wpAny_BinOp (va0 ha hb I h fun v u s2 x y H2 I2 rx ry q=>ho pins s2 σ H2 x y v u Q I2 rx ry q)
theorem yz1 {op:UnaryOp} {r:V->Hp->VK->Prop} (ho:UnR X (unaryOp op) r) (ha:PE X a ta):PE X (.UnaryOp op a pos) (tUn r ta):=by
 intro pins s σ H Q I h
 exact UnaryOp_ (thn (ha pins s σ H _ I h) fun v s1 ⟨x,H1,I1,r1,q1⟩=>ho pins s1 σ H1 x v Q I1 r1 q1)
theorem opI {f:Value->Value->Sem Value} {C:Int->Int->Prop} {g:Int->Int->Int}
  (rule:∀ (i j:Int) (t u:Tok) (s:Shared) (Q:Value->Shared->Prop) (E:Value->Shared->Prop),C i j->Q (.int (g i j) s.toks) { s with toks:=s.toks+1 }->wpAny (model X.prog X.w) X.A (f (.int i t) (.int j u)) Q E s) :
  OpR X f (rI C fun i j=>.int (g i j)):=by
 intro pins s σ H x y v u Q I rx ry h
 obtain ⟨i,j,rfl,rfl,hc,q⟩:=h
 obtain ⟨t,rfl⟩:=rx
 obtain ⟨t',rfl⟩:=ry
 exact rule i j t t' s _ _ hc ⟨.int (g i j),H,I.tok _,⟨_,rfl⟩,q⟩
theorem vbz {f:Value->Value->Sem Value} {g:Int->Int->Int}
  (rule:∀ (i j:Int) (t u:Tok) (s:Shared) (Q:Value->Shared->Prop) (E:Value->Shared->Prop),Q (.int (g i j) s.toks) { s with toks:=s.toks+1 }->wpAny (model X.prog X.w) X.A (f (.int i t) (.int j u)) Q E s) :
  OpR X f (rI0 fun i j=>.int (g i j)):=by
 intro pins s σ H x y v u Q I rx ry h
 obtain ⟨i,j,rfl,rfl,q⟩:=h
 obtain ⟨t,rfl⟩:=rx
 obtain ⟨t',rfl⟩:=ry
 exact rule i j t t' s _ _ ⟨.int (g i j),H,I.tok _,⟨_,rfl⟩,q⟩
theorem yzl {f:Value->Value->Sem Value} {g:Int->Int->Bool}
  (rule:∀ (i j:Int) (t u:Tok) (s:Shared) (Q:Value->Shared->Prop) (E:Value->Shared->Prop),Q (.bool (g i j)) s->wpAny (model X.prog X.w) X.A (f (.int i t) (.int j u)) Q E s) :
  OpR X f (rI0 fun i j=>.bl (g i j)):=by
 intro pins s σ H x y v u Q I rx ry h
 obtain ⟨i,j,rfl,rfl,q⟩:=h
 obtain ⟨t,rfl⟩:=rx
 obtain ⟨t',rfl⟩:=ry
 exact rule i j t t' s _ _ ⟨.bl (g i j),H,I,rfl,q⟩
def va2 (i j:Int):Prop:=0 <= j/\j <= 1000000/\i.natAbs < 2 ^ 64
def va3 (i j:Int):Prop:=(-(2 ^ 64) < i/\i < 2 ^ 64)\/(-(2 ^ 64) < j/\j < 2 ^ 64)
theorem va3.ok {i j:Int} (h:va3 i j):IntMulOk i j:=by
 rcases h with ⟨h1,h2⟩ | ⟨h1,h2⟩
 ·exact .of_left (intBits_le_64 h1 h2)
 ·exact .of_right (intBits_le_64 h1 h2)
theorem yii (k:Nat):(0:Int) <= 2 ^ k:=by
 rw [two_pow_cast]
 exact Int.natCast_nonneg _
theorem v6:OpR X (binaryOp .Add) (rI0 fun i j=>.int (i+j)):=vbz fun _ _ _ _ _ _ _ q=>add_int q
theorem uw:OpR X (binaryOp .Sub) (rI0 fun i j=>.int (i - j)):=vbz fun _ _ _ _ _ _ _ q=>sub_int q
theorem wj:OpR X (binaryOp .Mult) (rI va3 fun i j=>.int (i * j)):=opI fun _ _ _ _ _ _ _ hc q=>mul_int q hc.ok
theorem wt:OpR X (binaryOp .Mod) (rI (fun _ j=>0 < j) fun i j=>.int (i % j)):=opI fun i j _ _ _ _ _ hc q=>by
 have h1:(0:Int) < j:=hc
 exact mod_int' (by omega) (by rw [Int.fmod_eq_emod_of_nonneg i (by omega)]; exact q)
theorem yux:OpR X (binaryOp .Pow) (rI va2 fun i j=>.int (i ^ j.toNat)):=opI fun _ _ _ _ _ _ _ hc q=>pow_int_small hc.1 hc.2.1 hc.2.2 q
theorem yvs:OpR X (binaryOp .RShift) (rI (fun _ j=>0 <= j) fun i j=>.int (i / 2 ^ j.toNat)):=opI fun i j _ _ _ _ _ hc q =>
 rshift_int hc (by rw [Int.fdiv_eq_ediv_of_nonneg i (yii _)]; exact q)
theorem unI {f:Value->Sem Value} {g:Int->Int}
  (rule:∀ (i:Int) (t:Tok) (s:Shared) (Q:Value->Shared->Prop) (E:Value->Shared->Prop),Q (.int (g i) s.toks) { s with toks:=s.toks+1 }->wpAny (model X.prog X.w) X.A (f (.int i t)) Q E s) :
  UnR X f (rU fun i=>.int (g i)):=by
 intro pins s σ H x v Q I rx h
 obtain ⟨i,rfl,q⟩:=h
 obtain ⟨t,rfl⟩:=rx
 exact rule i t s _ _ ⟨.int (g i),H,I.tok _,⟨_,rfl⟩,q⟩
theorem yum:UnR X (unaryOp .USub) (rU fun i=>.int (-i)):=unI fun _ _ _ _ _ q=>neg_int q
end
def vbr:V->V->Bool
 | .non,.non=>true | .non,.int _=>true | .int _,.non=>true | .non,.bl _=>true | .bl _,.non=>true | .non,.str _=>true | .str _,.non=>true
 | .int _,.int _=>true | .bl _,.bl _=>true | .str _,.str _=>true | .byt _,.byt _=>true
 | .int _,.str _=>true | .str _,.int _=>true | .bl _,.str _=>true | .str _,.bl _=>true
 | _,_=>false
def rEq:R2:=fun x y H Q=>vbr x y=true/\Q (.bl (decide (x=y))) H
def rNe:R2:=fun x y H Q=>vbr x y=true/\Q (.bl (!decide (x=y))) H
theorem yk0 {i j:Int}:decide (V.int i=V.int j)=(i == j):=by
 rw [Bool.eq_iff_iff]
 simp
theorem yo5 {i j:Bool}:decide (V.bl i=V.bl j)=(i == j):=by
 rw [Bool.eq_iff_iff]
 simp
theorem yk4 {i j:Str}:decide (V.str i=V.str j)=(i == j):=by
 rw [Bool.eq_iff_iff]
 simp
theorem yky {i j:Array UInt8}:decide (V.byt i=V.byt j)=(i.toList == j.toList):=by
 rw [Bool.eq_iff_iff]
 cases i
 cases j
 simp
section
variable {X:Cx} {a b c:Expr} {ta tb tc:TE} {pos:Pos}
theorem we {pins:List (Addr × Obj)} {σ:St} {H:Hp} {s:Shared} {Q:VK} {k k':Bool} (I:Inv X pins σ H s) (q:Q (.bl k) H) (e:k=k'):EP X pins σ Q (.bool k') s:=by
 subst e
 exact ⟨.bl k,H,I,rfl,q⟩
theorem zl:OpR X (compareOp .Eq) rEq:=by
 intro pins s σ H x y v u Q I rx ry h
 obtain ⟨hs,q⟩:=h
 cases x with
 | non =>
  cases rx
  cases y with
  | non=>cases ry; exact PySem.EqNone.eq_none_none (we I q (by simp))
  | bl j=>cases ry; exact PySem.EqNone.eq_none_bool (we I q (by simp))
  | int j=>obtain ⟨t',rfl⟩:=ry; exact PySem.EqNone.eq_none_int (we I q (by simp))
  | str j=>obtain ⟨t',rfl⟩:=ry; exact PySem.EqNone.eq_none_str (we I q (by simp))
  | _=>exact absurd (show false=true from hs) Bool.false_ne_true
 | bl i =>
  cases rx
  cases y with
  | non=>cases ry; exact PySem.EqNone.eq_bool_none (we I q (by simp))
  | bl j=>cases ry; exact eq_bool (we I q yo5)
  | str j=>obtain ⟨t',rfl⟩:=ry; exact PySem.EqMixed.eq_bool_str (we I q (by simp))
  | _=>exact absurd (show false=true from hs) Bool.false_ne_true
 | int i =>
  obtain ⟨t,rfl⟩:=rx
  cases y with
  | non=>cases ry; exact PySem.EqNone.eq_int_none (we I q (by simp))
  | int j=>obtain ⟨t',rfl⟩:=ry; exact eq_int (we I q yk0)
  | str j=>obtain ⟨t',rfl⟩:=ry; exact PySem.EqMixed.eq_int_str (we I q (by simp))
  | _=>exact absurd (show false=true from hs) Bool.false_ne_true
 | str i =>
  obtain ⟨t,rfl⟩:=rx
  cases y with
  | non=>cases ry; exact PySem.EqNone.eq_str_none (we I q (by simp))
  | bl j=>cases ry; exact PySem.EqMixed.eq_str_bool (we I q (by simp))
  | int j=>obtain ⟨t',rfl⟩:=ry; exact PySem.EqMixed.eq_str_int (we I q (by simp))
  | str j=>obtain ⟨t',rfl⟩:=ry; exact eq_str (we I q yk4)
  | _=>exact absurd (show false=true from hs) Bool.false_ne_true
 | byt i =>
  obtain ⟨t,rfl⟩:=rx
  cases y with
  | byt j=>obtain ⟨t',rfl⟩:=ry; exact W.eq_bytes (we I q yky)
  | _=>exact absurd (show false=true from hs) Bool.false_ne_true
 | _=>cases y <;> exact absurd (show false=true from hs) Bool.false_ne_true
theorem yl4:OpR X (compareOp .NotEq) rNe:=by
 intro pins s σ H x y v u Q I rx ry h
 obtain ⟨hs,q⟩:=h
 cases x with
 | non =>
  cases rx
  cases y with
  | non=>cases ry; exact PySem.EqNone.ne_none_none (we I q (by simp))
  | bl j=>cases ry; exact PySem.EqNone.ne_none_bool (we I q (by simp))
  | int j=>obtain ⟨t',rfl⟩:=ry; exact PySem.EqNone.ne_none_int (we I q (by simp))
  | str j=>obtain ⟨t',rfl⟩:=ry; exact PySem.EqNone.ne_none_str (we I q (by simp))
  | _=>exact absurd (show false=true from hs) Bool.false_ne_true
 | bl i =>
  cases rx
  cases y with
  | non=>cases ry; exact PySem.EqNone.ne_bool_none (we I q (by simp))
  | bl j=>cases ry; exact ne_bool (we I q (congrArg not yo5))
  | str j=>obtain ⟨t',rfl⟩:=ry; exact PySem.EqMixed.ne_bool_str (we I q (by simp))
  | _=>exact absurd (show false=true from hs) Bool.false_ne_true
 | int i =>
  obtain ⟨t,rfl⟩:=rx
  cases y with
  | non=>cases ry; exact PySem.EqNone.ne_int_none (we I q (by simp))
  | int j=>obtain ⟨t',rfl⟩:=ry; exact ne_int (we I q (congrArg not yk0))
  | str j=>obtain ⟨t',rfl⟩:=ry; exact PySem.EqMixed.ne_int_str (we I q (by simp))
  | _=>exact absurd (show false=true from hs) Bool.false_ne_true
 | str i =>
  obtain ⟨t,rfl⟩:=rx
  cases y with
  | non=>cases ry; exact PySem.EqNone.ne_str_none (we I q (by simp))
  | bl j=>cases ry; exact PySem.EqMixed.ne_str_bool (we I q (by simp))
  | int j=>obtain ⟨t',rfl⟩:=ry; exact PySem.EqMixed.ne_str_int (we I q (by simp))
  | str j=>obtain ⟨t',rfl⟩:=ry; exact ne_str (we I q (congrArg not yk4))
  | _=>exact absurd (show false=true from hs) Bool.false_ne_true
 | byt i =>
  obtain ⟨t,rfl⟩:=rx
  cases y with
  | byt j=>obtain ⟨t',rfl⟩:=ry; exact W.ne_bytes (we I q (congrArg not yky))
  | _=>exact absurd (show false=true from hs) Bool.false_ne_true
 | _=>cases y <;> exact absurd (show false=true from hs) Bool.false_ne_true
theorem yaf:OpR X (compareOp .Lt) (rI0 fun i j=>.bl (decide (i < j))):=yzl fun _ _ _ _ _ _ _ q=>lt_int q
theorem uo:OpR X (compareOp .LtE) (rI0 fun i j=>.bl (decide (i <= j))):=yzl fun _ _ _ _ _ _ _ q=>le_int q
theorem yn2:OpR X (compareOp .Gt) (rI0 fun i j=>.bl (decide (j < i))):=yzl fun _ _ _ _ _ _ _ q=>gt_int q
theorem yyt:OpR X (compareOp .GtE) (rI0 fun i j=>.bl (decide (j <= i))):=yzl fun _ _ _ _ _ _ _ q=>ge_int q
theorem yp0:OpR X (compareOp .Is) (fun x y H Q=>y=.non/\Q (.bl (decide (x=.non))) H):=by
 intro pins s σ H x y v u Q I rx ry h
 obtain ⟨rfl,q⟩:=h
 cases ry
 refine is_none_gen (we I q ?_)
 cases x <;> first
  | (cases rx; rfl)
  | (obtain ⟨t,rfl⟩:=rx; rfl)
theorem vd (b:Expr) {op:CmpOp} (h:op≠.In:=by decide) (h2:op≠.NotIn:=by decide):behindInMarks op b=false:=by
 have e1:(op == CmpOp.In)=false:=by cases op <;> first | rfl | exact absurd rfl h
 have e2:(op == CmpOp.NotIn)=false:=by cases op <;> first | rfl | exact absurd rfl h2
 cases b <;> simp [behindInMarks,e1,e2]
theorem zw {op:CmpOp} {r:R2} (ho:OpR X (compareOp op) r) (ha:PE X a ta) (hb:PE X b tb) (hm:behindInMarks op b=false):PE X (.Compare a [op] [b] pos) (tOp r ta tb):=by
 intro pins s σ H Q I h
 exact wpAny_Compare1 (va0 ha hb I h fun v u s2 x y H2 I2 rx ry q=>ho pins s2 σ H2 x y v u Q I2 rx ry q) hm
def yst (t:TE):TT:=fun σ H Q=>t σ H fun x H'=>∃ k,x=.bl k/\Q k H'
theorem yz {op:CmpOp} {r:R2} (ho:OpR X (compareOp op) r) (ha:PE X a ta) (hb:PE X b tb) (hm:behindInMarks op b=false):PT X (.Compare a [op] [b] pos) (yst (tOp r ta tb)):=by
 intro pins s σ H Q I h
 refine wpAny_isTrue_Compare1 (thn (ha pins s σ H _ I h) fun v s1 ⟨x,H1,I1,r1,q1⟩=>thn (hb pins s1 σ H1 _ I1 q1) fun u s2 ⟨y,H2,I2,r2,q2⟩ =>
  thn (ho pins s2 σ H2 x y v u _ I2 r1 r2 q2) fun c s3 ⟨z,H3,I3,r3,k,e,q3⟩=>?_) hm
 subst e
 cases r3
 exact wpAny_truthy_bool ⟨H3,I3,q3⟩
def ylx (r r':R2) (ta tb tc:TE):TE:=fun σ H Q=>ta σ H fun x H1=>tb σ H1 fun y H2=>r x y H2 fun z H3=>∃ k,z=.bl k /\
 (if k=true then tc σ H3 fun w' H4=>r' y w' H4 Q else Q (.bl false) H3)
theorem yaq {op op':CmpOp} {r r':R2} (ho:OpR X (compareOp op) r) (ho':OpR X (compareOp op') r') (ha:PE X a ta) (hb:PE X b tb) (hc:PE X c tc)
  (hm:lastMarks [op,op'] [b,c]=false:=by with_unfolding_all rfl):PE X (.Compare a [op,op'] [b,c] pos) (ylx r r' ta tb tc):=by
 intro pins s σ H Q I h
 refine Compare_chain (thn (ha pins s σ H _ I h) fun v s1 ⟨x,H1,I1,r1,q1⟩=>chain_link (thn (hb pins s1 σ H1 _ I1 q1) fun u s2 ⟨y,H2,I2,r2,q2⟩ =>
  thn (ho pins s2 σ H2 x y v u _ I2 r1 r2 q2) fun d s3 ⟨z,H3,I3,r3,k,e,q3⟩=>?_)) hm
 subst e
 cases r3
 refine wpAny_truthy_bool ?_
 cases k with
 | false=>exact ite_ff ⟨.bl false,H3,I3,rfl,q3⟩
 | true=>exact ite_tt (chain_last (thn (hc pins s3 σ H3 _ I3 q3) fun w' s4 ⟨z',H4,I4,r4,q4⟩=>ho' pins s4 σ H4 y z' u w' Q I4 r2 r4 q4))
theorem jv {op op':CmpOp} {r r':R2} (ho:OpR X (compareOp op) r) (ho':OpR X (compareOp op') r') (ha:PE X a ta) (hb:PE X b tb) (hc:PE X c tc)
  (hm:lastMarks [op,op'] [b,c]=false:=by with_unfolding_all rfl):PT X (.Compare a [op,op'] [b,c] pos) (yst (ylx r r' ta tb tc)):=by
 intro pins s σ H Q I h
 refine isTrue_chain (thn (ha pins s σ H _ I h) fun v s1 ⟨x,H1,I1,r1,q1⟩=>test_link (thn (hb pins s1 σ H1 _ I1 q1) fun u s2 ⟨y,H2,I2,r2,q2⟩ =>
  thn (ho pins s2 σ H2 x y v u _ I2 r1 r2 q2) fun d s3 ⟨z,H3,I3,r3,k,e,q3⟩=>?_)) hm
 subst e
 cases r3
 refine wpAny_truthy_bool ?_
 cases k with
 | false =>
  obtain ⟨k',e',q'⟩:=q3
  cases e'
  exact ite_ff ⟨H3,I3,q'⟩
 | true =>
  refine ite_tt (test_last (thn (hc pins s3 σ H3 _ I3 q3) fun w' s4 ⟨z',H4,I4,r4,q4⟩=>thn (ho' pins s4 σ H4 y z' u w' _ I4 r2 r4 q4) fun d' s5 ⟨z2,H5,I5,r5,k2,e2,q5⟩=>?_))
  subst e2
  cases r5
  exact wpAny_truthy_bool ⟨H5,I5,q5⟩
theorem yle:(sizeLine:Nat) < 2 ^ 63:=by rw [sizeLine_eq]; decide
theorem yl8 {x:V} {us:List Value} (r:wu [x] us):∃ u,us=[u]/\xk x u:=by
 cases r with
 | cons r1 r2=>cases r2; exact ⟨_,rfl,r1⟩
theorem ytg {x y:V} {us:List Value} (r:wu [x,y] us):∃ u w',us=[u,w']/\xk x u/\xk y w':=by
 cases r with
 | cons r1 r2 =>
  cases r2 with
  | cons r3 r4=>cases r4; exact ⟨_,_,rfl,r1,r3⟩
theorem yd8 (hc:X.calm=true):ybq X (.builtin "max") (fun xs H Q=>∃ i j,xs=[.int i,.int j]/\Q (.int (if j > i then j else i)) H):=by
 intro pins s σ H xs us Q I r h
 obtain ⟨i,j,rfl,q⟩:=h
 obtain ⟨u,w',rfl,⟨t,rfl⟩,⟨t',rfl⟩⟩:=ytg r
 refine max_two_ints (I.ok.hd hc) fun h' tk k=>⟨_,H,I.kept k,?_,q⟩
 by_cases hj:j > i
 ·rw [if_pos hj,if_pos hj]; exact ⟨_,rfl⟩
 ·rw [if_neg hj,if_neg hj]; exact ⟨_,rfl⟩
theorem yeg (hc:X.calm=true):ybq X (.builtin "min") (fun xs H Q=>∃ i j,xs=[.int i,.int j]/\Q (.int (if j < i then j else i)) H):=by
 intro pins s σ H xs us Q I r h
 obtain ⟨i,j,rfl,q⟩:=h
 obtain ⟨u,w',rfl,⟨t,rfl⟩,⟨t',rfl⟩⟩:=ytg r
 refine min_two_ints (I.ok.hd hc) fun h' tk k=>⟨_,H,I.kept k,?_,q⟩
 by_cases hj:j < i
 ·rw [if_pos hj,if_pos hj]; exact ⟨_,rfl⟩
 ·rw [if_neg hj,if_neg hj]; exact ⟨_,rfl⟩
end
end L2
namespace L2
open PySem PySem.Spec PyProof.Rows
structure yuh (h:Heap) (x dx C:Addr) (mA:Str->Option Value):Prop where
 obj:h.get? x=some (W.instObj C dx)
 ns:h.Ns1 dx mA
 ne:dx≠x
theorem yi3 {h:Heap} {dx:Addr} {mA:Str->Option Value} (n:h.Ns1 dx mA):∃ od,h.get? dx=some od/\∀ name,W.lookIn name od=some (mA name):=by
 obtain ⟨o,es,ep,ho,hd,hk,_,hm⟩:=n
 refine ⟨o,ho,fun name=>?_⟩
 have e:=hm name
 unfold nsFind findBy at e
 rw [<- Array.find?_toList] at e
 unfold W.lookIn
 rw [hd]
 dsimp only
 split
 ·rename_i y q
  rw [q] at e
  exact congrArg some e
 ·rename_i q
  rw [q] at e
  have a:es.toList.any (·.refKey)=false:=by
   rw [List.any_eq_false]
   intro y hy
   obtain ⟨z,t,hkey⟩:=hk y (Array.mem_toList_iff.mp hy)
   simp [DictEntry.refKey,hkey]
  have a':¬ es.toList.any (·.refKey)=true:=by rw [a]; exact Bool.false_ne_true
  rw [if_neg a']
  exact congrArg some e
theorem yuh.look {h:Heap} {x dx C:Addr} {mA:Str->Option Value} (I:yuh h x dx C mA):∃ od,W.InstAt h x (W.instObj C dx) C (some od)/\∀ name,W.lookIn name od=some (mA name) :=
 let ⟨od,ho,hl⟩:=yi3 I.ns
 ⟨od,⟨I.obj,rfl,rfl,ho⟩,hl⟩
section
variable {prog:Program} {w:World} {A:Around} {E:Value->Shared->Prop} {s:Shared} {K:W.Frag} {x dx C f:Addr} {mA:Str->Option Value} {name:Str} {v:Value}
theorem yqk {expr:Bool} {Q:Value->Shared->Prop} (X:K.In s.heap) (I:yuh s.heap x dx C mA) (hg:W.plainGet K C name=true) (hh:W.hasDictIn K C=true)
  (ha:W.findIn K (.ref C) name=some none) (hv:mA name=some v) (hv':W.handedIn v=true) (h:Q v { s with toks:=s.toks+1 }) :
  wpAny (model prog w) A (getAttr (.ref x) name expr) Q E s:=by
 obtain ⟨od,J,hl⟩:=I.look
 exact W.get_value X J (W.plainGet_of hg).1 (W.findObj_own hh ha rfl (by rw [hl,hv])) hv' h
theorem ym7 {pl:Sem Bool} {Q:Value × List Value->Shared->Prop} (X:K.In s.heap) (I:yuh s.heap x dx C mA) (hg:W.plainGet K C name=true)
  (hf:W.findIn K (.ref C) name=some (some (.ref f))) (ht:W.isFn K (.ref f)=true) (hv:mA name=none) (h:Q (.ref f,[.ref x]) s) :
  wpAny (model prog w) A (getMethod (.ref x) name pl) Q E s:=by
 obtain ⟨od,J,hl⟩:=I.look
 exact W.method_fn X J (W.plainGet_of hg).1 (W.plainGet_of hg).2 hf (beq_iff_eq.mp ht) (by show (W.lookIn name od).map (·.isSome)=some false; rw [hl,hv]; rfl) h
theorem yrr {ns:List Str} {Q:Unit->Shared->Prop} (X:K.In s.heap) (I:yuh s.heap x dx C mA)
  (hs:W.findIn K (.ref C) "__setattr__"=some (some (.builtin "object.__setattr__"))) (hp:W.plainOver K C=true) (ht:W.takerIn K C name=some none) (hh:W.hasDictIn K C=true)
  (hw:PySem.Within mA ns) (hsz:ns.length <= sizeLine)
  (h:∀ h',yuh h' x dx C (fun y=>if y=name then some v else mA y)->Heap.SameBut dx s.heap h'->Q () { s with heap:=h',toks:=s.toks+2 }) :
  wpAny (model prog w) A (setAttr (.ref x) name v) Q E s:=by
 obtain ⟨od,J,hl⟩:=I.look
 refine W.set_plain X J hs (W.osa_open (s:={ s with toks:=s.toks+1 }) (r:=none) X J hp ht fun b=>?_)
 obtain ⟨cd,hc,hd'⟩:=W.any_some hh
 have hx:s.heap.get? x=some ⟨.ref C,some dx,.plain,#[]⟩:=I.obj
 refine wpAny_bind (wpAny_pure (wpAny_bind (wpAny_bind (wpAny_loadPart hx (wpAny_bind (W.Looks.here (s:={ s with toks:=s.toks+1 }) (W.looks_clsIn X hc) ?_))))))
 rw [hd']
 refine wpAny_pure (a:=some dx) (wpAny_bind (wpAny_pure (wpAny_bind ?_)))
 refine wpAny_nsSet1 (s:={ s with toks:=s.toks+1 }) I.ns fun h' hn2 hs2=>?_
 obtain ⟨oD,esD,epD,hoD,hdD,hcD⟩:=hn2.count (PySem.Within.cons name v hw)
 refine wpAny_bind (wpAny_lookBehind hoD (by rw [hdD]; exact pastItsLine_dict (Nat.le_trans hcD (by rw [List.length_cons]; omega))) ?_)
 exact wpAny_pure (h _ ⟨(hs2.2 _ (Ne.symm I.ne)).trans I.obj,hn2,I.ne⟩ hs2)
theorem ygc {R:Result->Shared->Prop} {vs:List Value} {kw:List (Str × Value)} (X:K.In s.heap) (hm:W.makesIn K C=true)
  (hi:W.findIn K (.ref C) "__init__"=some (some (.ref f))) (hf:W.typeIn K (.ref f)=some (.type "function"))
  (h:codeAny (model prog w) (A.under (.builtin "type.__call__" ⟨.ref C :: vs,kw⟩)) (.call (.ref f) ⟨.ref (s.heap.objs.size+1) :: vs,kw⟩) (W.InitBack (s.heap.objs.size+1) R)
   { s with heap:=(s.heap.push W.emptyDict).push (W.instObj C s.heap.objs.size) }) :
  codeAny (model prog w) A (.call (.ref C) ⟨vs,kw⟩) R s:=by
 obtain ⟨hh,g,d,t,os⟩:=s
 exact W.make_core (W.makes_of X hm) (W.looks_findIn X hi) (fun self=>W.bind_fn X self hf) (.inl rfl) h
end
def wl (f:Str) (v:V):List (Str × V)->List (Str × V)
 | []=>[(f,v)]
 | (g,x) :: r=>if g=f then (g,v) :: r else (g,x) :: wl f v r
theorem ya8 (f g:Str) (v:V):∀ fs:List (Str × V),(wl f v fs).lookup g=if g=f then some v else fs.lookup g
 | []=>by
  show List.lookup g [(f,v)]=_
  by_cases h:g=f
  ·have hb:(g == f)=true:=beq_iff_eq.mpr h
   simp only [List.lookup,hb,if_pos h]
  ·have hb:(g == f)=false:=beq_eq_false_iff_ne.mpr h
   simp only [List.lookup,hb,if_neg h]
 | (k,x) :: r=>by
  have ih:=ya8 f g v r
  rw [show wl f v ((k,x) :: r)=(if k=f then (k,v) :: r else (k,x) :: wl f v r) from rfl]
  by_cases hk:k=f
  ·rw [if_pos hk]
   by_cases h:g=k
   ·have hb:(g == k)=true:=beq_iff_eq.mpr h
    simp only [List.lookup,hb,if_pos (h.trans hk)]
   ·have hb:(g == k)=false:=beq_eq_false_iff_ne.mpr h
    simp only [List.lookup,hb,if_neg (fun e:g=f=>h (e.trans hk.symm))]
  ·rw [if_neg hk]
   by_cases h:g=k
   ·have hb:(g == k)=true:=beq_iff_eq.mpr h
    simp only [List.lookup,hb,if_neg (fun e:g=f=>hk (h.symm.trans e))]
   ·have hb:(g == k)=false:=beq_eq_false_iff_ne.mpr h
    simp only [List.lookup,hb]
    exact ih
theorem ybb (f:Str) (v:V):∀ fs:List (Str × V),f∈(wl f v fs).map (·.1)/\∀ g,g∈fs.map (·.1)->g∈(wl f v fs).map (·.1)
 | []=>⟨by simp [wl],fun g h=>by simp at h⟩
 | (k,x) :: r=>by
  obtain ⟨i1,i2⟩:=ybb f v r
  rw [show wl f v ((k,x) :: r)=(if k=f then (k,v) :: r else (k,x) :: wl f v r) from rfl]
  by_cases hk:k=f
  ·rw [if_pos hk]
   subst hk
   exact ⟨by simp,fun g h=>by simpa using h⟩
  ·rw [if_neg hk]
   refine ⟨?_,fun g h=>?_⟩
   ·rw [List.map_cons]
    exact List.mem_cons_of_mem _ i1
   ·rw [List.map_cons] at h ⊢
    rcases List.mem_cons.mp h with e | e
    ·exact List.mem_cons.mpr (.inl e)
    ·exact List.mem_cons_of_mem _ (i2 g e)
theorem ya7 (f:Str) (v:V):∀ fs:List (Str × V),(wl f v fs).length <= fs.length+1
 | []=>by simp [wl]
 | (k,x) :: r=>by
  have ih:=ya7 f v r
  rw [show wl f v ((k,x) :: r)=(if k=f then (k,v) :: r else (k,x) :: wl f v r) from rfl]
  by_cases hk:k=f
  ·rw [if_pos hk,List.length_cons,List.length_cons]; omega
  ·rw [if_neg hk,List.length_cons,List.length_cons]; omega
theorem yew.some_of {v:V} {o:Option Value} (r:yew (some v) o):∃ u,o=some u/\xk v u:=by
 cases o with
 | none=>exact (show False from r).elim
 | some u=>exact ⟨u,rfl,r⟩
theorem yew.none_of {o:Option Value} (r:yew none o):o=none:=by
 cases o with
 | none=>rfl
 | some u=>exact (show False from r).elim
theorem yje {v:V} {u:Value} (r:xk v u):W.handedIn u=true:=by
 cases v with
 | non=>cases (show u=Value.none from r); rfl
 | bl b=>cases (show u=Value.bool b from r); rfl
 | int i=>obtain ⟨t,e⟩:=(show ∃ t,u=Value.int i t from r); cases e; rfl
 | str x=>obtain ⟨t,e⟩:=(show ∃ t,u=Value.str x t from r); cases e; rfl
 | byt b=>obtain ⟨t,e⟩:=(show ∃ t,u=Value.bytes b t from r); cases e; rfl
 | flt b=>obtain ⟨t,e⟩:=(show ∃ t,u=Value.float b t from r); cases e; rfl
 | ref a=>cases (show u=Value.ref a from r); rfl
 | ty n=>cases (show u=Value.type n from r); rfl
section
variable {P:Program} {w:World} {H H':Hp} {h h':Heap} {a C dx:Addr} {fs fs':List (Str × V)}
theorem ydc (hok:HOk P w H h) (e:H a=some (.ins C dx fs)):∃ mA,yuh h a dx C mA/\(∀ f,yew (fs.lookup f) (mA f))/\PySem.Within mA (fs.map (·.1))/\fs.length <= 1000/\H dx=some (.own a):=by
 obtain ⟨d,z,ne,ob,mA,n,r,q⟩:=(show xr P w H h a (.ins C dx fs) from hok a _ e)
 exact ⟨mA,⟨ob,n,ne⟩,r,q,z,d⟩
end
structure Cls (K:W.Frag) (C:Addr):Prop where
 pg:W.plainGet K C Str.empty=true
 hd:W.hasDictIn K C=true
 po:W.plainOver K C=true
 sa:W.findIn K (.ref C) "__setattr__"=some (some (.builtin "object.__setattr__"))
theorem Cls.get {K:W.Frag} {C:Addr} (c:Cls K C) (f:Str):W.plainGet K C f=true:=c.pg
def yt (K:W.Frag) (C:Addr) (f:Str):Prop:=W.findIn K (.ref C) f=some none
theorem yt.taker {K:W.Frag} {C:Addr} {f:Str} (n:yt K C f):W.takerIn K C f=some none:=by
 unfold W.takerIn
 rw [show W.findIn K (.ref C) f=some none from n]
 rfl
structure Con (K:W.Frag) (C:Addr) (f:Str) (v:V) (u:Value):Prop where
 at_:W.findIn K (.ref C) f=some (some u)
 rel:xk v u
 get:W.specialIn K u "__get__"=some none
 cp:W.copiedNames.contains f=false
structure yuk (K:W.Frag) (C:Addr) (m:Str) (f:Addr):Prop where
 at_:W.findIn K (.ref C) m=some (some (.ref f))
 fn:W.isFn K (.ref f)=true
 kp:W.keepIn K (.ref f)=true
section
variable {X:Cx} {pins:List (Addr × Obj)} {σ:St} {H:Hp} {s:Shared} {a C dx:Addr} {fs:List (Str × V)} {f:Str} {v:V} {A:Around} {E:Value->Shared->Prop}
theorem yij {b:Bool} {Q:Value->Shared->Prop} (I:Inv X pins σ H s) (e:H a=some (.ins C dx fs)) (c:Cls X.K C) (n:yt X.K C f) (l:fs.lookup f=some v)
  (h:∀ u s',Inv X pins σ H s'->xk v u->Q u s'):wpAny (model X.prog X.w) A (getAttr (.ref a) f b) Q E s:=by
 obtain ⟨mA,O,r,_,_,_⟩:=ydc I.hok e
 obtain ⟨u,hu,ru⟩:=yew.some_of (v:=v) (o:=mA f) (by rw [<- l]; exact r f)
 exact yqk I.kIn O (c.get f) c.hd n hu (yje ru) (h u _ (I.tok _) ru)
theorem j5 {m:Str} {g:Addr} {pl:Sem Bool} {Q:Value × List Value->Shared->Prop} (I:Inv X pins σ H s) (e:H a=some (.ins C dx fs)) (c:Cls X.K C) (k:yuk X.K C m g) (l:fs.lookup m=none)
  (h:Q (.ref g,[.ref a]) s):wpAny (model X.prog X.w) A (getMethod (.ref a) m pl) Q E s:=by
 obtain ⟨mA,O,r,_,_,_⟩:=ydc I.hok e
 have hn:mA m=none:=yew.none_of (by rw [<- l]; exact r m)
 exact ym7 I.kIn O (c.get m) k.at_ k.fn hn h
theorem yh4 {y:V} {u:Value} {Q:Unit->Shared->Prop} (I:Inv X pins σ H s) (e:H a=some (.ins C dx fs)) (c:Cls X.K C) (n:yt X.K C f) (hl:fs.length < 1000) (ry:xk y u)
  (h:∀ s',Inv X pins σ (upd H a (.ins C dx (wl f y fs))) s'->Q () s'):wpAny (model X.prog X.w) A (setAttr (.ref a) f u) Q E s:=by
 obtain ⟨mA,O,r,wi,_,ho⟩:=ydc I.hok e
 have hz:(fs.map (·.1)).length <= sizeLine:=by rw [List.length_map,sizeLine_eq]; omega
 refine yrr I.kIn O c.sa c.po n.taker c.hd wi hz fun h' O' sb=>h _ ?_
 have hd:∃ o,h'.get? dx=some o:=let ⟨o,_,_,e',_⟩:=O'.ns; ⟨o,e'⟩
 refine I.write (x:=a) (e:=dx) (by rw [e]; exact True.intro) (.inr ho) (fun b q hb z=>(sb.2 b hb).trans z) hd ?_
 refine ⟨by rw [yu O.ne]; exact ho,?_,O.ne,O'.obj,_,O'.ns,fun g=>?_,fun g hg=>?_⟩
 ·have:=ya7 f y fs; omega
 ·show yew ((wl f y fs).lookup g) (if g=f then some u else mA g)
  rw [ya8]
  by_cases q:g=f
  ·rw [if_pos q,if_pos q]; exact ry
  ·rw [if_neg q,if_neg q]; exact r g
 ·by_cases q:g=f
  ·rw [q]; exact (ybb f y fs).1
  ·refine (ybb f y fs).2 g (wi g fun z=>hg ?_)
   show (if g=f then some u else mA g)=none
   rw [if_neg q]; exact z
theorem Inv.made (I:Inv X pins σ H s):Inv X pins σ (upd (upd H s.heap.objs.size (.own (s.heap.objs.size+1))) (s.heap.objs.size+1) (.ins C s.heap.objs.size []))
  { s with heap:=(s.heap.push W.emptyDict).push (W.instObj C s.heap.objs.size) }:=by
 have e1:(s.heap.push W.emptyDict).get? s.heap.objs.size=some W.emptyDict:=Heap.get?_push_size s.heap rfl
 have e2:((s.heap.push W.emptyDict).push (W.instObj C s.heap.objs.size)).get? (s.heap.objs.size+1)=some (W.instObj C s.heap.objs.size):=by
  have:=Heap.get?_push_size (s.heap.push W.emptyDict) (o:=W.instObj C s.heap.objs.size) rfl
  rwa [Heap.size_push] at this
 have e3:(s.heap.push W.emptyDict).Ns s.heap.objs.size (fun _=>none):=⟨W.emptyDict,#[],_,e1,rfl,(fun e he=>absurd he (by simp)),fun _=>rfl⟩
 have I1:=I.laid (a:=s.heap.objs.size) (o:=.own (s.heap.objs.size+1)) (h':=s.heap.push W.emptyDict) (t':=s.toks) (fun b u q=>Heap.get?_push_of_some _ q) (Nat.le_refl _) ⟨_,e1⟩
 refine I1.laid (a:=s.heap.objs.size+1) (o:=.ins C s.heap.objs.size []) (t':=s.toks) (fun b u q=>Heap.get?_push_of_some _ q) (Nat.le_of_eq (Heap.size_push _ _)) ?_
 have ne:s.heap.objs.size≠s.heap.objs.size+1:=Nat.ne_of_lt (Nat.lt_succ_self _)
 refine ⟨by rw [yu ne,yd],Nat.zero_le _,ne,e2,fun _=>none,(Heap.Ns1.of_empty e3).at fun o q=>Heap.get?_push_of_some _ q,fun _=>True.intro,fun y hy=>absurd rfl hy⟩
theorem yrv {prog:Program} {w:World} {env:Env} {e:Expr} {f:Str} {pos:Pos} {s:Shared} {Q:Value->Shared->Prop} (hb:attributeBase e f env (eval e env)=eval e env)
  (h:wpAny (model prog w) A (eval e env) (fun o s₁=>wpAny (model prog w) A (getAttr o f true) Q E s₁) E s):wpAny (model prog w) A (eval (.Attribute e f pos) env) Q E s :=
 Attribute_any_ h (by rw [arm_eval_Attribute,hb])
end
def vbg (K:W.Frag) (ta:TE) (f:Str):TE:=fun σ H Q=>ta σ H fun x H1=>∃ a C dx fs v,x=.ref a/\H1 a=some (.ins C dx fs)/\Cls K C/\yt K C f/\fs.lookup f=some v/\Q v H1
def vbv (K:W.Frag) (ta tv:TE) (f:Str):TS:=fun D σ H=>tv σ H fun y H1=>ta σ H1 fun x H2=>∃ a C dx fs,x=.ref a/\H2 a=some (.ins C dx fs)/\Cls K C/\yt K C f/\fs.length < 1000 /\
 D.nx σ (upd H2 a (.ins C dx (wl f y fs)))
section
variable {X:Cx} {o e value:Expr} {f:Str} {pos pos' tpos:Pos} {ta tv:TE}
theorem yx (he:PE X e ta) (hb:attributeBase e f X.env (eval e X.env)=eval e X.env):PE X (.Attribute e f pos) (vbg X.K ta f):=by
 intro pins s σ H Q I h
 refine yrv hb (thn (he pins s σ H _ I h) fun u s1 ⟨x,H1,I1,rx,a,C,dx,fs,v,ex,ea,c,n,l,q⟩=>?_)
 subst ex
 obtain rfl:u=Value.ref a:=rx
 exact yij I1 ea c n l fun u' s2 I2 ru=>⟨v,H1,I2,ru,q⟩
theorem vo (ha:PE X o ta) (hv:PE X value tv) (hs:swapsWith value (some (.Attribute o f pos')) pos.line X.env=pure false):PS X (.Assign [.Attribute o f pos'] value pos) (vbv X.K ta tv f):=by
 intro pins s σ H D I h
 refine plainObj_wpAny_Assign_Attribute (thn (hv pins s σ H _ I h) fun u s1 ⟨y,H1,I1,ry,q⟩=>thn (ha pins s1 σ H1 _ I1 q) fun ov s2 ⟨x,H2,I2,rx,a,C,dx,fs,ex,ea,c,n,l,q2⟩=>?_) hs
 subst ex
 obtain rfl:ov=Value.ref a:=rx
 exact yh4 I2 ea c n l ry fun s3 I3=>⟨σ,_,I3,q2⟩
end
section
variable {X:Cx} {pins:List (Addr × Obj)} {σ:St} {H:Hp} {s:Shared} {A:Around} {E:Value->Shared->Prop} {Q:Value->Shared->Prop} {c:Value} {b:Bool}
inductive x6 (K:W.Frag) (H:Hp):V->Value->Prop where
 | non:x6 K H .non (.type "NoneType")
 | bl (x:Bool):x6 K H (.bl x) (.type "bool")
 | int (i:Int):x6 K H (.int i) (.type "int")
 | str (x:Str):x6 K H (.str x) (.type "str")
 | flt (x:UInt64):x6 K H (.flt x) (.type "float")
 | lst {a:Addr} {xs:List V} (e:H a=some (.lst xs)):x6 K H (.ref a) (.type "list")
 | frz {a:Addr} {o:Obj} {xs:List V} (e:H a=some (.frz o (.lst xs))):x6 K H (.ref a) (.type "list")
 | tup {a:Addr} {xs:List V} (e:H a=some (.tup xs)):x6 K H (.ref a) (.type "tuple")
 | dK {a:Addr} {kvs:List (Key × V)} (e:H a=some (.dK kvs)):x6 K H (.ref a) (.type "dict")
 | dT {a:Addr} {kvs:List (List Key × V)} (e:H a=some (.dT kvs)):x6 K H (.ref a) (.type "dict")
 | ins {a C dx:Addr} {fs:List (Str × V)} (e:H a=some (.ins C dx fs)) (cl:Cls K C) (ha:W.findIn K (.ref C) "__class__"=some (some (.builtin "object.__class__")))
   (hn:W.specialIn K (.builtin "object.__class__") "__get__"=some (some (.builtin "getset_descriptor.__get__"))) (htk:W.takesIn K (.builtin "object.__class__")=some true)
   (hm:W.mroIn K C (.type "object")=some true):x6 K H (.ref a) (.ref C)
theorem yjy {x:V} {u t:Value} (I:Inv X pins σ H s) (rx:xk x u) (ty:x6 X.K H x t) (e:W.kitOne X.K t c=some b) (h:∀ tk,Q (.bool b) { s with toks:=tk }) :
  wpAny (model X.prog X.w) A (call (.builtin "isinstance") [u,c]) Q E s:=by
 cases ty with
 | non=>cases (show u=Value.none from rx); exact W.kia_one W.kitx_none I.kIn True.intro e (fun z=>nomatch z) h
 | bl y=>cases (show u=Value.bool y from rx); exact W.kia_one W.kitx_bool I.kIn True.intro e (fun z=>nomatch z) h
 | int i=>obtain ⟨t,q⟩:=(show ∃ t,u=Value.int i t from rx); cases q; exact W.kia_one W.kitx_int I.kIn True.intro e (fun z=>nomatch z) h
 | str y=>obtain ⟨t,q⟩:=(show ∃ t,u=Value.str y t from rx); cases q; exact W.kia_one W.kitx_str I.kIn True.intro e (fun z=>nomatch z) h
 | flt y=>obtain ⟨t,q⟩:=(show ∃ t,u=Value.float y t from rx); cases q; exact W.kia_one W.kitx_float I.kIn True.intro e (fun z=>nomatch z) h
 | @lst a xs ea =>
  cases (show u=Value.ref a from rx)
  obtain ⟨_,_,n,_,h1⟩:=(show xr X.prog X.w H s.heap a (.lst xs) from I.hok a _ ea)
  exact W.kia_one W.kitx_list I.kIn ⟨_,h1,rfl⟩ e (fun z=>nomatch z) h
 | @frz a ob xs ea =>
  cases (show u=Value.ref a from rx)
  obtain ⟨_,_,_,n,_,h1⟩:=(show xr X.prog X.w H s.heap a (.frz ob (.lst xs)) from I.hok a _ ea)
  exact W.kia_one W.kitx_list I.kIn ⟨_,h1,rfl⟩ e (fun z=>nomatch z) h
 | @tup a xs ea =>
  cases (show u=Value.ref a from rx)
  obtain ⟨_,_,_,p⟩:=(show xr X.prog X.w H s.heap a (.tup xs) from I.hok a _ ea)
  obtain ⟨o,h1,h2,_⟩:=p
  exact W.kia_one W.kitx_tuple I.kIn ⟨o,h1,h2⟩ e (fun z=>nomatch z) h
 | @dK a kvs ea =>
  cases (show u=Value.ref a from rx)
  obtain ⟨_,_,vs,_,p⟩:=(show xr X.prog X.w H s.heap a (.dK kvs) from I.hok a _ ea)
  obtain ⟨o,es,ep,h1,h2,_⟩:=p
  exact W.kia_one W.kitx_dict I.kIn ⟨o,h1,h2.1⟩ e (fun z=>nomatch z) h
 | @dT a kvs ea =>
  cases (show u=Value.ref a from rx)
  obtain ⟨_,_,xs,_,o,es,ep,h1,h2,_⟩:=(show xr X.prog X.w H s.heap a (.dT kvs) from I.hok a _ ea)
  exact W.kia_one W.kitx_dict I.kIn ⟨o,h1,h2.1⟩ e (fun z=>nomatch z) h
 | @ins a C dx fs ea cl ha hn htk hm =>
  cases (show u=Value.ref a from rx)
  obtain ⟨mA,O,_⟩:=ydc I.hok ea
  obtain ⟨od,J,_⟩:=O.look
  exact W.kia_one (W.kitx_own (cl.get _) cl.hd ha hn htk hm) I.kIn J e (fun z=>nomatch z) h
end
end L2
namespace L2
open PySem PySem.Spec PyProof.Rows
structure ja (k:Nat) (A:Around):Prop where
 hd:A.handled=none
 dp:A.depth+3 * k+5 < recursionLimit
 un:A.units+16 * k+200 < cLine
theorem ja.mono {j k:Nat} {A:Around} (r:ja k A) (h:j <= k):ja j A:=⟨r.hd,by have:=r.dp; omega,by have:=r.un; omega⟩
theorem ja.deeper {k:Nat} {A:Around} (r:ja (k+1) A) (env:Env):ja k (A.deeper env) :=
 ⟨r.hd,by have:=r.dp; show A.depth+1+3 * k+5 < _; omega,by have:=r.un; show A.units+3+16 * k+200 < _; omega⟩
theorem yhw {A:Around} {C:Addr} {us:List Value} {kw:List (Str × Value)}:(A.under (.builtin "type.__call__" ⟨.ref C :: us,kw⟩)).depth=A.depth+1:=by
 first | rfl | simp [Around.under,Code.weight,Code.isCreation,Code.isGuard,Code.isCaller,Code.frames,Code.isFrame,guardIds]
theorem yhm {A:Around} {C:Addr} {us:List Value} {kw:List (Str × Value)}:(A.under (.builtin "type.__call__" ⟨.ref C :: us,kw⟩)).units=A.units+1:=by
 first | rfl | simp [Around.under,Code.cUnits,Code.frames,Code.isFrame]
theorem ja.make {k:Nat} {A:Around} (r:ja (k+1) A) (C:Addr) (us:List Value) (kw:List (Str × Value)):ja k (A.under (.builtin "type.__call__" ⟨.ref C :: us,kw⟩)) :=
 ⟨r.hd,by have:=r.dp; rw [yhw]; omega,by have:=r.un; rw [yhm]; omega⟩
theorem ja.depth {k:Nat} {A:Around} (r:ja k A):A.depth < recursionLimit:=by have:=r.dp; omega
theorem ja.units {k:Nat} {A:Around} (r:ja k A):A.units+64 < cLine:=by have:=r.un; omega
def yuc:TA:=fun _ H Q=>Q [] H
def yza (ta:TE) (tr:TA):TA:=fun σ H Q=>ta σ H fun x H1=>tr σ H1 fun xs H2=>Q (x :: xs) H2
section
variable {X:Cx} {e:Expr} {es:List Expr} {te:TE} {t:TA} {pos:Pos}
theorem yf:PA X [] yuc:=fun _ _ _ _ H Q I h=>Calls.spliced_nil ⟨[],H,I,.nil,h⟩
theorem yc (ha:PE X e te) (hr:PA X es t) (hs:starEach (e :: es) X.env=(false,eval e X.env) :: starEach es X.env:=by rfl):PA X (e :: es) (yza te t):=by
 intro pos pins s σ H Q I h
 rw [hs]
 show wpAny _ _ (spliced ((false,eval e X.env) :: backTo pos (starEach es X.env))) _ _ s
 refine Calls.spliced_cons (thn (ha pins s σ H _ I h) fun u s1 ⟨x,H1,I1,r1,q1⟩=>?_)
 exact thn (hr pos pins s1 σ H1 _ I1 q1) fun us s2 ⟨xs,H2,I2,r2,q2⟩=>⟨x :: xs,H2,I2,.cons r1 r2,q2⟩
def vb4 (t:TA):TE:=fun σ H Q=>t σ H fun xs H1=>xs.length <= sizeLine/\∀ p,H1 p=none->Q (.ref p) (upd H1 p (.tup xs))
def vby (t:TA):TE:=fun σ H Q=>t σ H fun xs H1=>xs.length <= sizeLine/\∀ p,H1 p=none->Q (.ref p) (upd H1 p (.lst xs))
theorem yhg {x1} (h:PA X es t):PE X (.Tuple es x1 pos) (vb4 t):=by
 intro pins s σ H Q I hq
 refine wpAny_Tuple_spliced (thn (h pos pins s σ H _ I hq) fun us s1 ⟨xs,H1,I1,r,z,q⟩=>⟨by rw [<- r.length]; exact z,?_⟩)
 have hf:H1 s1.heap.objs.size=none:=I1.hok.fresh (Nat.le_refl _)
 refine ⟨.ref s1.heap.objs.size,upd H1 s1.heap.objs.size (.tup xs),I1.laid (t':=s1.toks) (fun b u e=>Heap.get?_push_of_some _ e) (Nat.le_refl _) ?_,rfl,q _ hf⟩
 exact ⟨z,us,r,⟨_,Heap.get?_push_size _ rfl,rfl,_,rfl⟩⟩
theorem w4 (h:PA X es t):PE X (.List es pos) (vby t):=by
 intro pins s σ H Q I hq
 refine wpAny_List_spliced (thn (h pos pins s σ H _ I hq) fun us s1 ⟨xs,H1,I1,r,z,q⟩=>⟨by rw [<- r.length]; exact z,?_⟩)
 have hf:H1 s1.heap.objs.size=none:=I1.hok.fresh (Nat.le_refl _)
 refine ⟨.ref s1.heap.objs.size,upd H1 s1.heap.objs.size (.lst xs),I1.laid (t':=s1.toks) (fun b u e=>Heap.get?_push_of_some _ e) (Nat.le_refl _) ?_,rfl,q _ hf⟩
 exact ⟨z,us,0,r,Heap.get?_push_size _ rfl⟩
end
abbrev Sp:=List V->Hp->VK->XK->Prop
abbrev CXT:=List Env->Hp->Shared->XK->Value->Shared->Prop
structure yui (P:Program) (w:World) (K:W.Frag) (mg:Str->Option Value) (base:Heap) (A:Around) (outer:List Env) (s:Shared) (H:Hp):Prop where
 frames:A.frames=some outer
 mod:Mod K mg base
 bs:∀ b o,base.get? b=some o->s.heap.get? b=some o/\H b=none
 bsz:base.objs.size <= s.heap.objs.size
 funs:s.heap.FunFrames base outer
 frf:∀ b∈frs outer,H b=none
 hok:HOk P w H s.heap
 bare:AllBare s.gens
def CE (outer:List Env) (P:Program) (w:World) (H:Hp) (s:Shared) (Q:VK) (u:Value) (s':Shared):Prop :=
 ∃ v H',s'.os=s.os/\AllBare s'.gens/\Un (frs outer) [] H H' s.heap s'.heap/\HOk P w H' s'.heap/\xk v u/\Q v H'
def CR (CX:CXT) (outer:List Env) (P:Program) (w:World) (H:Hp) (s:Shared) (Q:VK) (E:XK) (r:Result) (s':Shared):Prop :=
 match r with
 | .ok (.ret u)=>CE outer P w H s Q u s'
 | .ok _=>False
 | .error e=>CX outer H s E e s'
structure wc (P:Program) (w:World) (K:W.Frag) (mg:Str->Option Value) (base:Heap) (CX:CXT) (k:Nat) (f:Addr) (fd:FuncData) (ps:List Str) (sp:Sp):Prop where
 len:∀ vs H Q E,sp vs H Q E->vs.length=ps.length
 run:∀ (A:Around) (outer:List Env) (s:Shared) (H:Hp) (args:Args) (us:List Value) (vs:List V) (Q:VK) (E:XK),ja k A->yui P w K mg base A outer s H->BindsTo s fd args (ps.zip us)->wu vs us->sp vs H Q E ->
  codeAny (model P w) A (.call (.ref f) args) (CR CX outer P w H s Q E) s
theorem yui.make {P:Program} {w:World} {K:W.Frag} {mg:Str->Option Value} {base:Heap} {A:Around} {outer:List Env} {s:Shared} {H:Hp} (e:yui P w K mg base A outer s H) (C:Addr) (us:List Value) (kw:List (Str × Value)) :
  yui P w K mg base (A.under (.builtin "type.__call__" ⟨.ref C :: us,kw⟩)) outer s H:=⟨by first | exact e.frames | (simpa [Around.under,Code.envs,Code.isFrame,pushEnvs] using e.frames),e.mod,e.bs,e.bsz,e.funs,e.frf,e.hok,e.bare⟩
section
variable {X:Cx} {pins:List (Addr × Obj)} {σ:St} {H:Hp} {s s':Shared}
theorem Inv.env0 (I:Inv X pins σ H s):yui X.prog X.w X.K X.mg X.base X.A X.stack s H :=
 ⟨I.ok.frames,I.ok.mod,I.bs,Nat.le_trans I.ok.bsz I.sz,I.stack,I.stkFree,I.hok,I.bare⟩
theorem Inv.after {Q:VK} {u:Value} (I:Inv X pins σ H s) (h:CE X.stack X.prog X.w H s Q u s'):EP X pins σ Q u s':=by
 obtain ⟨v,H',os,bare,un,hok,r,q⟩:=h
 obtain ⟨hh,g,d,t,os'⟩:=s'
 obtain rfl:os'=s.os:=os
 exact ⟨v,H',I.call (h':=hh) (g':=g) (d':=d) (t':=t) (ch:=[]) un hok bare (fun b z=>absurd z (by simp)),r,q⟩
end
def yy0 (sp:Sp) (dvs:List V) (E:XK) (t:TA):TE:=fun σ H Q=>t σ H fun vs H1=>sp (vs++dvs) H1 Q E
def yf7 (C:Addr) (m:Str) (sp:Sp) (dvs:List V) (E:XK) (ta:TE) (t:TA):TE:=fun σ H Q=>ta σ H fun x H1=>∃ a dx fs,x=.ref a/\H1 a=some (.ins C dx fs)/\fs.lookup m=none /\
 t σ H1 fun vs H2=>sp (x :: (vs++dvs)) H2 Q E
def ytn (C:Addr) (sp:Sp) (dvs:List V) (E:XK) (t:TA):TE:=fun σ H Q=>t σ H fun vs H1=>∀ x dx,H1 x=none->H1 dx=none->dx≠x ->
 sp (.ref x :: (vs++dvs)) (upd (upd H1 dx (.own x)) x (.ins C dx [])) (fun v H2=>v=.non/\Q (.ref x) H2) E
def xq (K:W.Frag) (fd:FuncData) (ps:List Str) (ds:List Value):Prop :=
 ∀ (s:Shared) (us:List Value),K.In s.heap->(us++ds).length=ps.length->BindsTo s fd ⟨us,[]⟩ (ps.zip (us++ds))
theorem xq.all {K:W.Frag} {fd:FuncData} {ps:List Str} (h:∀ us:List Value,us.length=ps.length->bindArgs fd ⟨us,[]⟩=pure (ps.zip us)):xq K fd ps []:=fun s us _ hl=>by
 rw [List.append_nil] at hl ⊢
 exact .of_eq (h us hl)
def yag (CX:CXT) (X:Cx) (E:XK):Prop:=∀ (pins:List (Addr × Obj)) (σ:St) (H:Hp) (s:Shared) (e:Value) (s':Shared),Inv X pins σ H s->CX X.stack H s E e s'->X.xe e s'
section
variable {X:Cx} {CX:CXT} {k:Nat} {f C:Addr} {fd:FuncData} {ps:List Str} {sp:Sp} {dvs:List V} {ds:List Value} {E:XK} {x m:Str} {p pos apos:Pos} {e o:Expr} {es:List Expr} {ta:TE} {t:TA}
theorem yls {pins:List (Addr × Obj)} {σ:St} {H:Hp} {s:Shared} {Q:VK} {us:List Value} {vs:List V} (F:wc X.prog X.w X.K X.mg X.base CX k f fd ps sp) (hr:ja k X.A) (hb:xq X.K fd ps ds) (hd:wu dvs ds) (hx:yag CX X E)
  (I:Inv X pins σ H s) (r:wu vs us) (h:sp (vs++dvs) H Q E):wpAny (model X.prog X.w) X.A (call (.ref f) us) (EP X pins σ Q) X.xe s:=by
 have r2:wu (vs++dvs) (us++ds):=r.append hd
 have hl:(us++ds).length=ps.length:=by rw [<- r2.length]; exact F.len _ _ _ _ h
 refine wpAny_call (codeAny_mono (F.run X.A X.stack s H ⟨us,[]⟩ (us++ds) (vs++dvs) Q E hr I.env0 (hb s us I.kIn hl) r2 h) fun r s' hq=>?_)
 cases r with
 | error e=>exact hx pins σ H s e s' I hq
 | ok fl =>
  cases fl with
  | ret u=>exact I.after hq
  | next=>exact False.elim hq
  | brk=>exact False.elim hq
  | cont=>exact False.elim hq
theorem yv (F:wc X.prog X.w X.K X.mg X.base CX k f fd ps sp) (hr:ja k X.A) (hg:Gl X x) (hm:X.mg x=some (.ref f)) (hk:W.keepIn X.K (.ref f)=true) (hb:xq X.K fd ps ds) (hd:wu dvs ds) (hx:yag CX X E)
  (ha:PA X (e :: es) t) (hdb:(x == ("__debug__":Str))=false:=by decide) (he:starEach (e :: es) X.env=(false,eval e X.env) :: starEach es X.env:=by rfl) (hpl:(backTo pos (starEach es X.env)).any (·.1)=false:=by rfl) :
  PE X (.Call (.Name x p) (e :: es) [] pos) (yy0 sp dvs E t):=by
 intro pins s σ H Q I h
 refine wpAny_Call_Name_kw (jc I hg hm ?_ hdb)
 refine W.callWith_K (h₀:=X.base) I.ok.mod.kin hk (thn (ha pos pins s σ H _ I h) fun us s1 ⟨vs,H1,I1,r,q⟩=>⟨I1.kIn,?_⟩) he hpl
 exact yls F hr hb hd hx I1 r q
theorem x4 {pl:Sem Bool} (he:PE X o ta) (c:Cls X.K C) (hm:yuk X.K C m f) (F:wc X.prog X.w X.K X.mg X.base CX k f fd ps sp) (hr:ja k X.A) (hb:xq X.K fd ps ds) (hd:wu dvs ds) (hx:yag CX X E) (ha:PA X (e :: es) t)
  (hst:starEach (e :: es) X.env=(false,eval e X.env) :: starEach es X.env:=by rfl) (hpl:(backTo pos (starEach es X.env)).any (·.1)=false:=by rfl)
  (ht:eval (.Call (.Attribute o m apos) (e :: es) [] pos) X.env=(do
   let ov <- eval o X.env
   standAt apos.atName
   let (f,first) <- holding [ov] (getMethod ov m pl)
   callWith pos f first (backTo pos (starEach (e :: es) X.env)) (backToKw pos (keywordEach [] X.env))):=by rfl) :
  PE X (.Call (.Attribute o m apos) (e :: es) [] pos) (yf7 C m sp dvs E ta t):=by
 intro pins s σ H Q I h
 refine W.methodCall_KW (pl:=pl) (thn (he pins s σ H _ I h) fun u s1 ⟨x,H1,I1,rx,a,dx,fs,ex,ea,l,q⟩=>?_) ht
 subst ex
 obtain rfl:u=Value.ref a:=rx
 refine j5 I1 ea c hm l ?_
 refine W.callWith_K (first:=[.ref a]) (h₀:=X.base) I.ok.mod.kin hm.kp (thn (ha pos pins s1 σ H1 _ I1 q) fun us s2 ⟨vs,H2,I2,r,q2⟩=>⟨I2.kIn,?_⟩) hst hpl
 exact yls (us:=.ref a :: us) (vs:=.ref a :: vs) F hr hb hd hx I2 (.cons rfl r) q2
theorem wv {pl:Sem Bool} (he:PE X o ta) (c:Cls X.K C) (hm:yuk X.K C m f) (F:wc X.prog X.w X.K X.mg X.base CX k f fd ps sp) (hr:ja k X.A) (hb:xq X.K fd ps ds) (hd:wu dvs ds) (hx:yag CX X E)
  (ht:eval (.Call (.Attribute o m apos) [] [] pos) X.env=(do
   let ov <- eval o X.env
   standAt apos.atName
   let (f,first) <- holding [ov] (getMethod ov m pl)
   callWith pos f first (backTo pos (starEach [] X.env)) (backToKw pos (keywordEach [] X.env))):=by rfl) :
  PE X (.Call (.Attribute o m apos) [] [] pos) (yf7 C m sp dvs E ta yuc):=by
 intro pins s σ H Q I h
 refine W.methodCall_KW (pl:=pl) (thn (he pins s σ H _ I h) fun u s1 ⟨x,H1,I1,rx,a,dx,fs,ex,ea,l,q⟩=>?_) ht
 subst ex
 obtain rfl:u=Value.ref a:=rx
 refine j5 I1 ea c hm l ?_
 exact W.callWith_K0 (first:=[.ref a]) I1.kIn hm.kp (yls (us:=[.ref a]) (vs:=[.ref a]) F hr hb hd hx I1 (.cons rfl .nil) q)
structure Mk (K:W.Frag) (C f:Addr):Prop where
 makes:W.makesIn K C=true
 init:W.findIn K (.ref C) "__init__"=some (some (.ref f))
 fn:W.isFn K (.ref f)=true
 kp:W.keepIn K (.ref C)=true
theorem yge {pins:List (Addr × Obj)} {σ:St} {H:Hp} {s:Shared} {Q:VK} {us:List Value} {vs:List V} (M:Mk X.K C f) (F:wc X.prog X.w X.K X.mg X.base CX k f fd ps sp) (hr:ja (k+1) X.A) (hb:xq X.K fd ps ds) (hd:wu dvs ds)
  (hx:yag CX X E) (I:Inv X pins σ H s) (r:wu vs us)
  (h:∀ x dx,H x=none->H dx=none->dx≠x->sp (.ref x :: (vs++dvs)) (upd (upd H dx (.own x)) x (.ins C dx [])) (fun v H2=>v=.non/\Q (.ref x) H2) E) :
  wpAny (model X.prog X.w) X.A (call (.ref C) us) (EP X pins σ Q) X.xe s:=by
 have hq:=h (s.heap.objs.size+1) s.heap.objs.size (I.hok.fresh (Nat.le_succ _)) (I.hok.fresh (Nat.le_refl _)) (Nat.ne_of_lt (Nat.lt_succ_self _))
 have I2:=Inv.made (C:=C) I
 have r2:wu (V.ref (s.heap.objs.size+1) :: (vs++dvs)) (Value.ref (s.heap.objs.size+1) :: (us++ds)):=.cons rfl (r.append hd)
 have hl:(Value.ref (s.heap.objs.size+1) :: us++ds).length=ps.length:=by
  have e:=r2.length
  rw [F.len _ _ _ _ hq] at e
  exact e.symm
 refine wpAny_call (ygc (f:=f) I.kIn M.makes M.init (beq_iff_eq.mp M.fn) (codeAny_mono (F.run _ X.stack _ _ ⟨Value.ref (s.heap.objs.size+1) :: us,[]⟩ (Value.ref (s.heap.objs.size+1) :: (us++ds)) _ _ E (hr.make C us [])
  (I2.env0.make C us []) (hb _ (Value.ref (s.heap.objs.size+1) :: us) I2.kIn hl) r2 hq) fun r s' hq'=>?_))
 cases r with
 | error e=>exact hx pins σ _ _ e s' I2 hq'
 | ok fl =>
  cases fl with
  | ret u =>
   obtain ⟨v,H',I3,rv,ev,q3⟩:=I2.after hq'
   subst ev
   exact ⟨rv,⟨V.ref (s.heap.objs.size+1),H',I3,rfl,q3⟩⟩
  | next=>exact False.elim hq'
  | brk=>exact False.elim hq'
  | cont=>exact False.elim hq'
theorem ykn (M:Mk X.K C f) (F:wc X.prog X.w X.K X.mg X.base CX k f fd ps sp) (hr:ja (k+1) X.A) (hg:Gl X x) (hm:X.mg x=some (.ref C)) (hb:xq X.K fd ps ds) (hd:wu dvs ds) (hx:yag CX X E)
  (ha:PA X (e :: es) t) (hdb:(x == ("__debug__":Str))=false:=by decide) (he:starEach (e :: es) X.env=(false,eval e X.env) :: starEach es X.env:=by rfl) (hpl:(backTo pos (starEach es X.env)).any (·.1)=false:=by rfl) :
  PE X (.Call (.Name x p) (e :: es) [] pos) (ytn C sp dvs E t):=by
 intro pins s σ H Q I h
 refine wpAny_Call_Name_kw (jc I hg hm ?_ hdb)
 refine W.callWith_K (h₀:=X.base) I.ok.mod.kin M.kp (thn (ha pos pins s σ H _ I h) fun us s1 ⟨vs,H1,I1,r,q⟩=>⟨I1.kIn,?_⟩) he hpl
 exact yge M F hr hb hd hx I1 r q
theorem jn (M:Mk X.K C f) (F:wc X.prog X.w X.K X.mg X.base CX k f fd ps sp) (hr:ja (k+1) X.A) (hg:Gl X x) (hm:X.mg x=some (.ref C)) (hb:xq X.K fd ps ds) (hd:wu dvs ds) (hx:yag CX X E)
  (hdb:(x == ("__debug__":Str))=false:=by decide):PE X (.Call (.Name x p) [] [] pos) (ytn C sp dvs E yuc):=by
 intro pins s σ H Q I h
 refine wpAny_Call_Name_kw (jc I hg hm ?_ hdb)
 exact W.callWith_K0 I.kIn M.kp (yge (us:=[]) M F hr hb hd hx I .nil h)
end
section
variable {X:Cx} {CX:CXT} {k:Nat} {f C:Addr} {fd:FuncData} {ps ks:List Str} {sp:Sp} {E:XK} {x m:Str} {p pos apos kpos:Pos} {e o:Expr} {es:List Expr} {kws:List Keyword} {te ta:TE} {t tk:TA} {nm:Option Str}
structure vbj (K:W.Frag) (fd:FuncData) (ps ks:List Str) (g:List Value->List Value->List Value) (gV:List V->List V->List V):Prop where
 to:∀ (s:Shared) (us ws:List Value),K.In s.heap->(g us ws).length=ps.length->BindsTo s fd ⟨us,ks.zip ws⟩ (ps.zip (g us ws))
 rel:∀ {vs:List V} {us:List Value} {zs:List V} {ws:List Value},wu vs us->wu zs ws->wu (gV vs zs) (g us ws)
variable {g:List Value->List Value->List Value} {gV:List V->List V->List V}
end
structure yn (N P:List Str) (sc:Scope):Prop where
 kind:sc.kind=.function
 co:sc.isCoroutine=false
 gen:sc.isGenerator=false
 nd:N.Nodup
 pre:N.take P.length=P
 par:∀ x∈P,sc.names.lookup x=some .local\/sc.names.lookup x=some .cell
 nofree:∀ y∈sc.names,y.2≠.free
theorem yd5 {kindOf:Str->Option NameKind} {x:Str}:∀ {binds:List (Str × Value)} {m:Str->Option Value},(∀ v,(x,v)∉binds)->bindL kindOf binds m x=m x
 | [],_,_=>rfl
 | (n,v) :: r,m,h=>by
  unfold bindL
  rw [yd5 fun w hw=>h w (List.mem_cons_of_mem _ hw)]
  split
  ·have:x≠n:=by rintro rfl; exact h v List.mem_cons_self
   simp [this]
  ·rfl
theorem yec {kindOf:Str->Option NameKind} {x:Str}:∀ {binds:List (Str × Value)} {m:Str->Option Value},(∀ v,(x,v)∉binds)->bindC kindOf binds m x=m x
 | [],_,_=>rfl
 | (n,v) :: r,m,h=>by
  unfold bindC
  rw [yec fun w hw=>h w (List.mem_cons_of_mem _ hw)]
  split
  ·rfl
  ·have:x≠n:=by rintro rfl; exact h v List.mem_cons_self
   simp [this]
theorem yed {kindOf:Str->Option NameKind} {x:Str} {v:Value}:∀ {P:List Str} {vs:List Value} {i:Nat} {m:Str->Option Value},P.Nodup->P[i]?=some x->vs[i]?=some v->kindOf x=some .local ->
  bindL kindOf (P.zip vs) m x=some v
 | [],_,_,_,_,h,_,_=>by simp at h
 | _ :: _,[],_,_,_,_,h,_=>by simp at h
 | p :: P,w :: vs,0,m,nd,h1,h2,hk=>by
  simp at h1 h2; subst h1; subst h2
  show bindL kindOf ((p,w) :: P.zip vs) m p=_
  unfold bindL
  rw [yd5 fun v hv=>(List.nodup_cons.mp nd).1 (List.of_mem_zip hv).1,if_pos hk]
  simp
 | p :: P,w :: vs,i+1,m,nd,h1,h2,hk=>by
  show bindL kindOf ((p,w) :: P.zip vs) m x=_
  unfold bindL
  exact yed (i:=i) (List.nodup_cons.mp nd).2 (by simpa using h1) (by simpa using h2) hk
theorem yd7 {kindOf:Str->Option NameKind} {x:Str} {v:Value}:∀ {P:List Str} {vs:List Value} {i:Nat} {m:Str->Option Value},P.Nodup->P[i]?=some x->vs[i]?=some v->kindOf x≠some .local ->
  bindC kindOf (P.zip vs) m x=some v
 | [],_,_,_,_,h,_,_=>by simp at h
 | _ :: _,[],_,_,_,_,h,_=>by simp at h
 | p :: P,w :: vs,0,m,nd,h1,h2,hk=>by
  simp at h1 h2; subst h1; subst h2
  show bindC kindOf ((p,w) :: P.zip vs) m p=_
  unfold bindC
  rw [yec fun v hv=>(List.nodup_cons.mp nd).1 (List.of_mem_zip hv).1,if_neg hk]
  simp
 | p :: P,w :: vs,i+1,m,nd,h1,h2,hk=>by
  show bindC kindOf ((p,w) :: P.zip vs) m x=_
  unfold bindC
  exact yd7 (i:=i) (List.nodup_cons.mp nd).2 (by simpa using h1) (by simpa using h2) hk
def yae (N:List Str) (vs:List V):St:=vs.map some++List.replicate (N.length - vs.length) none
def wa (CX:CXT) (P:Program) (w:World) (K:W.Frag) (mg:Str->Option Value) (base:Heap) (N:List Str) (qual:Str) (scope:Scope) (f:Addr) (cd:Value) (A:Around) (outer:List Env) (s:Shared) (H:Hp) (E:XK):Cx where
 prog:=P
 w:=w
 K:=K
 mg:=mg
 base:=base
 A:=A.deeper (envOfC qual scope s.heap.objs.size f cd)
 N:=N
 s₀:=s
 H₀:=H
 env:=envOfC qual scope s.heap.objs.size f cd
 outer:=outer
 stack:=envOfC qual scope s.heap.objs.size f cd :: outer
 ex:=[]
 calm:=true
 fn:=fun _=>true
 pn:=[]
 xe:=fun e s'=>wpAny (model P w) (A.deeper (envOfC qual scope s.heap.objs.size f cd)) (leaving (envOfC qual scope s.heap.objs.size f cd) e) (fun _ s''=>CX outer H s E e s'') (fun e' s''=>CX outer H s E e' s'') s'
theorem ygi {sc:Scope} {n:Nat} {x:Str} (h:sc.names.lookup x=some .cell):∃ c,(cellsFrom n sc.names []).lookup x=some c:=by
 have q:=W.cellsFrom_some sc.names n [] (.inl h)
 exact Option.isSome_iff_exists.mp q
theorem ykh {CX:CXT} {P:Program} {w:World} {K:W.Frag} {mg:Str->Option Value} {base:Heap} {N ps:List Str} {qual:Str} {scope:Scope} {f:Addr} {cd:Value} {A:Around} {outer:List Env} {s s1:Shared} {H:Hp} {E:XK} {us:List Value} {vs:List V}
  (S:yn N ps scope) (hd:A.handled=none) (e0:yui P w K mg base A outer s H) (hl:vs.length=ps.length) (r:wu vs us)
  (x:InCallC s s.heap.objs.size (bindL (envOfC qual scope s.heap.objs.size f cd).kindOf (ps.zip us) fun _=>none) (cellsFrom (s.heap.objs.size+1) scope.names []) (bindC (envOfC qual scope s.heap.objs.size f cd).kindOf (ps.zip us) fun _=>none) s1) :
  Inv (wa CX P w K mg base N qual scope f cd A outer s H E) [] (yae N vs) H s1:=by
 have hpl:ps.length <= N.length:=by have:=congrArg List.length S.pre; rw [List.length_take] at this; omega
 obtain ⟨h1,tk,rfl,hk⟩:=x.done
 have noA:∀ b:Addr,b∉(wa CX P w K mg base N qual scope f cd A outer s H E).ex:=fun b z=>absurd (show b∈([]:List Addr) from z) (by simp)
 refine ⟨⟨e0.mod,S.kind,rfl,rfl,Nat.le_refl _,fun y z c h1 h2=>?_,fun y hy=>?_,fun y c _ h=>?_,fun _=>hd,Around.frames_deeper e0.frames,.inr ⟨rfl,rfl⟩,fun b z=>absurd z (noA b),e0.bs,e0.bsz,fun b _ _=>noA b,fun b z=>absurd z (noA b),e0.funs,e0.frf⟩,
  rfl,e0.bare,Un.kept hk,⟨_,x.toInCall.ns,fun i y v h1 h2 h3=>?_⟩,fun y c h=>⟨_,x.cell y c h⟩,e0.hok.fresh (Nat.le_refl _),fun y c h=>?_,fun p hp=>absurd (show p∈([]:List (Addr × Obj)) from hp) (by simp),e0.hok.kept hk,?_⟩
 ·exact name_of_addr x.apart (PySem.mem_of_lookup h1) (PySem.mem_of_lookup h2)
 ·have hy:scope.names.lookup y=some .cell\/scope.names.lookup y=some .free:=hy
  rcases hy with hy | hy
  ·exact ygi hy
  ·exact absurd rfl (S.nofree _ (PySem.mem_of_lookup hy))
 ·exact Nat.le_of_lt (x.above y c (PySem.mem_of_lookup h))
 ·have hi:i < vs.length:=by
   unfold yae at h2
   by_cases hi:i < vs.length
   ·exact hi
   ·rw [List.getElem?_append_right (by simpa using hi)] at h2
    rw [List.getElem?_replicate] at h2
    split at h2 <;> cases h2
  have ha:vs[i]?=some v:=by
   unfold yae at h2
   rw [List.getElem?_append_left (by simpa using hi),List.getElem?_map] at h2
   cases e:vs[i]? with
   | none=>rw [e] at h2; cases h2
   | some a=>rw [e] at h2; cases h2; rfl
  obtain ⟨u,hu,rv⟩:=r.get ha
  have hp:ps[i]?=some y:=by
   rw [<- S.pre,List.getElem?_take_of_lt (by omega)]; exact h1
  have ndP:ps.Nodup:=by rw [<- S.pre]; exact S.nd.sublist (List.take_sublist _ _)
  refine ⟨u,rv,?_⟩
  rcases S.par y (List.mem_of_getElem? hp) with k | k
  ·exact .inl ⟨k,yed ndP hp hu k⟩
  ·obtain ⟨c,e⟩:=ygi (n:=s.heap.objs.size+1) k
   refine .inr ⟨.inl k,c,e,?_⟩
   have q:=x.cell y c e
   rw [yd7 ndP hp hu (by show scope.names.lookup y≠_; rw [k]; decide)] at q
   exact q
 ·exact e0.hok.fresh (Nat.le_of_lt (x.above y c (PySem.mem_of_lookup h)))
 ·unfold yae
  show _=N.length
  rw [List.length_append,List.length_map,List.length_replicate]
  omega
theorem yn7 {CX:CXT} {P:Program} {w:World} {K:W.Frag} {mg:Str->Option Value} {base:Heap} {k:Nat} {f:Addr} {name qual:Str} {params:Arguments} {body:List Stmt} {scope:Scope} {dV kV doc pm cdv ct oc:Value} {an od:Option Addr}
  {osl:Array (Option Value)} {N ps:List Str} {sp:Sp} (lk:K.lookup f=some ⟨oc,od,.func (W.fnOf name qual params body scope dV kV doc pm an cdv ct),osl⟩) (hcd:W.codeIn K cdv qual=true) (S:yn N ps scope)
  (len:∀ vs H Q E,sp vs H Q E->vs.length=ps.length)
  (hbody:∀ (A:Around) (outer:List Env) (s:Shared) (H:Hp) (vs:List V) (Q:VK) (E:XK),ja k (A.deeper (envOfC qual scope s.heap.objs.size f cdv))->sp vs H Q E ->
   ∃ t,PSs (wa CX P w K mg base N qual scope f cdv A outer s H E) body t/\t { nx:=fun _ H'=>Q .non H',rt:=Q } (yae N vs) H) :
  wc P w K mg base CX (k+1) f (W.fnOf name qual params body scope dV kV doc pm an cdv ct) ps sp:=by
 refine ⟨len,fun A outer s H args us vs Q E hr e0 hb r hsp=>?_⟩
 have hl:=len _ _ _ _ hsp
 have KX:K.In s.heap:=e0.mod.kin.keeps fun b o e=>(e0.bs b o e).1
 have lim:s.heap.NoLimit:=e0.mod.nolimit.keeps fun b o e=>(e0.bs b o e).1
 have hkind:∀ y∈ps.zip us,scope.names.lookup y.1=some .local\/(scope.names.lookup y.1=some .cell/\((cellsFrom (s.heap.objs.size+1) scope.names []).lookup y.1).isSome=true):=fun ⟨n,v⟩ hy=>by
  rcases S.par n (List.of_mem_zip hy).1 with q | q
  ·exact .inl q
  ·exact .inr ⟨q,W.cellsFrom_some _ _ _ (.inl q)⟩
 refine codeAny_call_function hr.depth (KX _ _ lk) rfl S.co S.gen rfl (W.codeRec_of KX hcd) (hb _ _ _ _ ?_)
 refine wpAny_newFunctionEnv_cells S.kind hkind fun env he s1 x=>?_
 subst he
 refine ⟨lim.keeps x.toInCall.keep,codeAny_func ?_⟩
 obtain ⟨t,ht,hq⟩:=hbody A outer s H vs Q E (hr.deeper _) hsp
 have I:Inv (wa CX P w K mg base N qual scope f cdv A outer s H E) [] (yae N vs) H s1:=ykh S hr.hd e0 hl r x
 refine wpAny_mono (ht [] s1 (yae N vs) H _ I hq) (fun fl s' hs=>?_) fun e s' hs=>hs
 have fin:∀ {σ':St} {H':Hp} {v:V} {u:Value},Inv (wa CX P w K mg base N qual scope f cdv A outer s H E) [] σ' H' s'->xk v u->Q v H'->CE outer P w H s Q u s' :=
  fun {σ' H' v u} J rv q=>⟨v,H',J.os,J.bare,J.base,J.hok,rv,q⟩
 cases fl with
 | ret u =>
  obtain ⟨v,σ',H',J,rv,q⟩:=hs
  exact fin J rv q
 | next =>
  obtain ⟨σ',H',J,q⟩:=hs
  exact fin (v:=V.non) (u:=Value.none) J rfl q
 | brk =>
  obtain ⟨_,_,_,q⟩:=hs
  exact False.elim q
 | cont =>
  obtain ⟨_,_,_,q⟩:=hs
  exact False.elim q
end L2
namespace L2
open PySem PySem.Spec PyProof.Rows
section
variable {X:Cx} {x:Str} {p pos:Pos} {e:Expr} {es:List Expr} {t:TA} {id T:String} {r:List V->Hp->VK->Prop}
def tCB (r:List V->Hp->VK->Prop) (t:TA):TE:=fun σ H Q=>t σ H fun vs H1=>r vs H1 Q
theorem yp (hc:ybq X (.builtin id) r) (hg:Gl X x) (hm:X.mg x=none) (hv:bootBuiltins x=some (.builtin id)) (ha:PA X (e :: es) t) (hn:x≠"__name__":=by decide) (hdb:(x == ("__debug__":Str))=false:=by decide)
  (he:starEach (e :: es) X.env=(false,eval e X.env) :: starEach es X.env:=by rfl) (hpl:(backTo pos (starEach es X.env)).any (·.1)=false:=by rfl):PE X (.Call (.Name x p) (e :: es) [] pos) (tCB r t):=by
 intro pins s σ H Q I h
 refine wpAny_Call_Name_kw (ybj I hg hm hv ?_ hn hdb)
 exact PyProof.Rows.callWith_builtin1 (thn (ha pos pins s σ H _ I h) fun us s1 ⟨vs,H1,I1,r1,q1⟩=>hc pins s1 σ H1 vs us Q I1 r1 q1) he hpl
theorem xa (hc:ybq X (.type T) r) (hg:Gl X x) (hm:X.mg x=none) (hv:bootBuiltins x=some (.type T)) (ha:PA X (e :: es) t) (hn:x≠"__name__":=by decide) (hdb:(x == ("__debug__":Str))=false:=by decide)
  (he:starEach (e :: es) X.env=(false,eval e X.env) :: starEach es X.env:=by rfl) (hpl:(backTo pos (starEach es X.env)).any (·.1)=false:=by rfl):PE X (.Call (.Name x p) (e :: es) [] pos) (tCB r t):=by
 intro pins s σ H Q I h
 refine wpAny_Call_Name_kw (ybj I hg hm hv ?_ hn hdb)
 exact PyProof.Rows.callWith_type1 (thn (ha pos pins s σ H _ I h) fun us s1 ⟨vs,H1,I1,r1,q1⟩=>hc pins s1 σ H1 vs us Q I1 r1 q1) he hpl
end
end L2
namespace HT
open PySem PyProof.Rows
section
open PySem.SeqAt
open PySem.AutoSeq1 (wpAny_loadPart')
open PySem.MeetsSeq PySem.MeetsSeq2 PySem.MeetsSeq3
end
section
variable {prog:Program} {w:World} {A:Around} {E:Value->Shared->Prop} {s:Shared}
def sIx (n d:Nat):Option Int->Nat
 | none=>d
 | some v=>if v < 0 then (v+(n:Int)).toNat else min v.toNat n
theorem sIx_none (n d:Nat):sIx n d none=d:=rfl
theorem sIx_nat (n d k:Nat):sIx n d (some (k:Int))=min k n:=by
 show (if (k:Int) < 0 then ((k:Int)+(n:Int)).toNat else min (k:Int).toNat n)=min k n
 rw [if_neg (by omega),Int.toNat_natCast]
theorem ywa (n d:Nat) (hd:d <= n) (o:Option Int):sIx n d o <= n:=by
 cases o with
 | none=>exact hd
 | some v =>
  show (if v < 0 then (v+(n:Int)).toNat else min v.toNat n) <= n
  by_cases hv:v < 0
  ·rw [if_pos hv]; omega
  ·rw [if_neg hv]; exact Nat.min_le_right _ _
theorem yks (v:Int) (n d:Nat):(if v < 0 then max (v+(n:Int)) 0 else min v (n:Int))=((sIx n d (some v):Nat):Int):=by
 show (if v < 0 then max (v+(n:Int)) 0 else min v (n:Int))=(((if v < 0 then (v+(n:Int)).toNat else min v.toNat n):Nat):Int)
 by_cases hv:v < 0
 ·simp only [if_pos hv]; omega
 ·simp only [if_neg hv]; omega
theorem yht (lo hi:Option Int) (n:Nat):Builtin.Slice.sliceAdjust lo hi 1 (n:Int)=(((sIx n 0 lo:Nat):Int),((sIx n n hi:Nat):Int)):=by
 have h1:¬ ((1:Int) < 0):=by omega
 unfold Builtin.Slice.sliceAdjust
 simp only [h1,if_false]
 refine Prod.ext ?_ ?_
 ·cases lo with
  | none=>rfl
  | some v=>exact yks v n 0
 ·cases hi with
  | none=>rfl
  | some v=>exact yks v n n
theorem yhz (i j:Nat):Builtin.Slice.slicePlaces (i:Int) (j:Int) 1=j - i:=by
 unfold Builtin.Slice.slicePlaces
 have h1:(1:Int) > 0:=by omega
 simp only [h1,if_true,Int.ediv_one]
 split <;> omega
theorem ybt {v:Value} {o:Option Int} {Q:Option Int->Shared->Prop} (p:IsPart v o) (h:Q o s):wpAny (model prog w) A (Builtin.Slice.slicePartIndex v) Q E s:=by
 cases p with
 | none=>exact slicePart_none h
 | int i t=>exact slicePart_int h
theorem zi {sl:Addr} {vl vu:Value} {lo hi:Option Int} {n:Nat} {Q:Int × Int × Nat->Shared->Prop} (hs:s.heap.IsSliceOf sl vl vu .none) (pl:IsPart vl lo) (pu:IsPart vu hi)
  (h:Q (((sIx n 0 lo:Nat):Int),1,sIx n n hi - sIx n 0 lo) s):wpAny (model prog w) A (Builtin.Slice.sliceApplied (.ref sl) (pure (n:Int))) Q E s:=by
 obtain ⟨os,hos,hcs,hds⟩:=id hs
 unfold Builtin.Slice.sliceApplied Builtin.Slice.sliceFields
 refine wpAny_bind (wpAny_bind (wpAny_field hos hds (x:=vl) rfl (wpAny_bind (wpAny_field hos hds (x:=vu) rfl (wpAny_bind (wpAny_field hos hds (x:=.none) rfl (wpAny_pure ?_)))))))
 refine wpAny_bind (slicePart_none ?_)
 show wpAny _ _ (if ((1:Int) == 0)=true then _ else _) _ _ s
 rw [if_neg (by decide)]
 refine wpAny_bind (ybt pl (wpAny_bind (ybt pu (wpAny_bind (wpAny_pure ?_)))))
 show wpAny _ _ (match Builtin.Slice.sliceAdjust lo hi 1 (n:Int) with | (lo,hi)=>pure (lo,(1:Int),Builtin.Slice.slicePlaces lo hi 1)) _ _ s
 rw [yht lo hi n]
 show wpAny _ _ (pure (((sIx n 0 lo:Nat):Int),(1:Int),Builtin.Slice.slicePlaces ((sIx n 0 lo:Nat):Int) ((sIx n n hi:Nat):Int) 1)) _ _ s
 rw [yhz]
 exact wpAny_pure h
theorem ynm (xs:Array Value) (i k:Nat):((List.range k).filterMap fun (m:Nat)=>xs[((i:Int)+(m:Int) * 1).toNat]?).toArray=((xs.toList.drop i).take k).toArray:=by
 have e:(fun (m:Nat)=>xs[((i:Int)+(m:Int) * 1).toNat]?)=fun m=>xs[i+m]?:=by
  funext m
  have:((i:Int)+(m:Int) * 1).toNat=i+m:=by omega
  rw [this]
 rw [e]
 have:=pick_run xs i k
 rw [List.filterMap_map] at this
 have e2:((fun x=>xs[x]?) ∘ fun x=>i+x)=fun m=>xs[i+m]?:=rfl
 rw [e2] at this
 rw [this]
theorem getItem_tuple_cut {t sl:Addr} {items:Array Value} {vl vu:Value} {lo hi:Option Int} {Q:Value->Shared->Prop} (ht:IsTup s.heap t items) (hs:s.heap.IsSliceOf sl vl vu .none) (pl:IsPart vl lo) (pu:IsPart vu hi)
  (hw:¬ (sIx items.size 0 lo=0/\sIx items.size items.size hi=items.size))
  (h:Q (.ref s.heap.objs.size) { s with heap:=s.heap.push { cls:=.type "tuple",data:=.seq ((items.toList.drop (sIx items.size 0 lo)).take (sIx items.size items.size hi - sIx items.size 0 lo)).toArray } })
  (hsz:items.size <= sizeLine):wpAny (model prog w) A (getItem (.ref t) (.ref sl)) Q E s:=by
 have htake:sizeOk (.seq ((items.toList.drop (sIx items.size 0 lo)).take (sIx items.size items.size hi - sIx items.size 0 lo)).toArray):=by
  show ((items.toList.drop (sIx items.size 0 lo)).take (sIx items.size items.size hi - sIx items.size 0 lo)).toArray.size <= sizeLine
  rw [List.size_toArray,List.length_take,List.length_drop,Array.length_toList]
  omega
 have hj:sIx items.size items.size hi <= items.size:=ywa _ _ (Nat.le_refl _) hi
 obtain ⟨os,hos,hcs,hds⟩:=id hs
 have hTs:s.TypeIs (.ref sl) "slice":=⟨os,hos,hcs⟩
 unfold getItem
 try with_reducible refine wpAny_holding ?_
 first | refine wpAny_bind (wpAny_pure ?_) | skip
 refine wpAny_bind (wpAny_sequenceKey ht.typeIs (by decide) ?_)
 refine wpAny_bind (wpAny_callSpecial?_slot (name:=Str.ofString "__getitem__") ht.typeIs PyProof.Rows.slot_tuple_getitem
  (wpAny_call_entry PyProof.Rows.slot_tuple_getitem ht.typeIs entry_tuple_getitem ?_ (args_tuple_getitem _ _)))
 show wpAny _ _ (Builtin.Tuple.tupleItemsOf (.ref t) >>= _) _ _ s
 refine wpAny_bind (tupleItemsOf_ ht ?_)
 refine wpAny_bind (wpAny_typeOf hTs ?_)
 rw [if_pos (by decide)]
 refine wpAny_bind (zi hs pl pu ?_)
 have hno:¬ ((((sIx items.size 0 lo:Nat):Int) == 0 && (1:Int) == 1 && (sIx items.size items.size hi - sIx items.size 0 lo) == items.size)=true):=by
  intro q
  rw [Bool.and_eq_true,Bool.and_eq_true] at q
  have q1:((sIx items.size 0 lo:Nat):Int)=0:=eq_of_beq q.1.1
  have q2:sIx items.size items.size hi - sIx items.size 0 lo=items.size:=eq_of_beq q.2
  exact hw ⟨by omega,by omega⟩
 show wpAny _ _ (if (((sIx items.size 0 lo:Nat):Int) == 0 && (1:Int) == 1 && (sIx items.size items.size hi - sIx items.size 0 lo) == items.size)=true then _ else _) _ _ s
 rw [if_neg hno,ynm]
 first
  | exact wpAny_bind (m:=Builtin.Tuple.tupleExact _) (wpAny_newObj_type (wpAny_pure ⟨_,rfl,wpAny_pure h⟩) htake)
  | exact wpAny_bind (m:=Builtin.Tuple.tupleExact _) (wpAny_newObj_type (wpAny_bind (wpAny_pure (wpAny_pure ⟨_,rfl,wpAny_pure h⟩))) htake)
  | exact wpAny_bind (wpAny_bind (m:=Builtin.Tuple.tupleExact _) (wpAny_newObj_type (wpAny_pure (wpAny_pure ⟨_,rfl,wpAny_pure h⟩)) htake))
  | exact wpAny_bind (wpAny_bind (m:=Builtin.Tuple.tupleExact _) (wpAny_newObj_type (wpAny_pure ⟨_,rfl,wpAny_pure h⟩) htake))
end
end HT
namespace L2
open PySem PySem.Spec PyProof.Rows
abbrev TO:=St->Hp->(Option Int->Hp->Prop)->Prop
def PO (X:Cx) (e:Option Expr) (t:TO):Prop :=
 ∀ (pins:List (Addr × Obj)) (s:Shared) (σ:St) (H:Hp) (Q:Option Int->Hp->Prop),Inv X pins σ H s->t σ H Q ->
  wpAny (model X.prog X.w) X.A (evalPart e X.env) (fun u s'=>∃ o H',Inv X pins σ H' s'/\IsPart u o/\Q o H') X.xe s
def ykm:TO:=fun _ H Q=>Q none H
def yzb (t:TE):TO:=fun σ H Q=>t σ H fun x H1=>∃ i,x=.int i/\Q (some i) H1
section
variable {X:Cx} {e:Expr} {te:TE} {lo hi:Option Expr} {tl th:TO} {pos p2:Pos}
theorem jd:PO X none ykm:=by
 intro pins s σ H Q I h
 rw [evalPart_none]
 exact wpAny_pure ⟨none,H,I,.none,h⟩
theorem xx (h:PE X e te):PO X (some e) (yzb te):=by
 intro pins s σ H Q I hw
 rw [evalPart_some]
 refine thn (h pins s σ H _ I hw) fun u s1 ⟨x,H1,I1,r1,q1⟩=>?_
 obtain ⟨i,rfl,q⟩:=q1
 obtain ⟨t,rfl⟩:=r1
 exact ⟨some i,H1,I1,.int i t,q⟩
def SlR (X:Cx) (r:V->Option Int->Option Int->Hp->VK->Prop):Prop :=
 ∀ (pins:List (Addr × Obj)) (s:Shared) (σ:St) (H:Hp) (x:V) (v vl vu:Value) (lo hi:Option Int) (sl:Addr) (Q:VK),Inv X pins σ H s->xk x v->s.heap.IsSliceOf sl vl vu .none->IsPart vl lo->IsPart vu hi->r x lo hi H Q ->
  ∃ T id,typeLookup (.type T) "__getitem__"=pure (some (.builtin id))/\s.TypeIs v T/\wpAny (model X.prog X.w) X.A (getItem v (.ref sl)) (EP X pins σ Q) X.xe s
theorem SlR.or {r r':V->Option Int->Option Int->Hp->VK->Prop} (h:SlR X r) (h':SlR X r'):SlR X (fun x lo hi H Q=>r x lo hi H Q\/r' x lo hi H Q):=by
 intro pins s σ H x v vl vu lo hi sl Q I rx hs pl pu q
 rcases q with q | q
 ·exact h pins s σ H x v vl vu lo hi sl Q I rx hs pl pu q
 ·exact h' pins s σ H x v vl vu lo hi sl Q I rx hs pl pu q
def tSl (r:V->Option Int->Option Int->Hp->VK->Prop) (te:TE) (tl th:TO):TE:=fun σ H Q=>te σ H fun x H1=>tl σ H1 fun l H2=>th σ H2 fun u H3=>r x l u H3 Q
theorem xz {r:V->Option Int->Option Int->Hp->VK->Prop} (hr:SlR X r) (he:PE X e te) (hl:PO X lo tl) (hu:PO X hi th):PE X (.Subscript e (.Slice lo hi none p2) pos) (tSl r te tl th):=by
 intro pins s σ H Q I h
 refine Subscript_ (thn (he pins s σ H _ I h) fun v s1 ⟨x,H1,I1,r1,q1⟩=>?_)
 refine wpAny_Slice (thn (hl pins s1 σ H1 _ I1 q1) fun vl s2 ⟨l,H2,I2,pl,q2⟩=>thn (hu pins s2 σ H2 _ I2 q2) fun vu s3 ⟨u,H3,I3,pu,q3⟩=>?_)
 rw [evalPart_none]
 refine wpAny_pure ?_
 have I4:Inv X pins σ H3 { s3 with heap:=s3.heap.push { cls:=.type "slice",data:=.fields #[vl,vu,.none] } }:=I3.kept (t':=s3.toks) fun b ob q=>Heap.get?_push_of_some _ q
 obtain ⟨T,id,hT,ht,hg⟩:=hr pins { s3 with heap:=s3.heap.push { cls:=.type "slice",data:=.fields #[vl,vu,.none] } } σ H3 x v vl vu l u s3.heap.objs.size Q I4 r1 (Heap.IsSliceOf.new ..) pl pu q3
 show wpAny (model X.prog X.w) X.A (subscriptTail e (.Slice lo hi none p2) v (.ref s3.heap.objs.size)) (EP X pins σ Q) X.xe { s3 with heap:=s3.heap.push { cls:=.type "slice",data:=.fields #[vl,vu,.none] } }
 exact tail_any (ops:=[.ref s3.heap.objs.size,v]) ht hT hg (by with_unfolding_all rfl)
def yeu (xs:List V) (lo hi:Option Int):List V:=(xs.drop (HT.sIx xs.length 0 lo)).take (HT.sIx xs.length xs.length hi - HT.sIx xs.length 0 lo)
theorem ya9 (xs:List V) (lo hi:Option Int):(yeu xs lo hi).length <= xs.length:=by
 unfold yeu
 rw [List.length_take,List.length_drop]
 omega
def vcs (K:W.Frag):V->Option Int->Option Int->Hp->VK->Prop:=fun x lo hi H Q=>∃ a xs,x=.ref a/\SqT K H a xs /\
 ¬ (HT.sIx xs.length 0 lo=0/\HT.sIx xs.length xs.length hi=xs.length)/\∀ p,H p=none->Q (.ref p) (upd H p (.tup (yeu xs lo hi)))
theorem yu3:SlR X (vcs X.K):=by
 intro pins s σ H x v vl vu lo hi sl Q I rx hs pl pu h
 obtain ⟨a,xs,rfl,hx,hw,q⟩:=h
 cases rx
 obtain ⟨its,r,ht,hz⟩:=I.tuple hx
 have hlen:its.toArray.size=xs.length:=by rw [List.size_toArray]; exact r.length.symm
 refine ⟨"tuple",_,PyProof.Rows.slot_tuple_getitem.lookup,ht.typeIs,?_⟩
 refine HT.getItem_tuple_cut ht hs pl pu (by rw [hlen]; exact hw) ?_ (by rw [hlen]; exact hz)
 rw [hlen]
 refine ⟨.ref s.heap.objs.size,_,I.laid (t':=s.toks) (o:=.tup (yeu xs lo hi)) (fun b ob q=>Heap.get?_push_of_some _ q) (Nat.le_refl _) ?_,rfl,q _ (I.hok.fresh (Nat.le_refl _))⟩
 exact ⟨Nat.le_trans (ya9 xs lo hi) hz,_,(r.drop (HT.sIx xs.length 0 lo)).take (HT.sIx xs.length xs.length hi - HT.sIx xs.length 0 lo),IsTup.new _ _⟩
end
end L2
namespace L2
open PySem PySem.Spec PyProof.Rows
def ixN (n:Nat) (i:Int):Option Nat:=if 0 <= i then (if i < n then some i.toNat else none) else if -(n:Int) <= i then some (i+n).toNat else none
def atI {α:Type} (xs:List α) (i:Int):Option α:=(ixN xs.length i).bind fun j=>xs[j]?
theorem yrd {n:Nat} {i:Int} {j:Nat} (h:ixN n i=some j):seqIndex? i n=some j/\j < n/\-(n:Int) <= i/\i < n:=by
 unfold ixN at h
 by_cases h0:0 <= i
 ·rw [if_pos h0] at h
  by_cases h1:i < n
  ·rw [if_pos h1] at h
   have e:i.toNat=j:=Option.some.inj h
   exact ⟨by rw [seqIndex_of h0 h1,e],by omega,by omega,h1⟩
  ·rw [if_neg h1] at h; cases h
 ·rw [if_neg h0] at h
  by_cases h1:-(n:Int) <= i
  ·rw [if_pos h1] at h
   have e:(i+n).toNat=j:=Option.some.inj h
   exact ⟨by rw [seqIndex_neg (by omega) h1,e],by omega,h1,by omega⟩
  ·rw [if_neg h1] at h; cases h
theorem yk1 {α:Type} {xs:List α} {i:Int} {v:α} (h:atI xs i=some v):∃ j,seqIndex? i xs.length=some j/\xs[j]?=some v/\j < xs.length/\-(xs.length:Int) <= i/\i < xs.length:=by
 unfold atI at h
 cases e:ixN xs.length i with
 | none=>rw [e] at h; cases h
 | some j =>
  rw [e] at h
  obtain ⟨h1,h2,h3,h4⟩:=yrd e
  exact ⟨j,h1,h,h2,h3,h4⟩
theorem vv {α:Type} {xs:List α} {j:Nat} {v:α} (h:xs[j]?=some v):atI xs (j:Int)=some v:=by
 have hj:j < xs.length:=(List.getElem?_eq_some_iff.mp h).1
 have e:ixN xs.length (j:Int)=some j:=by
  unfold ixN
  rw [if_pos (by omega),if_pos (by omega)]; simp
 unfold atI; rw [e]; exact h
def yrf (b:Expr):Prop:=∀ o i,subscripted b false o i=operate [o,i] (getItem o i)
def IxR (X:Cx) (r:R2):Prop :=
 ∀ (value slice:Expr) (pins:List (Addr × Obj)) (s:Shared) (σ:St) (H:Hp) (x y:V) (v u:Value) (Q:VK),Inv X pins σ H s->xk x v->xk y u->r x y H Q ->
  subscripted slice false v u=operate [v,u] (getItem v u)->wpAny (model X.prog X.w) X.A (subscriptTail value slice v u) (EP X pins σ Q) X.xe s
def MtR (X:Cx) (id:String) (r:V->List V->Hp->VK->Prop):Prop :=
 ∀ (pins:List (Addr × Obj)) (s:Shared) (σ:St) (H:Hp) (x:V) (xs:List V) (v:Value) (us:List Value) (Q:VK),Inv X pins σ H s->xk x v->wu xs us->r x xs H Q ->
  wpAny (model X.prog X.w) X.A (call (.builtin id) (v :: us)) (EP X pins σ Q) X.xe s
section
variable {X:Cx} {a b:Expr} {ta tb:TE} {pos:Pos}
theorem wz {r:R2} (hr:IxR X r) (ha:PE X a ta) (hb:PE X b tb) (hs:yrf b):PE X (.Subscript a b pos) (tOp r ta tb):=by
 intro pins s σ H Q I h
 exact Subscript_ (va0 ha hb I h fun v u s2 x y H2 I2 rx ry q=>hr a b pins s2 σ H2 x y v u Q I2 rx ry q (hs _ _))
def yzm (K:W.Frag):R2:=fun x y H Q=>∃ p xs i v,x=.ref p/\y=.int i/\SqL K H p xs/\atI xs i=some v/\Q v H
def vbp (K:W.Frag):R2:=fun x y H Q=>∃ p xs i v,x=.ref p/\y=.int i/\SqT K H p xs/\atI xs i=some v/\Q v H
theorem vw:IxR X (yzm X.K):=by
 intro value slice pins s σ H x y v u Q I rx ry h hs
 obtain ⟨p,xs,i,z,rfl,rfl,hq,he,q⟩:=h
 cases rx
 obtain ⟨t,rfl⟩:=ry
 obtain ⟨its,r,pl,hz⟩:=I.list hq
 obtain ⟨j,h1,h2,h3,h4,h5⟩:=yk1 he
 obtain ⟨w,ew,rw'⟩:=r.get h2
 have hl:=r.length
 have hn:=yle
 have fin:EP X pins σ Q w s:=⟨z,H,I,rw',q⟩
 by_cases h0:0 <= i
 ·have hj:i.toNat=j:=by
   rw [seqIndex_of h0 h5] at h1
   exact Option.some.inj h1
  exact item_listR pl.isList h0 (by omega) (by rw [hj]; simpa using ew) fin hs
 ·have hj:(i+(its.toArray.size:Int)).toNat=j:=by
   rw [seqIndex_neg (by omega) h4] at h1
   rw [List.size_toArray,<- hl]
   exact Option.some.inj h1
  exact subscriptTail_builtinR (x:=w) pl.isList.typeIs slot_list_getitem.lookup
   (wpAny_getItem_list_neg (Q:=fun r s'=>r=w/\EP X pins σ Q r s') pl.isList (by omega) (by rw [List.size_toArray] <;> omega) (by omega) (by rw [hj]; simpa using ew) ⟨rfl,fin⟩) hs
theorem jx:IxR X (vbp X.K):=by
 intro value slice pins s σ H x y v u Q I rx ry h hs
 obtain ⟨p,xs,i,z,rfl,rfl,hq,he,q⟩:=h
 cases rx
 obtain ⟨t,rfl⟩:=ry
 obtain ⟨its,r,pl,hz⟩:=I.tuple hq
 obtain ⟨j,h1,h2,h3,h4,h5⟩:=yk1 he
 obtain ⟨w,ew,rw'⟩:=r.get h2
 have hl:=r.length
 have hn:=yle
 have fin:EP X pins σ Q w s:=⟨z,H,I,rw',q⟩
 exact subscriptTail_builtinR (x:=w) pl.typeIs slot_tuple_getitem.lookup
  (getItem_tuple (j:=j) (Q:=fun r s'=>r=w/\EP X pins σ Q r s') pl (by omega) (by omega) (by rw [List.size_toArray,<- hl]; exact h1) (by simpa using ew) ⟨rfl,fin⟩) hs
theorem yd2 (lo hi:Option Int) (n:Nat):(sliceBounds lo hi none n).1=((HT.sIx n 0 lo:Nat):Int)/\(sliceBounds lo hi none n).2.1=((HT.sIx n n hi:Nat):Int)/\(sliceBounds lo hi none n).2.2=1:=by
 refine ⟨?_,?_,rfl⟩
 ·cases lo with
  | none=>simp [sliceBounds,HT.sIx]
  | some i =>
   simp only [sliceBounds,HT.sIx,Option.getD_none,show (1:Int) > 0 by decide,if_true]
   by_cases h:i < 0
   ·simp only [h,if_true] <;> omega
   ·simp only [h,if_false] <;> omega
 ·cases hi with
  | none=>simp [sliceBounds,HT.sIx]
  | some i =>
   simp only [sliceBounds,HT.sIx,Option.getD_none,show (1:Int) > 0 by decide,if_true]
   by_cases h:i < 0
   ·simp only [h,if_true] <;> omega
   ·simp only [h,if_false] <;> omega
theorem ycx (its:List Value) (lo hi:Option Int):slicePick its.toArray lo hi none=((its.drop (HT.sIx its.length 0 lo)).take (HT.sIx its.length its.length hi - HT.sIx its.length 0 lo)).toArray:=by
 obtain ⟨h1,h2,h3⟩:=yd2 lo hi its.toArray.size
 unfold slicePick
 rw [h1,h2,h3]
 simp only [sliceRange_one,pick_run,List.size_toArray] <;> rfl
def vbk (K:W.Frag):V->Option Int->Option Int->Hp->VK->Prop:=fun x lo hi H Q=>∃ a xs,x=.ref a/\SqL K H a xs/\∀ p,H p=none->Q (.ref p) (upd H p (.lst (yeu xs lo hi)))
theorem zf:SlR X (vbk X.K):=by
 intro pins s σ H x v vl vu lo hi sl Q I rx hs pl pu h
 obtain ⟨a,xs,rfl,hx,q⟩:=h
 cases rx
 obtain ⟨its,r,ht,hz⟩:=I.list hx
 have hlen:=r.length
 refine ⟨"list",_,slot_list_getitem.lookup,ht.isList.typeIs,?_⟩
 refine wpAny_getItem_list_slice ht.isList hs pl pu .none (by simp) ?_ (by rw [List.size_toArray] <;> omega)
 rw [ycx,<- hlen]
 refine ⟨.ref s.heap.objs.size,_,I.laid (t':=s.toks) (o:=.lst (yeu xs lo hi)) (fun b ob q=>Heap.get?_push_of_some _ q) (Nat.le_refl _) ?_,rfl,q _ (I.hok.fresh (Nat.le_refl _))⟩
 exact ⟨Nat.le_trans (ya9 xs lo hi) hz,_,0,(r.drop (HT.sIx xs.length 0 lo)).take (HT.sIx xs.length xs.length hi - HT.sIx xs.length 0 lo),Heap.get?_push_size _ rfl⟩
def yes:V->Bool
 | .non=>true
 | .bl _=>true
 | .int _=>true
 | .str _=>true
 | _=>false
def eqV:V->V->Bool
 | .non,.non=>true
 | .bl a,.bl b=>a == b
 | .bl a,.int b=>(if a then 1 else 0) == b
 | .int a,.bl b=>a == (if b then 1 else 0)
 | .int a,.int b=>a == b
 | .str a,.str b=>a == b
 | _,_=>false
theorem ywr {A:Around} {s:Shared} {y x:V} {u v:Value} (ry:xk y u) (rx:xk x v) (fy:yes y=true) (fx:yes x=true):SeqAt.EqAt A s u v (eqV y x):=by
 cases y with
 | non =>
  cases ry
  cases x with
  | non=>cases rx; exact SeqAt.EqAt.same _
  | bl b=>cases rx; exact SeqAt.EqAt.none_bool b
  | int b=>obtain ⟨t,rfl⟩:=rx; exact SeqAt.EqAt.none_int b t
  | str b=>obtain ⟨t,rfl⟩:=rx; exact SeqAt.EqAt.none_str b t
  | _=>exact absurd (show false=true from fx) Bool.false_ne_true
 | bl a =>
  cases ry
  cases x with
  | non=>cases rx; exact SeqAt.EqAt.bool_none a
  | bl b=>cases rx; exact SeqAt.EqAt.bool_bool a b
  | int b=>obtain ⟨t,rfl⟩:=rx; exact SeqAt.EqAt.bool_int a b t
  | str b=>obtain ⟨t,rfl⟩:=rx; exact SeqAt.EqAt.bool_str a b t
  | _=>exact absurd (show false=true from fx) Bool.false_ne_true
 | int a =>
  obtain ⟨t',rfl⟩:=ry
  cases x with
  | non=>cases rx; exact SeqAt.EqAt.int_none a t'
  | bl b=>cases rx; exact SeqAt.EqAt.int_bool a t' b
  | int b=>obtain ⟨t,rfl⟩:=rx; exact SeqAt.EqAt.int_int a t' b t
  | str b=>obtain ⟨t,rfl⟩:=rx; exact SeqAt.EqAt.int_str a t' b t
  | _=>exact absurd (show false=true from fx) Bool.false_ne_true
 | str a =>
  obtain ⟨t',rfl⟩:=ry
  cases x with
  | non=>cases rx; exact SeqAt.EqAt.str_none a t'
  | bl b=>cases rx; exact SeqAt.EqAt.str_bool a t' b
  | int b=>obtain ⟨t,rfl⟩:=rx; exact SeqAt.EqAt.str_int a t' b t
  | str b=>obtain ⟨t,rfl⟩:=rx; exact SeqAt.EqAt.str_str a t' b t
  | _=>exact absurd (show false=true from fx) Bool.false_ne_true
 | _=>exact absurd (show false=true from fy) Bool.false_ne_true
def eqU (x:V) (u:Value):Bool:=match u with
 | .none=>eqV .non x
 | .bool b=>eqV (.bl b) x
 | .int i _=>eqV (.int i) x
 | .str z _=>eqV (.str z) x
 | _=>false
theorem yp4 {x y:V} {u:Value} (r:xk y u) (f:yes y=true):eqU x u=eqV y x:=by
 cases y with
 | non=>cases r; rfl
 | bl b=>cases r; rfl
 | int i=>obtain ⟨t,rfl⟩:=r; rfl
 | str z=>obtain ⟨t,rfl⟩:=r; rfl
 | _=>exact absurd (show false=true from f) Bool.false_ne_true
theorem yfw {x:V}:∀ {xs:List V} {us:List Value},wu xs us->xs.all yes=true->us.any (eqU x)=xs.any fun y=>eqV y x
 | _,_,.nil,_=>rfl
 | y :: xs,u :: us,.cons r t,f=>by
  rw [List.all_cons,Bool.and_eq_true] at f
  rw [List.any_cons,List.any_cons,yp4 r f.1,yfw t f.2]
theorem yda {A:Around} {s:Shared} {x:V} {v:Value} (rx:xk x v) (fx:yes x=true):∀ {xs:List V} {us:List Value},wu xs us->xs.all yes=true->∀ u∈us,SeqAt.EqAt A s u v (eqU x u)
 | _,_,.nil,_=>fun u hu=>by cases hu
 | y :: xs,u :: us,.cons r t,f=>fun u' hu=>by
  rw [List.all_cons,Bool.and_eq_true] at f
  rcases List.mem_cons.mp hu with rfl | hu
  ·rw [yp4 r f.1]; exact ywr r rx f.1 fx
  ·exact yda rx fx t f.2 u' hu
def inV (x:V) (xs:List V):Bool:=xs.any fun y=>eqV y x
def rIn (K:W.Frag) (neg:Bool):R2:=fun x y H Q=>∃ p xs,y=.ref p/\(SqL K H p xs\/SqT K H p xs)/\yes x=true/\xs.all yes=true/\Q (.bl (if neg then !inV x xs else inV x xs)) H
theorem yj8:OpR X (compareOp .In) (rIn X.K false):=by
 intro pins s σ H x y v u Q I rx ry h
 obtain ⟨p,xs,rfl,hq,fx,fs,q⟩:=h
 cases ry
 rcases hq with hq | hq
 ·obtain ⟨its,r,pl,hz⟩:=I.list hq
  refine SeqAt.in_listAt (eqU x) pl.isList (fun w hw=>yda rx fx r fs w (by simpa using hw)) ⟨.bl _,H,I,rfl,?_⟩
  rw [show its.toArray.any (eqU x)=its.any (eqU x) by simp,yfw r fs]
  exact q
 ·obtain ⟨its,r,pl,hz⟩:=I.tuple hq
  refine SeqAt.in_tupleAt (eqU x) pl (fun w hw=>yda rx fx r fs w (by simpa using hw)) ⟨.bl _,H,I,rfl,?_⟩
  rw [show its.toArray.any (eqU x)=its.any (eqU x) by simp,yfw r fs]
  exact q
theorem yr:ybq X (.builtin "len") (fun xs H Q=>∃ p ys,xs=[.ref p]/\(SqL X.K H p ys\/SqT X.K H p ys)/\Q (.int ys.length) H):=by
 intro pins s σ H xs us Q I r h
 obtain ⟨p,ys,rfl,hq,q⟩:=h
 obtain ⟨u,rfl,rx⟩:=yl8 r
 cases rx
 have hn:=yle
 rcases hq with hq | hq
 ·obtain ⟨its,r',pl,hz⟩:=I.list hq
  have hlen:=r'.length
  exact Calls.call_len_list pl.isList (by simp only [List.size_toArray] <;> omega) ⟨.int ys.length,H,I.tok _,⟨s.toks+1,by rw [List.size_toArray,hlen]⟩,q⟩
 ·obtain ⟨its,r',pl,hz⟩:=I.tuple hq
  have hlen:=r'.length
  exact len_tuple pl (by simp only [List.size_toArray] <;> omega) ⟨.int ys.length,H,I.tok _,⟨s.toks+1,by rw [List.size_toArray,hlen]⟩,q⟩
theorem ww:ybq X (.type "list") (fun xs H Q=>∃ p ys,xs=[.ref p]/\(SqL X.K H p ys\/SqT X.K H p ys)/\∀ l,H l=none->Q (.ref l) (upd H l (.lst ys))):=by
 intro pins s σ H xs us Q I r h
 obtain ⟨p,ys,rfl,hq,q⟩:=h
 obtain ⟨u,rfl,rx⟩:=yl8 r
 cases rx
 have fin:∀ (its:List Value),wu ys its->ys.length <= sizeLine->∀ (h':Heap) (c':Nat),(∀ b o',s.heap.get? b=some o'->h'.get? b=some o') ->
   h'.get? s.heap.objs.size=some { cls:=.type "list",dict:=none,data:=.seq its.toArray c',slots:=#[] }->EP X pins σ Q (.ref s.heap.objs.size) { s with heap:=h' }:=fun its r' hz h' c' kp e =>
  ⟨.ref s.heap.objs.size,_,I.laid (t':=s.toks) kp (Nat.le_refl _) (show xr X.prog X.w _ h' _ (.lst ys) from ⟨hz,its,c',r',e⟩),rfl,q _ (I.hok.fresh (Nat.le_refl _))⟩
 rcases hq with hq | hq
 ·obtain ⟨its,r',pl,hz⟩:=I.list hq
  have hlen:=r'.length
  obtain ⟨o,ho,hc,n,hd⟩:=pl.isList
  exact call_list_seq p (.inl rfl) ho hc hd (fun h' c' kp e=>fin its r' hz h' c' kp e) (by simp only [List.size_toArray] <;> omega)
 ·obtain ⟨its,r',pl,hz⟩:=I.tuple hq
  have hlen:=r'.length
  obtain ⟨o,ho,hc,n,hd⟩:=pl
  exact call_list_seq p (.inr rfl) ho hc hd (fun h' c' kp e=>fin its r' hz h' c' kp e) (by simp only [List.size_toArray] <;> omega)
theorem jj:ybq X (.type "tuple") (fun xs H Q=>∃ p ys,xs=[.ref p]/\((SqL X.K H p ys/\∀ l,H l=none->Q (.ref l) (upd H l (.tup ys)))\/(SqT X.K H p ys/\Q (.ref p) H))):=by
 intro pins s σ H xs us Q I r h
 obtain ⟨p,ys,rfl,h⟩:=h
 obtain ⟨u,rfl,rx⟩:=yl8 r
 cases rx
 rcases h with ⟨hq,q⟩ | ⟨hq,q⟩
 ·obtain ⟨its,r',pl,hz⟩:=I.list hq
  have hlen:=r'.length
  refine call_tuple_list pl.isList (fun h' kp=>?_) (by simp only [List.size_toArray] <;> omega)
  have I1:Inv X pins σ H { s with heap:=h' }:=I.kept (t':=s.toks) kp
  have I2:Inv X pins σ (upd H h'.objs.size (.tup ys)) { s with heap:=h'.push { cls:=.type "tuple",data:=.seq its.toArray } } :=
   I1.laid (t':=s.toks) (fun b o e=>Heap.get?_push_of_some _ e) (Nat.le_refl _) (show xr X.prog X.w _ _ _ (.tup ys) from ⟨hz,its,r',IsTup.new _ _⟩)
  exact ⟨.ref h'.objs.size,_,I2,rfl,q _ (I1.hok.fresh (Nat.le_refl _))⟩
 ·obtain ⟨its,r',pl,hz⟩:=I.tuple hq
  exact call_tuple_same pl ⟨.ref p,H,I,rfl,q⟩
def tyV (K:W.Frag) (T:String) (x:V) (H:Hp):Prop:=match x with
 | .str _=>T="str"
 | .int _=>T="int"
 | .ref p=>(T="list"/\∃ xs,SqL K H p xs)\/(T="tuple"/\∃ o,K.lookup p=some o/\o.cls=.type "tuple"/\o.dict=none) \/
   (T="dict"/\((∃ kvs,H p=some (.dK kvs))\/∃ kvs,H p=some (.dT kvs)))\/(T="set"/\∃ S n,H p=some (.set S n))
 | _=>False
theorem ypj {pins:List (Addr × Obj)} {σ:St} {H:Hp} {s:Shared} {T:String} {x:V} {v:Value} (I:Inv X pins σ H s) (r:xk x v) (ty:tyV X.K T x H) :
  s.TypeIs v T/\∀ a,v=.ref a->∃ ob,s.heap.get? a=some ob/\ob.dict=none:=by
 cases x with
 | str z =>
  obtain ⟨t,rfl⟩:=r
  cases (show T="str" from ty)
  exact ⟨typeIs_str s z t,fun _ e=>nomatch e⟩
 | int i =>
  obtain ⟨t,rfl⟩:=r
  cases (show T="int" from ty)
  exact ⟨typeIs_int s i t,fun _ e=>nomatch e⟩
 | ref p =>
  cases r
  rcases ty with ⟨rfl,xs,hq⟩ | ⟨rfl,o,hk,hc,hd⟩ | ⟨rfl,hk⟩ | ⟨rfl,S,n,hk⟩
  ·obtain ⟨its,_,pl,_⟩:=I.list hq
   refine ⟨pl.isList.typeIs,fun a e=>?_⟩
   cases e
   obtain ⟨o,n,e,c,hd,_⟩:=pl
   exact ⟨o,e,hd⟩
  ·refine ⟨⟨o,I.kIn p o hk,hc⟩,fun a e=>?_⟩
   cases e
   exact ⟨o,I.kIn _ o hk,hd⟩
  ·have z:∃ o,s.heap.get? p=some o/\o.ExactDict:=by
    rcases hk with ⟨kvs,hk⟩ | ⟨kvs,hk⟩
    ·obtain ⟨_,_,_,_,o,_,_,e,ex,_⟩:=I.hok p _ hk
     exact ⟨o,e,ex⟩
    ·obtain ⟨_,_,_,_,o,_,_,e,ex,_⟩:=I.hok p _ hk
     exact ⟨o,e,ex⟩
   obtain ⟨o,e,ex⟩:=z
   refine ⟨⟨o,e,ex.1⟩,fun a e2=>?_⟩
   cases e2
   exact ⟨o,e,ex.2.1⟩
  ·obtain ⟨o,_,_,_,e,ex,_⟩:=I.hok p _ hk
   refine ⟨⟨o,e,ex.1⟩,fun a e2=>?_⟩
   cases e2
   exact ⟨o,e,ex.2.1⟩
 | _=>exact False.elim ty
def vbo (K:W.Frag) (T:String) (r:V->List V->Hp->VK->Prop) (to:TE):TE:=fun σ H Q=>to σ H fun x H1=>tyV K T x H1/\r x [] H1 Q
def tBM (K:W.Frag) (T:String) (r:V->List V->Hp->VK->Prop) (to:TE) (t:TA):TE:=fun σ H Q=>to σ H fun x H1=>tyV K T x H1/\t σ H1 fun xs H2=>r x xs H2 Q
variable {o e:Expr} {es:List Expr} {to:TE} {t:TA} {name:Str} {apos cpos:Pos} {T id:String} {r:V->List V->Hp->VK->Prop}
theorem ylr (pa:PlainAttrs T) (slot:Slot T name id) (hty:typeOf (.builtin id)=pure (.type "method_descriptor")) (hm:MtR X id r) (ho:PE X o to)
  (hbase:attributeBase o name X.env (eval o X.env)=eval o X.env:=by rfl) (hline:(apos.endLine == cpos.line)=true:=by rfl):PE X (.Call (.Attribute o name apos) [] [] cpos) (vbo X.K T r to):=by
 intro pins s σ H Q I h
 refine wpAny_Call_method0_late hbase hline (thn (ho pins s σ H _ I h) fun v s1 ⟨x,H1,I1,r1,ty,q1⟩=>?_)
 obtain ⟨h1,h2⟩:=ypj I1 r1 ty
 exact ⟨T,id,pa,slot,hty,h1,h2,Calls.callWith_builtin rfl (PySem.evalArgs_none (hm pins s1 σ H1 x [] v [] Q I1 r1 .nil q1))⟩
theorem yal (pa:PlainAttrs T) (slot:Slot T name id) (hty:typeOf (.builtin id)=pure (.type "method_descriptor")) (hm:MtR X id r) (ho:PE X o to) (ha:PA X (e :: es) t)
  (hbase:attributeBase o name X.env (eval o X.env)=eval o X.env:=by rfl)
  (hfew:((backTo cpos (starEach (e :: es) X.env)).all (fun x=>!x.1) && (backToKw cpos (keywordEach [] X.env)).all (fun x=>x.1.isSome)
   && decide ((e :: es).length+([]:List Keyword).length+(if ([]:List Keyword).isEmpty then 0 else 1) < 30))=true:=by rfl)
  (hline:(apos.endLine == cpos.line)=true:=by rfl) (hs:starEach (e :: es) X.env=(false,eval e X.env) :: starEach es X.env:=by rfl) (hplain:(backTo cpos (starEach es X.env)).any (·.1)=false:=by rfl) :
  PE X (.Call (.Attribute o name apos) (e :: es) [] cpos) (tBM X.K T r to t):=by
 intro pins s σ H Q I h
 refine wpAny_Call_method_late hbase hfew hline rfl (thn (ho pins s σ H _ I h) fun v s1 ⟨x,H1,I1,r1,ty,q1⟩=>?_)
 obtain ⟨h1,h2⟩:=ypj I1 r1 ty
 refine ⟨T,id,pa,slot,hty,h1,h2,?_⟩
 have hA:=ha cpos pins s1 σ H1 _ I1 q1
 rw [hs] at hA ⊢
 refine Calls.callWith_builtin (by show (false || (backTo cpos (starEach es X.env)).any (·.1))=false; rw [hplain] <;> rfl) (Calls.evalArgs_plain ?_)
 exact thn hA fun us s2 ⟨vs,H2,I2,r2,q2⟩=>hm pins s2 σ H2 x vs v us Q I2 r1 r2 q2
end
end L2
namespace L2
open PySem PySem.Spec PyProof.Rows
def MtM (X:Cx) (id:String) (r:V->List V->Hp->VK->Prop):Prop :=
 ∀ (pins:List (Addr × Obj)) (s:Shared) (σ:St) (H:Hp) (x:V) (xs:List V) (v:Value) (us:List Value) (Q:VK),Inv X pins σ H s->xk x v->wu xs us->r x xs H Q ->
  wpAny (model X.prog X.w) X.A (call (.builtin id) (v :: us)) (EP X pins σ Q) X.xe s
theorem wu.one:∀ {x:V} {us:List Value},wu [x] us->∃ u,us=[u]/\xk x u
 | _,_,.cons r .nil=>⟨_,rfl,r⟩
theorem wu.zero:∀ {us:List Value},wu [] us->us=[]
 | _,.nil=>rfl
theorem wu.reverse {xs:List V} {us:List Value} (h:wu xs us):wu xs.reverse us.reverse:=by
 induction h with
 | nil=>exact .nil
 | cons r t ih=>rw [List.reverse_cons,List.reverse_cons]; exact wu.append ih (.cons r .nil)
theorem wu.rep {xs:List V} {us:List Value} (h:wu xs us):∀ k:Nat,wu (List.replicate k xs).flatten (List.replicate k us).flatten
 | 0=>.nil
 | k+1=>by
  rw [List.replicate_succ,List.replicate_succ,List.flatten_cons,List.flatten_cons]
  exact wu.append h (wu.rep h k)
theorem yee (its:List Value):∀ (k:Nat) (acc:List Value),
  List.foldl (fun x1 x2=>x1++x2) acc.toArray (List.replicate k its.toArray)=(acc++(List.replicate k its).flatten).toArray
 | 0,acc=>by simp
 | k+1,acc=>by
  have e:acc.toArray++its.toArray=(acc++its).toArray:=by simp
  have e2:(acc++its)++(List.replicate k its).flatten=acc++(List.replicate (k+1) its).flatten:=by
   rw [List.replicate_succ,List.flatten_cons,List.append_assoc]
  rw [<- e2,<- yee its k (acc++its),<- e,List.replicate_succ,List.foldl_cons]
section
variable {X:Cx} {pins:List (Addr × Obj)} {σ:St} {H:Hp} {s:Shared} {l b:Addr} {xs ys zs:List V}
theorem Inv.lset {its its':List Value} {n:Nat} {f:Array Value->Array Value} {t':Nat} (I:Inv X pins σ H s) (hH:H l=some (.lst xs))
  (e:s.heap.get? l=some { cls:=.type "list",data:=.seq its.toArray n }) (hf:f its.toArray=its'.toArray) (hv:wu ys its') (hz:ys.length <= sizeLine) :
  Inv X pins σ (upd H l (.lst ys)) { s with heap:=s.heap.update l (Obj.mapSeq f),toks:=t' }:=by
 have q:=PySem.IsL.update e f
 rw [hf] at q
 refine I.write (x:=l) (e:=l) (by rw [hH]; exact trivial) (.inl rfl) (fun b' u hb hu=>(Heap.get?_update_other s.heap (Obj.mapSeq f) (Ne.symm hb)).trans hu) ⟨_,q⟩ ?_
 exact ⟨hz,its',_,hv,q⟩
theorem Inv.lnew {its:List Value} {t':Nat} (I:Inv X pins σ H s) (hv:wu ys its) (hz:ys.length <= sizeLine) :
  Inv X pins σ (upd H s.heap.objs.size (.lst ys)) { s with heap:=s.heap.push { cls:=.type "list",data:=.seq its.toArray },toks:=t' } :=
 I.laid (fun _ _ q=>Heap.get?_push_of_some _ q) (Nat.le_refl _) ⟨hz,its,0,hv,Heap.get?_push_size _ rfl⟩
theorem Inv.fresh (I:Inv X pins σ H s):H s.heap.objs.size=none:=I.hok.fresh (Nat.le_refl _)
theorem Inv.lstM (I:Inv X pins σ H s) (hH:H l=some (.lst xs)):xs.length <= sizeLine/\∃ (its:List Value) (n:Nat),wu xs its/\xs.length=its.length/\s.heap.get? l=some { cls:=.type "list",data:=.seq its.toArray n }:=by
 obtain ⟨z,its,n,r,e⟩:=I.hok l _ hH
 exact ⟨z,its,n,r,r.length,e⟩
theorem yga {n:Nat} (h:n <= sizeLine):Builtin.List.listTooLong n=false:=by
 unfold Builtin.List.listTooLong
 exact decide_eq_false (by omega)
end
section
variable {X:Cx}
def ykt:V->List V->Hp->VK->Prop:=fun x vs H Q=>∃ l xs y,x=.ref l/\vs=[y]/\H l=some (.lst xs)/\xs.length < sizeLine/\Q .non (upd H l (.lst (xs++[y])))
theorem wn:MtM X "list.append" ykt:=by
 intro pins s σ H x vs v us Q I rx rv h
 obtain ⟨l,xs,y,rfl,rfl,hH,hz,q⟩:=h
 cases rx
 obtain ⟨u,rfl,ru⟩:=rv.one
 obtain ⟨z,its,n,r,hl,e⟩:=I.lstM hH
 refine call_meets F.slot_list_append ⟨_,e,rfl⟩ F.entry_list_append (F.args_list_append_2 _ _) (PySem.list_append l its.toArray n u (by rw [List.size_toArray]; omega)) ⟨e,?_⟩
 refine ⟨.non,_,I.lset (its':=its++[u]) hH e (by simp) (r.append (.cons ru .nil)) ?_,rfl,q⟩
 rw [List.length_append,List.length_singleton]
 omega
def yqg:V->List V->Hp->VK->Prop:=fun x vs H Q=>∃ l b xs zs,x=.ref l/\vs=[.ref b]/\H l=some (.lst xs)/\H b=some (.lst zs)/\xs.length+zs.length <= sizeLine/\Q .non (upd H l (.lst (xs++zs)))
theorem yi0:MtM X "list.extend" yqg:=by
 intro pins s σ H x vs v us Q I rx rv h
 obtain ⟨l,b,xs,zs,rfl,rfl,hH,hB,hz,q⟩:=h
 cases rx
 obtain ⟨u,rfl,ru⟩:=rv.one
 cases ru
 obtain ⟨z,its,n,r,hl,e⟩:=I.lstM hH
 obtain ⟨z2,its2,n2,r2,hl2,e2⟩:=I.lstM hB
 have hsz:its.toArray.size+its2.toArray.size <= sizeLine:=by rw [List.size_toArray,List.size_toArray]; omega
 have hlong:¬ (!its.toArray.isEmpty && Builtin.List.listTooLong (its.toArray.size+its2.toArray.size))=true:=by
  rw [yga hsz,Bool.and_false]
  exact Bool.false_ne_true
 refine call_meets F.slot_list_extend ⟨_,e,rfl⟩ F.entry_list_extend (F.args_list_extend_2 _ _)
  (AutoSeq1.list_extend_list_list_0 l its.toArray n b its2.toArray n2 hlong (by rw [List.size_toArray]; omega) (by omega)) ⟨e,e2,?_⟩
 refine ⟨.non,_,I.lset (its':=its++its2) hH e (by simp) (r.append r2) ?_,rfl,q⟩
 rw [List.length_append]
 omega
def ygr:V->List V->Hp->VK->Prop:=fun x vs H Q=>∃ l xs,x=.ref l/\vs=[]/\H l=some (.lst xs)/\Q .non (upd H l (.lst xs.reverse))
theorem yif:MtM X "list.reverse" ygr:=by
 intro pins s σ H x vs v us Q I rx rv h
 obtain ⟨l,xs,rfl,rfl,hH,q⟩:=h
 cases rx
 have hus:=rv.zero
 subst hus
 obtain ⟨z,its,n,r,hl,e⟩:=I.lstM hH
 refine call_meets F.slot_list_reverse ⟨_,e,rfl⟩ F.entry_list_reverse (F.args_list_reverse_1 _) (AutoSeq1.list_reverse_list_0 l its.toArray n (by rw [List.size_toArray]; omega)) ⟨e,?_⟩
 refine ⟨.non,_,I.lset (its':=its.reverse) hH e (by simp) r.reverse ?_,rfl,q⟩
 rw [List.length_reverse]
 omega
def vck:R2:=fun x y H Q=>∃ l b xs zs,x=.ref l/\y=.ref b/\H l=some (.lst xs)/\H b=some (.lst zs)/\xs.length+zs.length <= sizeLine/\∀ p,H p=none->Q (.ref p) (upd H p (.lst (xs++zs)))
theorem ypn:OpR X (binaryOp .Add) vck:=by
 intro pins s σ H x y v u Q I rx ry h
 obtain ⟨l,b,xs,zs,rfl,rfl,hH,hB,hz,q⟩:=h
 cases rx
 cases ry
 obtain ⟨z,its,n,r,hl,e⟩:=I.lstM hH
 obtain ⟨z2,its2,n2,r2,hl2,e2⟩:=I.lstM hB
 refine PySem.P.add_list e e2 ?_ (by rw [List.size_toArray,List.size_toArray]; omega)
 have ea:its.toArray++its2.toArray=(its++its2).toArray:=by simp
 rw [ea]
 exact ⟨.ref _,_,I.lnew (t':=s.toks) (r.append r2) (by rw [List.length_append]; omega),rfl,q _ I.fresh⟩
def vcg:R2:=fun x y H Q=>∃ l k xs,x=.ref l/\y=.int k/\H l=some (.lst xs)/\-(2 ^ 63) <= k/\k < 2 ^ 63/\xs.length * k.toNat <= sizeLine /\
 ∀ p,H p=none->Q (.ref p) (upd H p (.lst (List.replicate k.toNat xs).flatten))
theorem yq5 {α:Type} (xs:List α) (k:Nat):(List.replicate k xs).flatten.length=k * xs.length:=by
 induction k with
 | zero=>simp
 | succ k ih=>rw [List.replicate_succ,List.flatten_cons,List.length_append,ih,Nat.succ_mul,Nat.add_comm]
theorem yos:OpR X (binaryOp .Mult) vcg:=by
 intro pins s σ H x y v u Q I rx ry h
 obtain ⟨l,k,xs,rfl,rfl,hH,h1,h2,hz,q⟩:=h
 cases rx
 obtain ⟨t,rfl⟩:=ry
 obtain ⟨z,its,n,r,hl,e⟩:=I.lstM hH
 have hlen:its.toArray.size * k.toNat <= sizeLine:=by rw [List.size_toArray,<- hl]; exact hz
 have hcap:¬ its.toArray.size * k.toNat > (2 ^ 63 - 1) / 8:=by
  have:(sizeLine:Nat) <= (2 ^ 63 - 1) / 8:=by decide
  omega
 have hfit:¬ (!Builtin.List.listFitsIndex k)=true:=by
  rw [fitsIndex_both h1 h2]
  exact Bool.false_ne_true
 have hlong:¬ Builtin.List.listTooLong (its.toArray.size * k.toNat)=true:=by
  rw [yga hlen]
  exact Bool.false_ne_true
 have hnew:List.foldl (fun x1 x2=>x1++x2) #[] (List.replicate (if its.toArray.isEmpty=true then 0 else k.toNat) its.toArray)=(List.replicate k.toNat its).flatten.toArray:=by
  have f0:∀ m:Nat,List.foldl (fun x1 x2=>x1++x2) #[] (List.replicate m its.toArray)=(List.replicate m its).flatten.toArray:=fun m=>by
   have:=yee its m []
   rw [List.nil_append] at this
   exact this
  rw [f0]
  cases its with
  | nil=>simp
  | cons a r'=>rw [if_neg (by simp)]
 refine wpAny_binaryOp_repeat_ref (T:="list") (U:="int") (by decide) ⟨_,e,rfl⟩ (fun s'=>typeIs_int s' k t) noFill_list_mul F.fills_int_mul F.slot_int_rmul repeat_list F.slot_int_index.lookup
  (call_meets F.slot_int_rmul (typeIs_int s k t) F.entry_int_rmul (F.args_int_rmul_2 _ _) (int___rmul___int_list k t l its.toArray n)
   ⟨e,rfl,⟨_,e,rfl⟩,call_meets F.slot_list_mul ⟨_,e,rfl⟩ F.entry_list_mul (F.args_list_mul_2 _ _) (AutoListH.list___mul___list_int_3 l its.toArray n k t hfit hcap hlong) ⟨e,?_⟩⟩)
 rw [hnew]
 exact ⟨.ref _,_,I.lnew (t':=s.toks) (r.rep k.toNat) (by rw [yq5,Nat.mul_comm]; exact hz),rfl,q _ I.fresh⟩
end
section
variable {prog:Program} {w:World} {A:Around} {E:Value->Shared->Prop} {s:Shared}
end
section
variable {X:Cx}
end
end L2
namespace Att
open PySem PySem.W PySem.Calls PyProof.Rows
theorem yay {P:Params} {h:Heap}:∀ (ns:List Int) (vs:List Value),WellAll P h vs (ns.map WData.int)->IntsAre vs ns:=by
 intro ns
 induction ns with
 | nil =>
  intro vs w
  rw [List.map_nil] at w
  cases w
  exact .nil
 | cons n ns ih =>
  intro vs w
  rw [List.map_cons] at w
  cases w with
  | cons a b =>
   cases a
   exact .cons _ _ (ih _ b)
theorem yjh {l:OpenLaw} {n:Nat} (hn:l.most=some n) {P:Params} {h:Heap} {args:List WData} {vals:List Value}
  (hpre:l.row.toRowW.claim.pre args=true) (hwl:WellAll P h vals args) :
  ∃ a vs ns,vals=[Value.ref a]/\args=[WData.list (ns.map WData.int)]/\h.get? a=some { cls:=.type "list",data:=.seq vs.toArray }/\IntsAre vs ns/\ns.length <= n:=by
 have hsh:WShape.hasAll [] args [.list .int]=true:=(pre_splitW hpre).1
 have hc:l.pre.holds [] { args:=args }=true:=(pre_splitW hpre).2
 obtain ⟨d,r,rfl,h1,h2⟩:=hasAllW_cons hsh
 obtain rfl:=hasAllW_nil h2
 obtain ⟨xs,rfl,h3⟩:=hasW_list h1
 obtain ⟨ns,rfl⟩:=items_int h3
 have hlen:ns.length <= n:=by
  unfold OpenLaw.pre at hc
  have h4:(WTm.not (.lt (.lit (.int (n:Int))) (.len (.arg 0)))).holds [] { args:=[.list (ns.map .int)] }=true:=by
   have h4:=(holds_andW hc).1
   rw [hn] at h4
   exact h4
  have h5:=condW_of h4 (w_not (w_lt w_lit (w_len_list (w_arg rfl))))
  rw [List.length_map] at h5
  refine Nat.le_of_not_lt fun q=>?_
  have q':(n:Int) < ((ns.length:Nat):Int):=by omega
  first
   | (rw [decide_eq_true q'] at h5; exact absurd h5 (by decide))
   | (simp at h5; omega)
 cases hwl with
 | cons w1 w2 =>
  cases w2
  cases w1 with
  | list ho hall=>exact ⟨_,_,ns,rfl,rfl,ho,yay ns _ hall,hlen⟩
theorem yj4 (l:OpenLaw) (args:List WData):l.row.toRowW.claim.post args (.bool true) args=true :=
 postW_of (r:=l.row.toRowW) (X:=(true == true))
  (show WShape.has [] (.bool true) .bool=true by first | rfl | decide | simp [WShape.has,WShape.arms,WShape.armsAll])
  (show (WTm.eq .res (.lit (.bool true))).value [] { args:=args,res:=some (.bool true),after:=args }=some (.bool (true == true)) from w_eq_bool (w_res rfl) w_lit) rfl
theorem attach_call {l:OpenLaw} {n:Nat} {q:Program} {loose:List Str} {XP:(Str->Option Value)->Heap->Prop} {YP:World->Heap->Prop} {d:DefRec}
  (hn:l.most=some n) (hdf:d.params.defaults=[])
  (call:∀ (w:World) (s₀ s₁:Shared) (mg mb:Str->Option Value) (fa:Addr) (o:Obj) (pm cd doc:Value) (a:Addr) (vs:List Value) (ns:List Int),
   Ground q loose [] XP w s₀ mg mb s₁.heap->YP w s₁.heap ->
   s₁.heap.get? fa=some o->o.data=.func (docDef d.name d.params d.body d.scope pm cd doc)->s₁.heap.CodeRec cd d.name->mg d.name=some (.ref fa) ->
   s₁.heap.get? a=some { cls:=.type "list",data:=.seq vs.toArray }->IntsAre vs ns->ns.length <= n->s₁.gens=#[] ->
   codeAny (model l.prog w) callerA (.call (.ref fa) ⟨[.ref a],[]⟩) (fun r s'=>r=.ok (.ret (.bool true))/\OldK s₁.heap s'.heap/\s'.os=s₁.os/\AllBare s'.gens) s₁) :
  WalkO q loose XP YP l.row.toRowW d [] (fun f vs=>PySem.call f vs):=by
 intro w s₀ s₁ mg mb G Y fa o pm cd doc dV kV ho hd hcd hD hmg hg args vals as hpre hlay hrd hwl hlo
 obtain rfl:dV=.none:=Dflts.none hD hdf
 obtain rfl:kV=.none:=Dflts.noKw hD
 obtain ⟨a,vs,ns,rfl,rfl,hobj,hints,hlen⟩:=yjh hn hpre hwl
 refine enter_call (codeAny_mono (call w s₀ s₁ mg mb fa o pm cd doc a vs ns G Y ho (fd_plain hd) hcd hmg hobj hints hlen hg) fun r s' hq=>?_)
 obtain ⟨rfl,h2,h3,h4⟩:=hq
 exact ⟨.inl ⟨.bool true,.bool true,[],rfl,fun _=>rfl,.bool true,yj4 l _,fun _=>⟨List.Pairwise.nil,fun _ hm=>(nomatch hm)⟩⟩,h2,h3,h4⟩
section
variable {prog:Program} {w:World} {A:Around} {E:Value->Shared->Prop} {s:Shared} {K:Frag}
def vbi (h:Heap) (L d:Addr):List (Addr × Obj):=(List.range h.objs.size).filterMap fun a=>if a=L\/a=d then none else (h.get? a).map fun o=>(a,o)
end
end Att
namespace L2
open PySem PySem.Spec PyProof.Rows
theorem yei:∀ {vs:List Value} {ns:List Int},IntsAre vs ns->wu (ns.map V.int) vs
 | _,_,.nil=>.nil
 | _,_,.cons n t h=>.cons ⟨t,rfl⟩ (yei h)
def vbc (H:Hp):Prop:=∀ b,H b=none\/∃ o xs,H b=some (.frz o (.lst xs))
theorem yna {P:Program} {w:World} {K:W.Frag} {mg mb:Str->Option Value} {CX:CXT} {k:Nat} {fa a:Addr} {fd:FuncData} {x:Str} {sp:Sp} {s₁:Shared} {vs:List Value} {ns:List Int}
  (KX:K.In s₁.heap) (hns:s₁.heap.Ns mainGlobals mg) (hb:s₁.heap.Ns builtinsNs mb) (hbb:∀ x:Str,x≠"__name__"->mb x=bootBuiltins x) (hlim:s₁.heap.NoLimit) (hg:s₁.gens=#[])
  (ha:s₁.heap.get? a=some { cls:=.type "list",data:=.seq vs.toArray }) (hi:IntsAre vs ns) (hl:ns.length <= sizeLine) (hr:ja k callerA)
  (F:∀ base:Heap,K.In base->base.Ns mainGlobals mg->wc P w K mg base CX k fa fd [x] sp) (hbind:∀ (s:Shared) (u:Value),BindsTo s fd ⟨[u],[]⟩ [(x,u)])
  (hsp:∀ H:Hp,vbc H->SqL K H a (ns.map V.int)->sp [.ref a] H (fun v _=>v=.bl true) fun _ _ _=>False)
  (hCX:∀ H e s',CX [] H s₁ (fun _ _ _=>False) e s'->False) :
  codeAny (model P w) callerA (.call (.ref fa) ⟨[.ref a],[]⟩) (fun r s'=>r=.ok (.ret (.bool true))/\OldK s₁.heap s'.heap/\s'.os=s₁.os/\AllBare s'.gens) s₁:=by
 have rv:=yei hi
 have lenV:=hi.length
 have core:∀ H:Hp,vbc H->SqL K H a (ns.map V.int)->HOk P w H s₁.heap->(∀ b,H b≠none->b=a)->(H a≠none->K.lookup a=none) ->
   codeAny (model P w) callerA (.call (.ref fa) ⟨[.ref a],[]⟩) (fun r s'=>r=.ok (.ret (.bool true))/\OldK s₁.heap s'.heap/\s'.os=s₁.os/\AllBare s'.gens) s₁:=by
  intro H hO hS hok hA hK
  have base_of:∀ {b:Addr} {o:Obj},s₁.heap.get? b=some o->H b=none->(yoc s₁.heap H).get? b=some o:=fun e n=>ynd e n
  have noA:∀ {b:Addr} {o:Obj} {es:Array DictEntry} {ep:Nat},s₁.heap.get? b=some o->o.data=.dict es ep->H b=none:=fun {b o es ep} e d=>by
   cases q:H b with
   | none=>rfl
   | some u =>
    have e':b=a:=hA b (by rw [q]; simp)
    subst e'
    rw [ha] at e; cases e
    have d':Data.seq vs.toArray _=Data.dict es ep:=d
    cases d'
  have nsK:∀ {b:Addr} {m:Str->Option Value},s₁.heap.Ns b m->(yoc s₁.heap H).Ns b m:=fun {b m} ⟨o,es,ep,e,d,r⟩=>⟨o,es,ep,base_of e (noA e d),d,r⟩
  have hKb:K.In (yoc s₁.heap H):=fun b o e=>base_of (KX b o e) (by
   cases q:H b with
   | none=>rfl
   | some u =>
    have e':b=a:=hA b (by rw [q]; simp)
    subst e'
    rw [hK (by rw [q]; simp)] at e; cases e)
  have hM:Mod K mg (yoc s₁.heap H):=⟨hKb,nsK hns,⟨mb,nsK hb,hbb⟩,let ⟨mc,h1,h2⟩:=hlim; ⟨mc,nsK h1,h2⟩⟩
  have e0:yui P w K mg (yoc s₁.heap H) callerA [] s₁ H:=⟨rfl,hM,fun b o e=>yrp e,Nat.le_of_eq (yi6 _ _),trivial,fun b hb=>absurd (show b∈([]:List Addr) from hb) (by simp),hok,.of_eq hg⟩
  refine codeAny_mono ((F _ hKb (nsK hns)).run callerA [] s₁ H ⟨[.ref a],[]⟩ [.ref a] [.ref a] _ _ hr e0 (hbind s₁ (.ref a)) (.cons rfl .nil) (hsp H hO hS)) fun r s' h=>?_
  cases r with
  | error e=>exact (hCX H e s' h).elim
  | ok fl =>
   cases fl with
   | next=>exact False.elim h
   | brk=>exact False.elim h
   | cont=>exact False.elim h
   | ret u =>
    obtain ⟨v,H',os,bare,un,hok',r',q⟩:=h
    have q':v=.bl true:=q
    subst q'
    obtain rfl:u=Value.bool true:=r'
    refine ⟨rfl,OldK.of_keep fun b o e=>?_,os,bare⟩
    cases q:H b with
    | none=>exact un.keep b o e q (by intro z; exact absurd (show b∈([]:List Addr) from z) (by simp)) (by simp)
    | some u =>
     rcases hO b with z | ⟨ob,xs,z⟩
     ·rw [q] at z; cases z
     ·have z2:=un.frzs b ob _ z
      obtain ⟨e1,_⟩:=hok b _ z
      obtain ⟨e2,_⟩:=hok' b _ z2
      rw [e] at e1; cases e1
      exact e2
 cases hk:K.lookup a with
 | some o =>
  have e:=KX a o hk
  rw [ha] at e
  cases e
  refine core (fun _=>none) (fun _=>.inl rfl) (.inr ⟨_,vs.toArray,_,hk,rfl,rfl,rfl,by rw [List.size_toArray,lenV]; exact hl,by simpa using rv⟩) (fun b u z=>by have z':(none:Option HO)=some u:=z; cases z') (fun b z=>absurd rfl z) fun z=>absurd rfl z
 | none =>
  refine core (fun b=>if b=a then some (.frz { cls:=.type "list",data:=.seq vs.toArray } (.lst (ns.map V.int))) else none) (fun b=>?_) (.inl (.inr ⟨{ cls:=.type "list",data:=.seq vs.toArray },if_pos rfl⟩)) (fun b u z=>?_) (fun b z=>?_) fun _=>hk
  ·by_cases hb:b=a
   ·exact .inr ⟨_,_,if_pos hb⟩
   ·exact .inl (if_neg hb)
  ·by_cases hb:b=a
   ·have z':=(if_pos hb).symm.trans z
    cases z'
    subst hb
    exact ⟨ha,by rw [List.length_map]; exact hl,vs,_,rv,ha⟩
   ·have z':=(if_neg hb).symm.trans z
    cases z'
  ·by_cases hb:b=a
   ·exact hb
   ·exact absurd (if_neg hb) z
end L2
namespace L2
open PySem PySem.Spec PyProof.Rows
theorem walk_of {l:W.OpenLaw} {n k:Nat} {q:Program} {loose:List Str} {XP:(Str->Option Value)->Heap->Prop} {YP:World->Heap->Prop} {d:DefRec} {K:Params->W.Frag} {CX:World->CXT} {sp:World->Sp} {x:Str}
  (hn:l.most=some n) (hn2:n <= sizeLine) (hdf:d.params.defaults=[]) (hr:ja k callerA)
  (hY:∀ (w:World) (h:Heap),YP w h->(K w.params).In h)
  (F:∀ (w:World) (mg:Str->Option Value) (fa:Addr) (h:Heap),(K w.params).In h->h.Ns mainGlobals mg->mg d.name=some (.ref fa) ->
   ∃ fd:FuncData,(∀ (s:Shared) (u:Value),BindsTo s fd ⟨[u],[]⟩ [(x,u)]) /\
    ∀ base:Heap,(K w.params).In base->base.Ns mainGlobals mg->wc l.prog w (K w.params) mg base (CX w) k fa fd [x] (sp w))
  (hsp:∀ (w:World) (H:Hp) (a:Addr) (ns:List Int),ns.length <= n->vbc H->SqL (K w.params) H a (ns.map V.int)->sp w [.ref a] H (fun v _=>v=.bl true) fun _ _ _=>False)
  (hCX:∀ (w:World) (H:Hp) (s:Shared) (e:Value) (s':Shared),CX w [] H s (fun _ _ _=>False) e s'->False) :
  W.WalkO q loose XP YP l.row.toRowW d [] (fun f vs=>PySem.call f vs):=by
 refine Att.attach_call hn hdf fun w s₀ s₁ mg mb fa o pm cd doc a vs ns G Y ho hd hcd hmg hobj hints hlen hg=>?_
 have KX:=hY w _ Y
 obtain ⟨fd,hb,hF⟩:=F w mg fa _ KX G.T.g hmg
 exact yna KX G.T.g G.T.b G.T.builtins G.T.nolimit hg hobj hints (Nat.le_trans hlen hn2) hr hF hb (fun H hO hS=>hsp w H a ns hlen hO hS) fun H e s'=>hCX w H s₁ e s'
end L2
namespace L2
open PySem PySem.Spec PyProof.Rows
def vp (s:Stmt) (j:Nat):Stmt:=match s with
 | .ClassDef _ _ _ body _ _ _ _ _ _ _=>body.getD j (.Pass ⟨0,0,0,0⟩)
 | _=>.Pass ⟨0,0,0,0⟩
def wk (s:Stmt):Arguments:=match s with
 | .FunctionDef _ a _ _ _ _ _ _ _ _=>a
 | _=>{ posonlyargs:=[],args:=[],vararg:=none,kwonlyargs:=[],kw_defaults:=[],kwarg:=none,defaults:=[] }
def vx (s:Stmt):List Stmt:=match s with
 | .FunctionDef _ _ b _ _ _ _ _ _ _=>b
 | _=>[]
def yi (s:Stmt):Scope:=match s with
 | .FunctionDef _ _ _ _ _ _ sc _ _ _=>sc
 | _=>{ kind:=.function,names:=[],isGenerator:=false,isCoroutine:=false }
abbrev CX0:CXT:=fun _ _ _ _ _ _=>False
abbrev E0:XK:=fun _ _ _=>False
theorem y7 {X:Cx}:yag CX0 X E0:=fun _ _ _ _ _ _ _ h=>h.elim
structure Fun (K:W.Frag) (x qual:Str) (st:Stmt) (f:Addr) (fd:FuncData):Prop where
 ex:∃ (oc:Value) (od:Option Addr) (kV doc pm:Value) (an:Option Addr) (cdv ct:Value) (osl:Array (Option Value)),
  fd=W.fnOf x qual (wk st) (vx st) (yi st) .none kV doc pm an cdv ct/\K.lookup f=some ⟨oc,od,.func fd,osl⟩/\W.codeIn K cdv qual=true
 kp:W.keepIn K (.ref f)=true
section
variable {P:Program} {w:World} {K:W.Frag} {mg:Str->Option Value} {base:Heap}
theorem Fun.ok {x qual:Str} {st:Stmt} {f:Addr} {fd:FuncData} {N ps:List Str} {k:Nat} {sp:Sp} (F:Fun K x qual st f fd) (S:yn N ps (yi st)) (len:∀ vs H Q E,sp vs H Q E->vs.length=ps.length)
  (hbody:∀ (cdv:Value) (A:Around) (outer:List Env) (s:Shared) (H:Hp) (vs:List V) (Q:VK) (E:XK),ja k (A.deeper (envOfC qual (yi st) s.heap.objs.size f cdv))->sp vs H Q E ->
   ∃ t,PSs (wa CX0 P w K mg base N qual (yi st) f cdv A outer s H E).nox (vx st) t/\t { nx:=fun _ H'=>Q .non H',rt:=Q } (yae N vs) H):wc P w K mg base CX0 (k+1) f fd ps sp:=by
 obtain ⟨oc,od,kV,doc,pm,an,cdv,ct,osl,rfl,lk,hcd⟩:=F.ex
 refine yn7 lk hcd S len fun A outer s H vs Q E hr hsp=>?_
 obtain ⟨t,h,q⟩:=hbody cdv A outer s H vs Q E hr hsp
 exact ⟨t,h.nox,q⟩
theorem Fun.binds {x qual:Str} {st:Stmt} {f:Addr} {fd:FuncData} {ps:List Str} (F:Fun K x qual st f fd)
  (h:∀ (kV doc pm:Value) (an:Option Addr) (cdv ct:Value) (us:List Value),us.length=ps.length->bindArgs (W.fnOf x qual (wk st) (vx st) (yi st) .none kV doc pm an cdv ct) ⟨us,[]⟩=pure (ps.zip us)):xq K fd ps []:=by
 obtain ⟨oc,od,kV,doc,pm,an,cdv,ct,osl,rfl,lk,hcd⟩:=F.ex
 exact .all (h kV doc pm an cdv ct)
theorem ypt {x qual:Str} {st:Stmt} {f:Addr} {oc:Value} {od an:Option Addr} {osl:Array (Option Value)} {kV doc pm cdv ct:Value} (l:K.lookup f=some ⟨oc,od,.func (W.fnOf x qual (wk st) (vx st) (yi st) .none kV doc pm an cdv ct),osl⟩)
  (c:W.codeIn K cdv qual=true) (k:W.keepIn K (.ref f)=true):Fun K x qual st f (W.fnOf x qual (wk st) (vx st) (yi st) .none kV doc pm an cdv ct):=⟨⟨oc,od,kV,doc,pm,an,cdv,ct,osl,rfl,l,c⟩,k⟩
end
theorem yso {A:Around} {k:Nat} (hr:ja k A):A.units+1 < cLine:=Nat.lt_of_le_of_lt (Nat.add_le_add_left (by decide:1 <= 64) _) hr.units
section
variable {X:Cx}
theorem pv (i:Nat) {x:Str} {pos:Pos} (hN:X.N[i]?=some x:=by rfl) (hv:Vis X.env.scope x:=by first | exact Or.inl rfl | exact Or.inr (Or.inl rfl) | exact Or.inr (Or.inr rfl)) (hd:(x == ("__debug__":Str))=false:=by decide)
  (hcd:(x == ("__classdict__":Str))=false:=by decide):PE X (.Name x pos) (va5 i):=yxn hN hv hd hcd
end
theorem ymc {A B:Prop} (h:B):if false=true then A else B:=by
 rw [if_neg Bool.false_ne_true]
 exact h
theorem ymf {A B:Prop} (h:A):if true=true then A else B:=by
 rw [if_pos rfl]
 exact h
def vh (H H':Hp):Prop:=∀ b o,H b=some o->H' b=some o
theorem vh.refl (H:Hp):vh H H:=fun _ _ h=>h
theorem vh.trans {H H1 H2:Hp} (a:vh H H1) (b:vh H1 H2):vh H H2:=fun c o h=>b c o (a c o h)
theorem vh.free {H H':Hp} (e:vh H H') {l:Addr} (h:H' l=Option.none):H l=Option.none:=by
 cases q:H l with
 | none=>rfl
 | some o =>
  rw [e l o q] at h
  cases h
theorem vh.seq {K:W.Frag} {H H':Hp} {a:Addr} {xs:List V} (e:vh H H') (h:SqL K H a xs):SqL K H' a xs:=by
 rcases h with (h | ⟨o,h⟩) | h
 ·exact .inl (.inl (e _ _ h))
 ·exact .inl (.inr ⟨o,e _ _ h⟩)
 ·exact .inr h
end L2
namespace L2
open PySem PySem.Spec PyProof.Rows
section
variable {X:Cx}
theorem vg:ybq X (.builtin "isinstance") (fun xs H Q=>∃ x cv t c k,xs=[x,cv]/\xk cv c/\(∀ u,xk cv u->u=c)/\x6 X.K H x t/\W.kitOne X.K t c=some k/\Q (.bl k) H):=by
 intro pins s σ H xs us Q I r h
 obtain ⟨x,cv,t,c,k,rfl,_,hc,ty,e,q⟩:=h
 obtain ⟨u,u',rfl,rx,rc⟩:=ytg r
 obtain rfl:=hc u' rc
 exact yjy I rx ty e fun tk=>⟨.bl k,H,I.tok tk,rfl,q⟩
theorem xu {x:Str} {T:String} {pos:Pos} (hg:Gl X x) (hm:X.mg x=none) (hv:bootBuiltins x=some (.type T)) (hn:x≠"__name__":=by decide) (hd:(x == ("__debug__":Str))=false:=by decide):PE X (.Name x pos) (tC (.ty T)):=yrk hg hm hv rfl hn hd
theorem vn {x:Str} {i:Int} {t:Tok} {pos:Pos} (hg:Gl X x) (hm:X.mg x=some (.int i t)) (hd:(x == ("__debug__":Str))=false:=by decide):PE X (.Name x pos) (tC (.int i)):=yk6 hg hm ⟨t,rfl⟩ hd
theorem yfv {x:Str} {C:Addr} {pos:Pos} (hg:Gl X x) (hm:X.mg x=some (.ref C)) (hd:(x == ("__debug__":Str))=false:=by decide):PE X (.Name x pos) (tC (.ref C)):=yk6 hg hm rfl hd
mutual
inductive RdV (K:W.Frag) (H:Hp):V->PyData->Prop
 | non:RdV K H .non .none
 | bl (b):RdV K H (.bl b) (.bool b)
 | int (i):RdV K H (.int i) (.int i)
 | str (x):RdV K H (.str x) (.str x)
 | lst {a xs ds}:SqL K H a xs->yix K H xs ds->RdV K H (.ref a) (.list ds)
 | tup {a xs ds}:SqT K H a xs->yix K H xs ds->RdV K H (.ref a) (.tuple ds)
inductive yix (K:W.Frag) (H:Hp):List V->List PyData->Prop
 | nil:yix K H [] []
 | cons {x xs d ds}:RdV K H x d->yix K H xs ds->yix K H (x :: xs) (d :: ds)
end
mutual
theorem RdV.reads {pins:List (Addr × Obj)} {σ:St} {H:Hp} {s:Shared} (I:Inv X pins σ H s):∀ {x:V} {d:PyData} {u:Value},RdV X.K H x d->xk x u->∃ as,Reads s.heap u d as
 | _,_,_,.non,r=>by cases r; exact ⟨_,.none⟩
 | _,_,_,.bl _,r=>by cases r; exact ⟨_,.bool _⟩
 | _,_,_,.int _,r=>by obtain ⟨t,rfl⟩:=r; exact ⟨_,.int _ _⟩
 | _,_,_,.str _,r=>by obtain ⟨t,rfl⟩:=r; exact ⟨_,.str _ _⟩
 | _,_,_,.lst hq hs,r=>by
  cases r
  obtain ⟨its,rv,⟨o,n,h1,h2,h3,h4⟩,hz⟩:=I.list hq
  obtain ⟨as,ra⟩:=yix.reads I hs rv
  exact ⟨_,.list h1 h2 h4 (by simpa using ra)⟩
 | _,_,_,.tup hq hs,r=>by
  cases r
  obtain ⟨its,rv,⟨o,h1,h2,n,h4⟩,hz⟩:=I.tuple hq
  obtain ⟨as,ra⟩:=yix.reads I hs rv
  exact ⟨_,.tuple h1 h2 h4 (by simpa using ra)⟩
theorem yix.reads {pins:List (Addr × Obj)} {σ:St} {H:Hp} {s:Shared} (I:Inv X pins σ H s):∀ {xs:List V} {ds:List PyData} {us:List Value},yix X.K H xs ds->wu xs us->∃ as,ReadsAll s.heap us ds as
 | _,_,_,.nil,.nil=>⟨_,.nil⟩
 | _,_,_,.cons h hs,.cons r rs=>by
  obtain ⟨as,ra⟩:=RdV.reads I h r
  obtain ⟨bs,rb⟩:=yix.reads I hs rs
  exact ⟨_,.cons ra rb⟩
end
def yzn (K:W.Frag) (g:Bool->Bool):R2:=fun x y H Q=>∃ d e,RdV K H x d/\RdV K H y e/\SeqAt.shaped d=true/\SeqAt.shaped e=true/\Q (.bl (g (PyData.eqv d e))) H
theorem yxy (hu:X.A.units+64 < cLine):OpR X (compareOp .Eq) (yzn X.K fun b=>b):=by
 intro pins s σ H x y v u Q I rx ry h
 obtain ⟨d,e,h1,h2,s1,s2,q⟩:=h
 obtain ⟨as,ra⟩:=h1.reads I rx
 obtain ⟨bs,rb⟩:=h2.reads I ry
 exact eq_dataH ra rb s1 s2 hu ⟨.bl _,H,I,rfl,q⟩
theorem ygy (hu:X.A.units+64 < cLine):OpR X (compareOp .NotEq) (yzn X.K fun b=>!b):=by
 intro pins s σ H x y v u Q I rx ry h
 obtain ⟨d,e,h1,h2,s1,s2,q⟩:=h
 obtain ⟨as,ra⟩:=h1.reads I rx
 obtain ⟨bs,rb⟩:=h2.reads I ry
 exact ne_dataH ra rb s1 s2 hu ⟨.bl _,H,I,rfl,q⟩
theorem zq {K:W.Frag} {H:Hp}:∀ ns:List Int,yix K H (ns.map V.int) (ns.map PyData.int)
 | []=>.nil
 | n :: r=>.cons (.int n) (zq r)
theorem u9:∀ ns:List Int,PyData.canLayAll0 (ns.map PyData.int)=true
 | []=>rfl
 | _ :: r=>by simp [PyData.canLayAll0,PyData.canLay0,u9 r]
theorem z6:∀ ns:List Int,PyData.depthAll (ns.map PyData.int)=0
 | []=>rfl
 | _ :: r=>by simp [PyData.depthAll,PyData.depth,z6 r]
theorem ybx (ns:List Int):SeqAt.shaped (.list (ns.map PyData.int))=true:=by
 simp [SeqAt.shaped,PyData.canLay0,PyData.depth,u9,z6]
theorem u8:∀ ns ms:List Int,PyData.eqvAll (ns.map PyData.int) (ms.map PyData.int)=decide (ns=ms)
 | [],[]=>by simp [PyData.eqvAll]
 | [],_ :: _=>by simp [PyData.eqvAll]
 | _ :: _,[]=>by simp [PyData.eqvAll]
 | a :: r,b :: t=>by
  simp only [List.map_cons,PyData.eqvAll,PyData.eqv,u8 r t]
  by_cases h:a=b <;> by_cases h':r=t <;> simp [h,h']
theorem yny {K:W.Frag} {g:Bool->Bool} {H:Hp} {Q:VK} {a b:Addr} (ns ms:List Int) (ha:SqL K H a (ns.map V.int)) (hb:SqL K H b (ms.map V.int)) (h:Q (.bl (g (decide (ns=ms)))) H):yzn K g (.ref a) (.ref b) H Q :=
 ⟨_,_,.lst ha (zq ns),.lst hb (zq ms),ybx ns,ybx ms,by rw [PyData.eqv,u8]; exact h⟩
def var (_ j:Int):Prop:=0 < j/\j < 2 ^ 200
theorem vf:OpR X (binaryOp .FloorDiv) (rI var fun i j=>.int (i / j)):=opI fun i j _ _ _ _ _ hc q=>by
 obtain ⟨h1,h2⟩:=hc
 refine floordiv_int (by omega) ?_ (.inl (PyProof.noPylong_of_log2 ?_))
 ·rw [Int.fdiv_eq_ediv_of_nonneg _ (by omega)]; exact q
 ·have e:j.natAbs < 2 ^ 200:=by omega
  have e':j.natAbs≠0:=by omega
  have:=(Nat.log2_lt e').mpr e
  omega
def vcd (i j:Int):Prop:=0 <= j/\∃ k:Nat,i.natAbs < 2 ^ k/\(k:Int)+j <= 134217728
theorem yf5:OpR X (binaryOp .LShift) (rI vcd fun i j=>.int (i * 2 ^ j.toNat)):=opI fun _ _ _ _ _ _ _ hc q=>by
 obtain ⟨h0,k,h1,h2⟩:=hc
 have:=PyProof.Rows.intBits_le h1
 exact lshift_int h0 (by omega) q
def yyo (k:Int):R2:=fun x y H Q=>∃ i j,x=.int i/\y=.int j/\va2 i j/\i ^ j.toNat=k/\Q (.int k) H
theorem yko (k:Int):OpR X (binaryOp .Pow) (yyo k):=by
 intro pins s σ H x y v u Q I rx ry h
 obtain ⟨i,j,rfl,rfl,hc,e,q⟩:=h
 exact yux pins s σ H (.int i) (.int j) v u Q I rx ry ⟨i,j,rfl,rfl,hc,by show Q (.int (i ^ j.toNat)) H; rw [e]; exact q⟩
def vb2 (t:TS):TS:=fun D σ H=>∃ M:St->Hp->Prop,t { D with nx:=M } σ H/\∀ σ' H',M σ' H'->D.nx σ' H'
theorem yb4 {st:Stmt} {t:TS} (h:PS X st t):PS X st (vb2 t):=by
 intro pins s σ H D I ⟨M,h1,h2⟩
 refine thn (h pins s σ H { D with nx:=M } I h1) fun f s1 q=>?_
 cases f with
 | next =>
  obtain ⟨σ',H',I',q⟩:=q
  exact ⟨σ',H',I',h2 σ' H' q⟩
 | ret v=>exact q
 | brk=>exact q
 | cont=>exact q
end
def vm (nx:St->Hp->Prop) (σ:St) (H:Hp):Prop:=nx σ H
section
variable {K:W.Frag} {σ:St} {H:Hp} {Q:VK} {QB:Bool->Hp->Prop} {QL:List V->Hp->Prop} {v x y:V} {i j:Int} {b:Bool} {ta tb tc te:TE} {t u:TS} {tA tB':TT} {tr:TA} {D:yhk}
 {nx bk ct:St->Hp->Prop} {rt:VK} {A B:Prop}
theorem yo {N:List Str} {vs:List V} {σ':St} (e:yae N vs=σ') (h:t D σ' H):t D (yae N vs) H:=by rw [e]; exact h
theorem yy7 {k:Nat} (e:σ[k]?=some (some v)) (h:Q v H):va5 k σ H Q:=⟨v,e,h⟩
theorem i_c (h:Q v H):tC v σ H Q:=h
theorem vce {r:R2} (h:ta σ H fun x H1=>tb σ H1 fun y H2=>r x y H2 Q):tOp r ta tb σ H Q:=h
theorem vcl {r:V->Hp->VK->Prop} (h:ta σ H fun x H1=>r x H1 Q):tUn r ta σ H Q:=h
theorem vb6 {g:Int->Int->V} (h:Q (g i j) H):rI0 g (.int i) (.int j) H Q:=⟨i,j,rfl,rfl,h⟩
theorem i_I {C:Int->Int->Prop} {g:Int->Int->V} (hc:C i j) (h:Q (g i j) H):rI C g (.int i) (.int j) H Q:=⟨i,j,rfl,rfl,hc,h⟩
theorem i_U {g:Int->V} (h:Q (g i) H):rU g (.int i) H Q:=⟨i,rfl,h⟩
theorem yzr (h:Q (.bl (decide (i=j))) H):rEq (.int i) (.int j) H Q:=⟨rfl,by
 have e:decide (V.int i=V.int j)=decide (i=j):=by simp
 rw [e]; exact h⟩
theorem vaq (h:Q (.bl (!decide (i=j))) H):rNe (.int i) (.int j) H Q:=⟨rfl,by
 have e:decide (V.int i=V.int j)=decide (i=j):=by simp
 rw [e]; exact h⟩
theorem ywt (h:ta σ H fun x H'=>∃ k,x=.bl k/\QB k H'):yst ta σ H QB:=h
theorem vca (h:ta σ H fun x H'=>∃ k,x=.bl k/\QB k H'):tB ta σ H QB:=h
theorem vb9 {P:Bool->Prop} (h:P b):∃ k,V.bl b=V.bl k/\P k:=⟨b,rfl,h⟩
theorem yqb {r r':R2} (h:ta σ H fun x H1=>tb σ H1 fun y H2=>r x y H2 fun z H3=>∃ k,z=.bl k/\(if k=true then tc σ H3 fun w' H4=>r' y w' H4 Q else Q (.bl false) H3)):ylx r r' ta tb tc σ H Q:=h
theorem yvt (h:ta σ H fun x H1=>∃ c,x=.bl c/\if c=true then tb σ H1 Q else Q (.bl false) H1):yze ta tb σ H Q:=h
theorem ywq (h:ta σ H fun x H1=>∃ c,x=.bl c/\Q (.bl (!c)) H1):yyn ta σ H Q:=h
theorem vap {t1 t2:TT} (h:t1 σ H fun c H1=>if c=true then t2 σ H1 QB else QB false H1):vbn t1 t2 σ H QB:=h
theorem vcc {t1 t2:TT} (h:t1 σ H fun c H1=>if c=true then QB true H1 else t2 σ H1 QB):tOr t1 t2 σ H QB:=h
theorem vaa {t1:TT} (h:t1 σ H fun c H1=>QB (!c) H1):vbu t1 σ H QB:=h
theorem yz2 (h:tA σ H fun c H1=>if c=true then ta σ H1 Q else tb σ H1 Q):tIf tA ta tb σ H Q:=h
theorem vau (h:t ⟨u D,D.rt,D.bk,D.ct⟩ σ H):vbh t u D σ H:=h
theorem yw6 (h:nx σ H):yyy ⟨nx,rt,bk,ct⟩ σ H:=h
theorem vam (h:te σ H rt):vbm te ⟨nx,rt,bk,ct⟩ σ H:=h
theorem yxk (h:te σ H fun _ H1=>nx σ H1):yyw te ⟨nx,rt,bk,ct⟩ σ H:=h
theorem vcp (h:tA σ H fun c H1=>if c=true then t D σ H1 else u D σ H1):vbt tA t u D σ H:=h
theorem yip {t:TS} (M:St->Hp->Prop) (h1:t ⟨M,rt,bk,ct⟩ σ H) (h2:∀ σ' H',M σ' H'->nx σ' H'):vb2 t ⟨nx,rt,bk,ct⟩ σ H:=⟨M,h1,h2⟩
theorem vac {g:TG} (h:te σ H fun x H1=>g x σ H1 nx):yzg te g ⟨nx,rt,bk,ct⟩ σ H:=h
theorem yxl {sp:Sp} {dvs:List V} {E:XK} (h:tr σ H fun vs H1=>sp (vs++dvs) H1 Q E):yy0 sp dvs E tr σ H Q:=h
theorem ywu (h:ta σ H fun x H1=>tr σ H1 fun xs H2=>QL (x :: xs) H2):yza ta tr σ H QL:=h
theorem yz3 (h:QL [] H):yuc σ H QL:=h
theorem vcb {r:List V->Hp->VK->Prop} (h:tr σ H fun vs H1=>r vs H1 Q):tCB r tr σ H Q:=h
theorem yzu (h:tr σ H fun xs H1=>xs.length <= sizeLine/\∀ p,H1 p=none->Q (.ref p) (upd H1 p (.tup xs))):vb4 tr σ H Q:=h
theorem vad (h:tr σ H fun xs H1=>xs.length <= sizeLine/\∀ p,H1 p=none->Q (.ref p) (upd H1 p (.lst xs))):vby tr σ H Q:=h
theorem yg1 {C:Addr} {m:Str} {sp:Sp} {dvs:List V} {E:XK} (h:ta σ H fun x H1=>∃ a dx fs,x=.ref a/\H1 a=some (.ins C dx fs)/\fs.lookup m=none/\tr σ H1 fun vs H2=>sp (x :: (vs++dvs)) H2 Q E):yf7 C m sp dvs E ta tr σ H Q:=h
theorem vah {f:Str} (h:ta σ H fun x H1=>∃ a C dx fs v,x=.ref a/\H1 a=some (.ins C dx fs)/\Cls K C/\yt K C f/\fs.lookup f=some v/\Q v H1):vbg K ta f σ H Q:=h
theorem yun {f:Str} (h:tb σ H fun y H1=>ta σ H1 fun x H2=>∃ a C dx fs,x=.ref a/\H2 a=some (.ins C dx fs)/\Cls K C/\yt K C f/\fs.length < 1000/\vm nx σ (upd H2 a (.ins C dx (wl f y fs)))):vbv K ta tb f ⟨nx,rt,bk,ct⟩ σ H:=h
theorem vco {r:V->Option Int->Option Int->Hp->VK->Prop} {tl th:TO} (h:te σ H fun x H1=>tl σ H1 fun l H2=>th σ H2 fun u H3=>r x l u H3 Q):tSl r te tl th σ H Q:=h
theorem ymo {QO:Option Int->Hp->Prop} (h:QO none H):ykm σ H QO:=h
theorem yxz {QO:Option Int->Hp->Prop} (h:ta σ H fun x H1=>∃ i,x=.int i/\QO (some i) H1):yzb ta σ H QO:=h
theorem vat {P:Int->Prop} (h:P i):∃ k,V.int i=V.int k/\P k:=⟨i,rfl,h⟩
theorem yxr (h:A):V.non=V.non/\A:=⟨rfl,h⟩
theorem g0 {a0:Option V} {r:St} {N:St->Hp->Prop} (h:N (some v :: r) H):wy 0 v (a0 :: r) H N:=h
theorem g1 {a0 a1:Option V} {r:St} {N:St->Hp->Prop} (h:N (a0 :: some v :: r) H):wy 1 v (a0 :: a1 :: r) H N:=h
theorem g2 {a0 a1 a2:Option V} {r:St} {N:St->Hp->Prop} (h:N (a0 :: a1 :: some v :: r) H):wy 2 v (a0 :: a1 :: a2 :: r) H N:=h
theorem g3 {a0 a1 a2 a3:Option V} {r:St} {N:St->Hp->Prop} (h:N (a0 :: a1 :: a2 :: some v :: r) H):wy 3 v (a0 :: a1 :: a2 :: a3 :: r) H N:=h
theorem g4 {a0 a1 a2 a3 a4:Option V} {r:St} {N:St->Hp->Prop} (h:N (a0 :: a1 :: a2 :: a3 :: some v :: r) H):wy 4 v (a0 :: a1 :: a2 :: a3 :: a4 :: r) H N:=h
theorem g5 {a0 a1 a2 a3 a4 a5:Option V} {r:St} {N:St->Hp->Prop} (h:N (a0 :: a1 :: a2 :: a3 :: a4 :: some v :: r) H):wy 5 v (a0 :: a1 :: a2 :: a3 :: a4 :: a5 :: r) H N:=h
theorem g6 {a0 a1 a2 a3 a4 a5 a6:Option V} {r:St} {N:St->Hp->Prop} (h:N (a0 :: a1 :: a2 :: a3 :: a4 :: a5 :: some v :: r) H):wy 6 v (a0 :: a1 :: a2 :: a3 :: a4 :: a5 :: a6 :: r) H N:=h
theorem g7 {a0 a1 a2 a3 a4 a5 a6 a7:Option V} {r:St} {N:St->Hp->Prop} (h:N (a0 :: a1 :: a2 :: a3 :: a4 :: a5 :: a6 :: some v :: r) H):wy 7 v (a0 :: a1 :: a2 :: a3 :: a4 :: a5 :: a6 :: a7 :: r) H N:=h
theorem g8 {a0 a1 a2 a3 a4 a5 a6 a7 a8:Option V} {r:St} {N:St->Hp->Prop} (h:N (a0 :: a1 :: a2 :: a3 :: a4 :: a5 :: a6 :: a7 :: some v :: r) H):wy 8 v (a0 :: a1 :: a2 :: a3 :: a4 :: a5 :: a6 :: a7 :: a8 :: r) H N:=h
theorem g9 {a0 a1 a2 a3 a4 a5 a6 a7 a8 a9:Option V} {r:St} {N:St->Hp->Prop} (h:N (a0 :: a1 :: a2 :: a3 :: a4 :: a5 :: a6 :: a7 :: a8 :: some v :: r) H):wy 9 v (a0 :: a1 :: a2 :: a3 :: a4 :: a5 :: a6 :: a7 :: a8 :: a9 :: r) H N:=h
theorem g10 {a0 a1 a2 a3 a4 a5 a6 a7 a8 a9 a10:Option V} {r:St} {N:St->Hp->Prop} (h:N (a0 :: a1 :: a2 :: a3 :: a4 :: a5 :: a6 :: a7 :: a8 :: a9 :: some v :: r) H):wy 10 v (a0 :: a1 :: a2 :: a3 :: a4 :: a5 :: a6 :: a7 :: a8 :: a9 :: a10 :: r) H N:=h
theorem g11 {a0 a1 a2 a3 a4 a5 a6 a7 a8 a9 a10 a11:Option V} {r:St} {N:St->Hp->Prop} (h:N (a0 :: a1 :: a2 :: a3 :: a4 :: a5 :: a6 :: a7 :: a8 :: a9 :: a10 :: some v :: r) H):wy 11 v (a0 :: a1 :: a2 :: a3 :: a4 :: a5 :: a6 :: a7 :: a8 :: a9 :: a10 :: a11 :: r) H N:=h
theorem yb6 {n:Nat} {tg:TGs} {a:Addr} {xs:List V} {N:St->Hp->Prop} (hq:SqT K H a xs) (hl:xs.length=n) (h:tg xs σ H N):yub K n tg (.ref a) σ H N:=⟨a,xs,rfl,hq,hl,h⟩
theorem yrt {tg:TG} {us:TGs} {r:List V} {N:St->Hp->Prop} (h:tg v σ H fun σ' H'=>us r σ' H' N):ul tg us (v :: r) σ H N:=⟨v,r,rfl,h⟩
theorem yv9 {N:St->Hp->Prop} (h:N σ H):ymb [] σ H N:=⟨rfl,h⟩
theorem zn {p:Prop} [Decidable p] (h1:p->A) (h2:¬ p->B):if decide p=true then A else B:=by
 by_cases h:p
 ·rw [if_pos (decide_eq_true h)]; exact h1 h
 ·rw [if_neg (by simp [h])]; exact h2 h
theorem ybn {p:Prop} [Decidable p] (hp:p) (h:A):if decide p=true then A else B:=by rw [if_pos (decide_eq_true hp)]; exact h
theorem ydj {p:Prop} [Decidable p] (hp:¬ p) (h:B):if decide p=true then A else B:=by rw [if_neg (by simp [hp])]; exact h
theorem yer {p:Prop} [Decidable p] (hp:p) (h:B):if (!decide p)=true then A else B:=by rw [if_neg (by simp [hp])]; exact h
theorem ytj {p:Prop} [Decidable p] (hp:¬ p) (h:A):if (!decide p)=true then A else B:=by rw [if_pos (by simp [hp])]; exact h
theorem vb1 {p:Prop} [Decidable p] (h1:p->B) (h2:¬ p->A):if (!decide p)=true then A else B:=by
 by_cases h:p
 ·exact yer h (h1 h)
 ·exact ytj h (h2 h)
theorem vaj (h:B):if (!true)=true then A else B:=ymc h
theorem yz0 (h:A):if (!false)=true then A else B:=ymf h
theorem ytq {α:Type} {z:α} [Decidable (z=z)] (h:B):if (!decide (z=z))=true then A else B:=yer rfl h
theorem vao {α:Type} {z:α} [Decidable (z=z)] (h:A):if decide (z=z)=true then A else B:=ybn rfl h
theorem u6 {f:Str} {r:List (Str × V)}:List.lookup f ((f,v) :: r)=some v:=by simp [List.lookup]
theorem yy {f g:Str} {r:List (Str × V)} {o:Option V} (h:¬ f=g) (e:List.lookup f r=o):List.lookup f ((g,v) :: r)=o:=by
 have h':(f == g)=false:=by simp [h]
 simp [List.lookup,h',e]
theorem xi {f:Str}:List.lookup f ([]:List (Str × V))=none:=rfl
theorem jy {f:Str} {r:List (Str × V)}:wl f v ((f,x) :: r)=(f,v) :: r:=by simp [wl]
theorem v9 {f g:Str} {r r':List (Str × V)} (h:¬ g=f) (e:wl f v r=r'):wl f v ((g,x) :: r)=(g,x) :: r':=by simp [wl,h,e]
theorem xc {f:Str}:wl f v []=[(f,v)]:=rfl
theorem xo {a c:Addr} {o o':HO} (hn:H a=none) (h:H c=some o):upd H a o' c=some o:=by rw [yu (ye h hn)]; exact h
theorem ym {a c:Addr} {o o':HO} (hn:c≠a) (h:H c=some o):upd H a o' c=some o:=by rw [yu hn]; exact h
theorem vj {a:Addr} {o:HO} (hn:H a=none):vh H (upd H a o):=fun _ _ h=>xo hn h
theorem vh.tup {H H':Hp} {a:Addr} {xs:List V} (e:vh H H') (h:SqT K H a xs):SqT K H' a xs:=by
 rcases h with (h | ⟨o,h⟩) | h
 ·exact .inl (.inl (e _ _ h))
 ·exact .inl (.inr ⟨o,e _ _ h⟩)
 ·exact .inr h
theorem yel {tb:TS} {W:Nat->St->Hp->Prop} {m:Nat} (h:tb ⟨fun σ' H'=>∃ m',m' < m/\W m' σ' H',rt,nx,fun σ' H'=>∃ m',m' < m/\W m' σ' H'⟩ σ H) :
  ∃ N:St->Hp->Prop,(∀ σ' H',N σ' H'->∃ m',m' < m/\W m' σ' H')/\tb ⟨N,rt,nx,N⟩ σ H:=⟨_,fun _ _ q=>q,h⟩
theorem yvy {C:Addr} {sp:Sp} {dvs:List V} {E:XK} (h:tr σ H fun vs H1=>∀ x dx,H1 x=none->H1 dx=none->dx≠x->sp (.ref x :: (vs++dvs)) (upd (upd H1 dx (.own x)) x (.ins C dx [])) (fun v H2=>v=.non/\Q (.ref x) H2) E):ytn C sp dvs E tr σ H Q:=h
theorem vcq {T:String} {r:V->List V->Hp->VK->Prop} (h:ta σ H fun x H1=>tyV K T x H1/\tr σ H1 fun xs H2=>r x xs H2 Q):tBM K T r ta tr σ H Q:=h
theorem vax {T:String} {r:V->List V->Hp->VK->Prop} (h:ta σ H fun x H1=>tyV K T x H1/\r x [] H1 Q):vbo K T r ta σ H Q:=h
theorem yab {p:Addr} {xs:List V} (h:H p=some (.lst xs)) (k:A):tyV K "list" (.ref p) H/\A:=⟨.inl ⟨rfl,_,SqL.of h⟩,k⟩
theorem xn {l:Addr} {xs:List V} (h:H l=some (.lst xs)) (hz:xs.length < sizeLine) (k:Q .non (upd H l (.lst (xs++[y])))):ykt (.ref l) [y] H Q:=⟨l,xs,y,rfl,rfl,h,hz,k⟩
theorem yjt {l:Addr} {xs:List V} (h:H l=some (.lst xs)) (k:Q .non (upd H l (.lst xs.reverse))):ygr (.ref l) [] H Q:=⟨l,xs,rfl,rfl,h,k⟩
theorem uc {p:Addr} {ys:List V} {P:List V->Prop} (h:SqL K H p ys) (k:P ys):∃ p' ys',[V.ref p]=[V.ref p']/\(SqL K H p' ys'\/SqT K H p' ys')/\P ys':=⟨p,ys,rfl,.inl h,k⟩
theorem yg3 {p:Addr} {ys:List V} {P:List V->Prop} (h:SqT K H p ys) (k:P ys):∃ p' ys',[V.ref p]=[V.ref p']/\(SqL K H p' ys'\/SqT K H p' ys')/\P ys':=⟨p,ys,rfl,.inr h,k⟩
theorem jq {p:Addr} {ys:List V} {P:List V->Prop} (h:SqL K H p ys) (k:P ys):∃ p' ys',[V.ref p]=[V.ref p']/\(SqL K H p' ys'\/SqT K H p' ys')/\P ys':=⟨p,ys,rfl,.inl h,k⟩
theorem xt {p:Addr} {xs:List V} (h:SqL K H p xs) (e:atI xs i=some v) (k:Q v H):yzm K (.ref p) (.int i) H Q:=⟨p,xs,i,v,rfl,rfl,h,e,k⟩
theorem ydi {p:Addr} {xs:List V} (h:SqT K H p xs) (e:atI xs i=some v) (k:Q v H):vbp K (.ref p) (.int i) H Q:=⟨p,xs,i,v,rfl,rfl,h,e,k⟩
theorem ydh {p:Addr} {xs:List V} {lo hi:Option Int} (h:SqL K H p xs) (k:∀ q,H q=none->Q (.ref q) (upd H q (.lst (yeu xs lo hi)))):vbk K (.ref p) lo hi H Q:=⟨p,xs,rfl,h,k⟩
theorem z7 {xs:List V} (n:Nat):yeu xs none (some (n:Int))=xs.take n:=by
 unfold yeu
 rw [HT.sIx_none,HT.sIx_nat,List.drop_zero,Nat.sub_zero]
 rcases Nat.le_total n xs.length with h | h
 ·rw [Nat.min_eq_left h]
 ·rw [Nat.min_eq_right h,List.take_of_length_le (Nat.le_refl _),List.take_of_length_le h]
theorem yzv {wi:TI} {g:TG} {tb:TS} (h:wi σ H fun J H1=>∃ W:Nat->Nat->St->Hp->Prop,(∃ m,W 0 m σ H1)/\∀ i m σ H,W i m σ H ->
  (J.stop i H/\D.nx σ H)\/(J.go i H/\∃ N:St->Hp->Prop,(∀ σ' H',N σ' H'->∃ m',m' < m/\W (i+1) m' σ' H')/\∀ x H',J.yld i H x H'->g x σ H' fun σ2 H2=>tb { D with nx:=N,ct:=N,bk:=D.nx } σ2 H2)):vbx wi g tb D σ H:=h
theorem yrc {R:It->Hp->Prop} (h:ta σ H fun x H1=>∃ a,x=.ref a/\(∃ xs,SqL K H1 a xs)/\R (Itl K a) H1):yy9 K ta σ H R:=h
theorem ywf {R:It->Hp->Prop} (h:ta σ H fun x H1=>∃ a,x=.ref a/\(∃ xs,SqT K H1 a xs)/\R (Itt K a) H1):vb3 K ta σ H R:=h
theorem yq1 {R:It->Hp->Prop} (h:tr σ H fun vs H1=>∃ j:Int,vs=[.int j]/\-(2 ^ 62) <= j/\j < 2 ^ 62/\R (Itr 0 j.toNat) H1):yyz tr σ H R:=h
theorem zg {n m:String} {k:Bool} {P:Bool->Prop} (ty:x6 K H x (.type n)) (e:W.kitOne K (.type n) (.type m)=some k) (h:P k) :
  ∃ x' cv t c k',[x,V.ty m]=[x',cv]/\xk cv c/\(∀ u,xk cv u->u=c)/\x6 K H x' t/\W.kitOne K t c=some k'/\P k':=⟨x,.ty m,.type n,.type m,k,rfl,rfl,fun _ r=>r,ty,e,h⟩
theorem yye {k:Int} (hc:va2 i j) (e:i ^ j.toNat=k) (h:Q (.int k) H):yyo k (.int i) (.int j) H Q:=⟨i,j,rfl,rfl,hc,e,h⟩
theorem yp9 (h:nx σ H):vm nx σ H:=h
end
def ylp:V->Bool
 | .int _=>true
 | .bl _=>true
 | _=>false
def yf2:V->Bool
 | .bl _=>true
 | _=>false
def zk:V->Bool
 | .int _=>true
 | _=>false
theorem z8 (K:W.Frag) (n:String):W.kitOne K (.type n) (.type n)=some true:=by
 unfold W.kitOne
 rw [if_pos (by simp)]
theorem yk2 {K:W.Frag} {H:Hp} {x:V} {n:String} (ty:x6 K H x (.type n)):W.kitOne K (.type n) (.type "int")=some (ylp x):=by
 cases ty <;> rfl
theorem ygu {K:W.Frag} {H:Hp} {x:V} {n:String} (ty:x6 K H x (.type n)):W.kitOne K (.type n) (.type "bool")=some (yf2 x):=by
 cases ty <;> rfl
theorem yxw {K:W.Frag}:W.kitOne K (.type "int") (.type "bool")=some false:=rfl
end L2
namespace SpanMath
def Ch (c:Int):Prop:=32768 <= c/\c <= 16744448
def ren (l w s:Int):Int × Int × Int :=
 if w < 4294967296 then (if w * 256 < 4294967296 then (l * 65536,w * 65536,s+2) else (l * 256,w * 256,s+1)) else (l,w,s)
def cut (w c:Int):Int:=w * c / 16777216
def nar (x:Int × Int × Int) (c b:Int):Int × Int × Int :=
 if b=1 then ren x.1 (cut x.2.1 c) x.2.2 else ren (x.1+cut x.2.1 c) (x.2.1 - cut x.2.1 c) x.2.2
def s0:Int × Int × Int:=(0,1099511627776,5)
theorem ynb {l w s:Int} (h:w < 4294967296) (h2:8388608 <= w):ren (l * 256) (w * 256) (s+1)=ren l w s:=by
 unfold ren
 rw [if_pos h]
 by_cases h3:w * 256 < 4294967296
 ·rw [if_pos h3,if_pos h3,if_neg (by omega)]
  refine Prod.ext ?_ (Prod.ext ?_ ?_)
  ·show l * 256 * 256=l * 65536; omega
  ·show w * 256 * 256=w * 65536; omega
  ·show s+1+1=s+2; omega
 ·rw [if_neg h3,if_neg h3]
theorem yre {l w s:Int} (h:¬ w < 4294967296):ren l w s=(l,w,s):=by
 unfold ren; rw [if_neg h]
theorem yep {w c:Int} (hw:4294967296 <= w) (hw2:w <= 1099511627776) (hc:Ch c):8388608 <= cut w c/\8388608 <= w - cut w c/\cut w c < 1099511627776:=by
 obtain ⟨h1,h2⟩:=hc
 have a1:w * 32768 <= w * c:=Int.mul_le_mul_of_nonneg_left h1 (by omega)
 have a2:w * c <= w * 16744448:=Int.mul_le_mul_of_nonneg_left h2 (by omega)
 unfold cut
 generalize w * c=p at a1 a2 ⊢
 omega
structure Ok (x:Int × Int × Int):Prop where
 l0:0 <= x.1
 w0:4294967296 <= x.2.1
 w1:x.2.1 <= 1099511627776
 z:5 <= x.2.2
theorem ok0:Ok s0:=⟨by decide,by decide,by decide,by decide⟩
theorem yol {l w s:Int} (h0:0 <= l) (h1:8388608 <= w) (h2:w <= 1099511627776) (h3:5 <= s):Ok (ren l w s):=by
 unfold ren
 split
 ·split
  ·exact ⟨by show 0 <= l * 65536; omega,by show _ <= w * 65536; omega,by show w * 65536 <= _; omega,by show 5 <= s+2; omega⟩
  ·exact ⟨by show 0 <= l * 256; omega,by show _ <= w * 256; omega,by show w * 256 <= _; omega,by show 5 <= s+1; omega⟩
 ·exact ⟨h0,by show _ <= w; omega,h2,h3⟩
theorem yu9 {x:Int × Int × Int} {c b:Int} (h:Ok x) (hc:Ch c):Ok (nar x c b):=by
 obtain ⟨a1,a2,a3⟩:=yep h.w0 h.w1 hc
 have:=h.l0; have:=h.w0; have:=h.w1; have:=h.z
 unfold nar
 split
 ·exact yol (by omega) (by omega) (by omega) (by omega)
 ·exact yol (by omega) (by omega) (by omega) (by omega)
end SpanMath
namespace SpanMath
def pw:Nat->Int
 | 0=>1
 | k+1=>pw k * 256
theorem xv:∀ k,0 < pw k
 | 0=>by decide
 | k+1=>by have:=xv k; show 0 < pw k * 256; omega
theorem yb9 (a:Nat):∀ b,pw (a+b)=pw a * pw b
 | 0=>by simp [pw]
 | b+1=>by
  show pw (a+b) * 256=pw a * (pw b * 256)
  rw [yb9 a b,Int.mul_assoc]
theorem ykv {a b:Nat} (h:a <= b):pw a <= pw b:=by
 obtain ⟨c,rfl⟩:=Nat.exists_eq_add_of_le h
 rw [yb9]
 have h1:=xv a
 have h2:=xv c
 calc pw a=pw a * 1:=by omega
  _ <= pw a * pw c:=Int.mul_le_mul_of_nonneg_left (by omega) (by omega)
theorem yz6 {a b:Nat} (h:pw a < pw b):a < b:=by
 apply Nat.lt_of_not_le
 intro q
 have:=ykv q
 omega
def lo:Nat->Int->List Int
 | 0,_=>[]
 | k+1,n=>n % 256 :: lo k (n / 256)
def wr (k:Nat) (n:Int):List Int:=(lo k n).reverse
theorem yoo:∀ k n,(lo k n).length=k
 | 0,_=>rfl
 | k+1,n=>by simp [lo,yoo k]
theorem yyk (k:Nat) (n:Int):(wr k n).length=k:=by simp [wr,yoo]
theorem ykr:∀ k n,∀ x∈lo k n,0 <= x/\x <= 255
 | 0,_,x,h=>by simp [lo] at h
 | k+1,n,x,h=>by
  simp only [lo,List.mem_cons] at h
  rcases h with rfl | h
  ·omega
  ·exact ykr k _ x h
theorem yqi (k:Nat) (n:Int):∀ x∈wr k n,0 <= x/\x <= 255:=fun x h=>ykr k n x (by simpa [wr] using h)
theorem yrm (k:Nat) (n:Int):wr (k+1) n=wr k (n / 256)++[n % 256]:=by simp [wr,lo]
def val (xs:List Int):Int:=xs.foldl (fun a b=>a * 256+b) 0
theorem ygw (xs:List Int) (b:Int):val (xs++[b])=val xs * 256+b:=by simp [val,List.foldl_append]
theorem ype:∀ (k:Nat) (n:Int),0 <= n->n < pw k->val (wr k n)=n
 | 0,n,h0,h1=>by
  have:n < 1:=h1
  have:n=0:=by omega
  subst this; rfl
 | k+1,n,h0,h1=>by
  have h2:n < pw k * 256:=h1
  rw [yrm,ygw,ype k (n / 256) (by omega) (by omega)]
  omega
def vb8:Nat->Int->Int->Nat
 | 0,_,_=>0
 | n+1,a,b=>if a=b then 0 else vb8 n (a / 256) (b / 256)+1
end SpanMath
namespace SpanMath
abbrev Sn:=Int × Int × Int
def sz (x:Sn):Nat:=x.2.2.toNat
structure OkS (x:Sn):Prop where
 ok:Ok x
 top:x.1+x.2.1 <= pw (sz x)
theorem OkS.sz {x:Sn} (h:OkS x):((sz x:Nat):Int)=x.2.2:=by
 have:=h.ok.z
 unfold SpanMath.sz
 omega
theorem OkS.sz5 {x:Sn} (h:OkS x):5 <= SpanMath.sz x:=by
 have:=h.ok.z
 unfold SpanMath.sz
 omega
theorem vbe:OkS s0:=⟨ok0,by decide⟩
structure Sub (x y:Sn) (r:Nat):Prop where
 z:sz y=sz x+r
 l:x.1 * pw r <= y.1
 h:y.1+y.2.1 <= (x.1+x.2.1) * pw r
theorem yfz {l w s:Int} (hs:0 <= s):∃ r,Sub (l,w,s) (ren l w s) r/\(ren l w s).2.1=w * pw r/\(ren l w s).1=l * pw r:=by
 unfold ren
 split
 ·split
  ·refine ⟨2,⟨?_,?_,?_⟩,?_,?_⟩
   ·show (s+2).toNat=s.toNat+2; omega
   ·show l * (1 * 256 * 256) <= l * 65536; omega
   ·show l * 65536+w * 65536 <= (l+w) * (1 * 256 * 256); omega
   ·show w * 65536=w * (1 * 256 * 256); omega
   ·show l * 65536=l * (1 * 256 * 256); omega
  ·refine ⟨1,⟨?_,?_,?_⟩,?_,?_⟩
   ·show (s+1).toNat=s.toNat+1; omega
   ·show l * (1 * 256) <= l * 256; omega
   ·show l * 256+w * 256 <= (l+w) * (1 * 256); omega
   ·show w * 256=w * (1 * 256); omega
   ·show l * 256=l * (1 * 256); omega
 ·refine ⟨0,⟨?_,?_,?_⟩,?_,?_⟩
  ·rfl
  ·show l * 1 <= l; omega
  ·show l+w <= (l+w) * 1; omega
  ·show w=w * 1; omega
  ·show l=l * 1; omega
theorem yqd {x:Sn} {c b:Int} (h:Ok x) (hc:Ch c):∃ r,Sub x (nar x c b) r:=by
 obtain ⟨a1,a2,a3⟩:=yep h.w0 h.w1 hc
 have h0:=h.l0; have hz:=h.z
 unfold nar
 split
 ·obtain ⟨r,⟨q1,q2,q3⟩,_⟩:=yfz (l:=x.1) (w:=cut x.2.1 c) (s:=x.2.2) (by omega)
  refine ⟨r,q1,q2,Int.le_trans q3 (Int.mul_le_mul_of_nonneg_right ?_ (Int.le_of_lt (xv r)))⟩
  show x.1+cut x.2.1 c <= x.1+x.2.1
  omega
 ·obtain ⟨r,⟨q1,q2,q3⟩,_⟩:=yfz (l:=x.1+cut x.2.1 c) (w:=x.2.1 - cut x.2.1 c) (s:=x.2.2) (by omega)
  refine ⟨r,q1,Int.le_trans (Int.mul_le_mul_of_nonneg_right ?_ (Int.le_of_lt (xv r))) q2,Int.le_trans q3 (Int.mul_le_mul_of_nonneg_right ?_ (Int.le_of_lt (xv r)))⟩
  ·show x.1 <= x.1+cut x.2.1 c; omega
  ·show x.1+cut x.2.1 c+(x.2.1 - cut x.2.1 c) <= x.1+x.2.1; omega
theorem yfu {x:Sn} {c b:Int} (h:OkS x) (hc:Ch c):OkS (nar x c b):=by
 refine ⟨yu9 h.ok hc,?_⟩
 obtain ⟨r,q⟩:=yqd (b:=b) h.ok hc
 rw [q.z,yb9]
 exact Int.le_trans q.h (Int.mul_le_mul_of_nonneg_right h.top (Int.le_of_lt (xv r)))
def blk (l e:Int):Int:=(l+e - 1) / e
def ycc (l w:Int) (k:Nat):Prop:=(blk l (pw k)+1) * pw k <= l+w
instance (l w:Int) (k:Nat):Decidable (ycc l w k):=inferInstanceAs (Decidable ((blk l (pw k)+1) * pw k <= l+w))
theorem ylu (l:Int) {e:Int} (h:0 < e):l <= blk l e * e/\blk l e * e < l+e:=by
 unfold blk
 have h1:=Int.emod_add_mul_ediv (l+e - 1) e
 have h2:=Int.emod_nonneg (l+e - 1) (show e≠0 by omega)
 have h3:=Int.emod_lt_of_pos (l+e - 1) h
 rw [Int.mul_comm] at h1
 generalize (l+e - 1) / e * e=q at h1 ⊢
 omega
theorem yrz {l w:Int} {k:Nat} (h:ycc l w k):pw k <= w:=by
 have h1:=ylu l (xv k)
 unfold ycc at h
 rw [Int.add_mul] at h
 omega
theorem ynt {l w:Int} {k:Nat} (h:¬ ycc l w k):w < 2 * pw k:=by
 have h1:=ylu l (xv k)
 unfold ycc at h
 rw [Int.add_mul] at h
 omega
def tel (l w:Int):Nat->Nat->Nat
 | 0,k=>k
 | f+1,k=>if ycc l w (k+1) then tel l w f (k+1) else k
theorem ynh {l w:Int} {f k:Nat} (h:ycc l w (k+1)):tel l w f (k+1)=tel l w (f+1) k:=by
 rw [tel,if_pos h]
theorem yp7 {l w:Int} {f k:Nat} (h:¬ ycc l w (k+1)):tel l w f k=k:=by
 cases f with
 | zero=>rfl
 | succ f=>rw [tel,if_neg h]
theorem ygb {l w:Int}:∀ {f k:Nat},ycc l w k->ycc l w (tel l w f k)
 | 0,_,h=>h
 | f+1,k,h=>by
  unfold tel
  split
  ·rename_i q; exact ygb q
  ·exact h
theorem pw5:pw 5=1099511627776:=by decide
theorem yl1 {l w:Int} {k:Nat} (hw:w <= 1099511627776) (h:ycc l w k):k <= 5:=by
 have h1:=yrz h
 rw [<- pw5] at hw
 have h2:pw k < pw 6:=Int.lt_of_le_of_lt (Int.le_trans h1 hw) (by decide)
 have:=yz6 h2
 omega
theorem yki {l w:Int} (hw:w <= 1099511627776):∀ {f k:Nat},f+k=5->¬ ycc l w (tel l w f k+1)
 | 0,k,e=>by
  intro h
  have:=yl1 hw h
  simp only [tel] at this
  omega
 | f+1,k,e=>by
  unfold tel
  split
  ·exact yki hw (by omega)
  ·assumption
def tK (x:Sn):Nat:=tel x.1 x.2.1 5 0
def tCn (x:Sn):Int:=blk x.1 (pw (tK x))
def tL (x:Sn):List Int:=wr (sz x - tK x) (tCn x)
theorem van {x:Sn} (h:Ok x):ycc x.1 x.2.1 0:=by
 have:=h.w0
 show ((x.1+1 - 1) / 1+1) * 1 <= x.1+x.2.1
 omega
theorem yfq {x:Sn} (h:Ok x):ycc x.1 x.2.1 (tK x):=ygb (van h)
theorem yya {x:Sn} (h:Ok x):¬ ycc x.1 x.2.1 (tK x+1):=yki h.w1 rfl
theorem yn6 {x:Sn} (h:OkS x):tK x <= 5/\tK x <= sz x:=by
 have h1:=yl1 h.ok.w1 (yfq h.ok)
 have h2:=h.sz5
 omega
theorem ylk (x:Sn):(tL x).length=sz x - tK x:=yyk _ _
theorem yv4 {x:Sn} (h:Ok x):0 <= tCn x:=by
 have:=h.l0
 have:=xv (tK x)
 exact Int.ediv_nonneg (by omega) (by omega)
theorem ywx {x:Sn} (h:OkS x):tCn x < pw (sz x - tK x):=by
 have h1:(tCn x+1) * pw (tK x) <= x.1+x.2.1:=yfq h.ok
 have h2:=h.top
 have e:sz x - tK x+tK x=sz x:=Nat.sub_add_cancel (yn6 h).2
 rw [<- e,yb9] at h2
 have h3:=Int.le_of_mul_le_mul_right (Int.le_trans h1 h2) (xv (tK x))
 omega
theorem yu2 {x:Sn} (h:OkS x):val (tL x)=tCn x:=ype _ _ (yv4 h.ok) (ywx h)
def gv (c b:Int):Int:=if b=1 then c else 16777216 - c
def yzi (n:Nat) (g o:Int) (x:Sn):Prop:=0 < g/\0 < o/\g * pw (sz x) * (8388608 - n) <= o * x.2.1 * 8388608
theorem yzz:yzi 0 1 1 s0:=⟨by decide,by decide,by decide⟩
theorem vak {g p o w m z:Int} (hz:0 <= z) (h:g * p * m <= o * w * 8388608):g * (p * z) * m <= o * (w * z) * 8388608:=by
 have h1:=Int.mul_le_mul_of_nonneg_right h hz
 have e1:g * (p * z) * m=g * p * m * z:=by
  rw [<- Int.mul_assoc g p z,Int.mul_assoc (g * p) z m,Int.mul_comm z m,<- Int.mul_assoc]
 have e2:o * (w * z) * 8388608=o * w * 8388608 * z:=by
  rw [<- Int.mul_assoc o w z,Int.mul_assoc (o * w) z,Int.mul_comm z,<- Int.mul_assoc]
 rw [e1,e2]; exact h1
theorem yjr {n:Nat} {g o:Int} {x:Sn} {c b:Int} (hn:n < 1000000) (h:OkS x) (hc:Ch c) (p:yzi n g o x):yzi (n+1) (g * gv c b) (o * 16777216) (nar x c b):=by
 obtain ⟨hg,ho,hp⟩:=p
 obtain ⟨a1,a2,a3⟩:=yep h.ok.w0 h.ok.w1 hc
 have hw:=h.ok.w0
 obtain ⟨c1,c2⟩:=hc
 have hz:=h.ok.z
 have hcut1:cut x.2.1 c * 16777216 <= x.2.1 * c:=by unfold cut; omega
 have hcut2:x.2.1 * c < cut x.2.1 c * 16777216+16777216:=by unfold cut; omega
 have hS:=xv (sz x)
 have key:0 < g * gv c b/\∃ w',(nar x c b=if b=1 then ren x.1 w' x.2.2 else ren (x.1+cut x.2.1 c) w' x.2.2)/\g * gv c b * pw (sz x) * (8388608 - (n+1:Nat)) <= o * 16777216 * w' * 8388608:=by
  have hgs:0 <= g * pw (sz x):=Int.mul_nonneg (by omega) (by omega)
  have ho':0 <= o:=by omega
  unfold gv nar
  by_cases hb:b=1
  ·rw [if_pos hb,if_pos hb]
   refine ⟨Int.mul_pos hg (by omega),cut x.2.1 c,by rw [if_pos hb],?_⟩
   have s1:g * pw (sz x) * (8388608 - n) * c <= o * x.2.1 * 8388608 * c:=Int.mul_le_mul_of_nonneg_right hp (by omega)
   have s2:x.2.1 * c * 8388608 <= cut x.2.1 c * 16777216 * 8388609:=by omega
   have s3:o * (x.2.1 * c * 8388608) <= o * (cut x.2.1 c * 16777216 * 8388609):=Int.mul_le_mul_of_nonneg_left s2 ho'
   have s4:g * pw (sz x) * c * ((8388608 - (n+1:Nat)) * 8388609) <= g * pw (sz x) * c * ((8388608 - n) * 8388608) :=
    Int.mul_le_mul_of_nonneg_left (by omega) (Int.mul_nonneg hgs (by omega))
   have e0:g * c * pw (sz x)=g * pw (sz x) * c:=by rw [Int.mul_assoc,Int.mul_comm c,<- Int.mul_assoc]
   rw [e0]
   have e1:g * pw (sz x) * c * ((8388608 - (n+1:Nat)) * 8388609)=g * pw (sz x) * c * (8388608 - (n+1:Nat)) * 8388609:=by rw [<- Int.mul_assoc]
   have e2:g * pw (sz x) * c * ((8388608 - n) * 8388608)=g * pw (sz x) * (8388608 - n) * c * 8388608:=by
    rw [<- Int.mul_assoc,Int.mul_assoc (g * pw (sz x)) c,Int.mul_comm c,<- Int.mul_assoc]
   have e3:o * (x.2.1 * c * 8388608)=o * x.2.1 * c * 8388608:=by rw [<- Int.mul_assoc,<- Int.mul_assoc]
   have e4:o * x.2.1 * 8388608 * c=o * x.2.1 * c * 8388608:=by rw [Int.mul_assoc,Int.mul_comm 8388608,<- Int.mul_assoc]
   have e5:o * (cut x.2.1 c * 16777216 * 8388609)=o * cut x.2.1 c * 16777216 * 8388609:=by rw [<- Int.mul_assoc,<- Int.mul_assoc]
   have e6:o * 16777216 * cut x.2.1 c * 8388608=o * cut x.2.1 c * 16777216 * 8388608:=by rw [Int.mul_assoc o,Int.mul_comm 16777216,<- Int.mul_assoc]
   rw [e1,e2] at s4
   rw [e3,e5] at s3
   rw [e4] at s1
   rw [e6]
   generalize g * pw (sz x) * c * (8388608 - (n+1:Nat))=z1 at s4 ⊢
   generalize g * pw (sz x) * (8388608 - n) * c=z2 at s1 s4
   generalize o * x.2.1 * c=z3 at s1 s3
   generalize o * cut x.2.1 c=z4 at s3 ⊢
   omega
  ·rw [if_neg hb,if_neg hb]
   refine ⟨Int.mul_pos hg (by omega),x.2.1 - cut x.2.1 c,by rw [if_neg hb],?_⟩
   have hd:0 <= 16777216 - c:=by omega
   have s1:g * pw (sz x) * (8388608 - n) * (16777216 - c) <= o * x.2.1 * 8388608 * (16777216 - c):=Int.mul_le_mul_of_nonneg_right hp hd
   have s2:x.2.1 * (16777216 - c) <= (x.2.1 - cut x.2.1 c) * 16777216:=by rw [Int.mul_sub]; omega
   have s3:o * (x.2.1 * (16777216 - c)) <= o * ((x.2.1 - cut x.2.1 c) * 16777216):=Int.mul_le_mul_of_nonneg_left s2 ho'
   have s4:g * pw (sz x) * (16777216 - c) * (8388608 - (n+1:Nat)) <= g * pw (sz x) * (16777216 - c) * (8388608 - n) :=
    Int.mul_le_mul_of_nonneg_left (by omega) (Int.mul_nonneg hgs hd)
   have e0:g * (16777216 - c) * pw (sz x)=g * pw (sz x) * (16777216 - c):=by rw [Int.mul_assoc,Int.mul_comm (16777216 - c),<- Int.mul_assoc]
   rw [e0]
   have e2:g * pw (sz x) * (16777216 - c) * (8388608 - n)=g * pw (sz x) * (8388608 - n) * (16777216 - c):=by
    rw [Int.mul_assoc,Int.mul_comm (16777216 - c),<- Int.mul_assoc]
   have e3:o * (x.2.1 * (16777216 - c))=o * x.2.1 * (16777216 - c):=by rw [<- Int.mul_assoc]
   have e4:o * x.2.1 * 8388608 * (16777216 - c)=o * x.2.1 * (16777216 - c) * 8388608:=by rw [Int.mul_assoc,Int.mul_comm 8388608,<- Int.mul_assoc]
   have e5:o * ((x.2.1 - cut x.2.1 c) * 16777216)=o * (x.2.1 - cut x.2.1 c) * 16777216:=by rw [<- Int.mul_assoc]
   have e6:o * 16777216 * (x.2.1 - cut x.2.1 c) * 8388608=o * (x.2.1 - cut x.2.1 c) * 16777216 * 8388608:=by rw [Int.mul_assoc o,Int.mul_comm 16777216,<- Int.mul_assoc]
   rw [e2] at s4
   rw [e3,e5] at s3
   rw [e4] at s1
   rw [e6]
   generalize g * pw (sz x) * (16777216 - c) * (8388608 - (n+1:Nat))=z1 at s4 ⊢
   generalize g * pw (sz x) * (8388608 - n) * (16777216 - c)=z2 at s1 s4
   generalize o * x.2.1 * (16777216 - c)=z3 at s1 s3
   generalize o * (x.2.1 - cut x.2.1 c)=z4 at s3 ⊢
   omega
 obtain ⟨k0,w',k1,k2⟩:=key
 refine ⟨k0,by omega,?_⟩
 rw [k1]
 have fin:∀ l:Int,g * gv c b * pw (sz (ren l w' x.2.2)) * (8388608 - (n+1:Nat)) <= o * 16777216 * (ren l w' x.2.2).2.1 * 8388608:=fun l=>by
  obtain ⟨r,q,q1,_⟩:=yfz (l:=l) (w:=w') (s:=x.2.2) (by omega)
  rw [q.z,q1,yb9]
  exact vak (Int.le_of_lt (xv r)) k2
 split
 ·exact fin _
 ·exact fin _
theorem yq4 {n:Nat} {g o:Int} {x:Sn} (hn:n < 1000000) (h:OkS x) (p:yzi n g o x):g * pw (sz x - tK x) < 1024 * o:=by
 obtain ⟨hg,ho,hp⟩:=p
 have hw:=ynt (yya h.ok)
 have hw2:x.2.1 < 512 * pw (tK x):=by
  have e:pw (tK x+1)=pw (tK x) * 256:=rfl
  omega
 have e:sz x - tK x+tK x=sz x:=Nat.sub_add_cancel (yn6 h).2
 have pT:=xv (tK x)
 rw [<- e,yb9] at hp
 have h1:o * x.2.1 * 8388608 < o * (512 * pw (tK x)) * 8388608:=by
  have:=Int.mul_lt_mul_of_pos_left hw2 ho
  omega
 have e1:g * (pw (sz x - tK x) * pw (tK x)) * (8388608 - n)=g * pw (sz x - tK x) * (8388608 - n) * pw (tK x):=by
  rw [<- Int.mul_assoc,Int.mul_assoc (g * pw (sz x - tK x)) (pw (tK x)),Int.mul_comm (pw (tK x)),<- Int.mul_assoc]
 have e2:o * (512 * pw (tK x)) * 8388608=o * 512 * 8388608 * pw (tK x):=by
  rw [<- Int.mul_assoc,Int.mul_assoc (o * 512) (pw (tK x)),Int.mul_comm (pw (tK x)),<- Int.mul_assoc]
 rw [e1] at hp
 rw [e2] at h1
 have h2:=Int.lt_of_mul_lt_mul_right (Int.lt_of_le_of_lt hp h1) (Int.le_of_lt pT)
 have h3:g * pw (sz x - tK x) * (8388608 - n) < 1024 * o * (8388608 - n):=by
  refine Int.lt_of_lt_of_le h2 ?_
  have:o * (512 * 8388608) <= o * (1024 * (8388608 - n)):=Int.mul_le_mul_of_nonneg_left (by omega) (by omega)
  have e3:o * (1024 * (8388608 - n))=1024 * o * (8388608 - n):=by rw [<- Int.mul_assoc,Int.mul_comm o]
  omega
 exact Int.lt_of_mul_lt_mul_right h3 (by omega)
end SpanMath
namespace L2
open PySem PySem.Spec PyProof.Rows
abbrev Cx.comp (X:Cx) (scope:Scope) (C:Addr) (x:Str) (s2:Shared) (H2:Hp) (fp:List Addr):Cx :=
 { X with N:=[x],s₀:=s2,H₀:=H2,env:=compEnv scope C X.env,outer:=X.stack,ex:=fp,fn:=fun _=>true,pn:=[],xe:=fun _ _=>False }
def ybi (J:It) (te:TE) (D:Addr) (R:Hp->Prop) (H1:Hp):Prop:=∃ W:Nat->Nat->Hp->Prop,(∃ m,W 0 m (upd H1 D (.lst []))) /\
 ∀ i m H2,W i m H2->(J.stop i H2/\R H2)\/(J.go i H2/\∀ x H3,J.yld i H2 x H3->te [some x] H3 fun y H4=>∃ ys,H4 D=some (.lst ys)/\ys.length < sizeLine/\∃ m',m' < m/\W (i+1) m' (upd H4 D (.lst (ys++[y]))))
def yys (wi:TI) (te:TE):TE:=fun σ H Q=>wi σ H fun J H1=>∀ D,H1 D=none->ybi J te D (fun H2=>Q (.ref D) H2) H1
section
variable {X:Cx} {iter elt:Expr} {x:Str} {px pos:Pos} {scope:Scope} {te:TE} {wi:TI} {pins:List (Addr × Obj)} {σ:St}
theorem yuf {α:Type} {t:Sem α} {Q Q':α->Shared->Prop} {M:Model} {A:Around} {E:Value->Shared->Prop} {s:Shared} (h:wpAny M A t Q (fun _ _=>False) s) (hQ:∀ a s,Q a s->Q' a s):wpAny M A t Q' E s:=wpAny_mono h hQ fun _ _ z=>z.elim
theorem yjz {s2:Shared} {H2:Hp} {it:Addr} {fp:List Addr} {tn:Nat->Heap->Prop} {J:It} (hc:X.calm=true)
  (he:∀ (C:Addr) (s2:Shared) (H2:Hp) (fp:List Addr),PE (X.comp scope C x s2 H2 fp) elt te)
  (hfree:∀ y∈scope.names,y.2≠.free) (hcell:∀ y∈scope.names,y.2≠.cell) (hkind:scope.kind=.function) (hx:scope.names.lookup x=some .local)
  (I2:Inv X pins σ H2 s2) (T:yn8 X.prog X.w X.K (.Name x px) J fp it tn) (st2:tn 0 s2.heap) (f2:∀ b∈fp,yf8 X pins H2 b)
  {R:Addr->Hp->Prop} (h:∀ D,H2 D=none->ybi J te D (R D) H2) {RR:Value->Env->Result->Shared->Prop} {E:Value->Shared->Prop}
  (hR:∀ (D C:Addr) (H':Hp) (s':Shared) (m:Str->Option Value),yf8 X pins H' C->s'.heap.Ns C m->Inv X pins σ H' s'->R D H'->RR (.ref D) (compEnv scope C X.env) (.ok .next) s') :
  wpAny (model X.prog X.w) X.A (newList []) (fun acc s₃=>wpAny (model X.prog X.w) X.A (newFunctionEnv scope X.env.globals [] [] X.env.qual none .none (some X.env)) (fun cenv s₄ =>
   codeAny (model X.prog X.w) X.A (.compStart (.ListComp elt [⟨.Name x px,iter,[],0⟩] scope pos) 0 (.ref it) acc { cenv with scope:=scope }) (RR acc { cenv with scope:=scope }) s₄) E s₃) E s2:=by
 refine wpAny_newObj_type (wpAny_newFunctionEnv hcell (by intro y hy; simp at hy) (fun h₁ hns₁ hsb₁=>?_) hkind)
 dsimp only at hns₁ hsb₁ ⊢
 generalize hH2:s2.heap.push { cls:=.type "list",dict:=none,data:=.seq ([]:List Value).toArray }=G at hns₁ hsb₁ ⊢
 have hC:G.objs.size=s2.heap.objs.size+1:=by rw [<- hH2,Heap.size_push]
 have hDC:s2.heap.objs.size≠G.objs.size:=by rw [hC]; exact Nat.ne_of_lt (Nat.lt_succ_self _)
 have hCle:s2.heap.objs.size <= G.objs.size:=by rw [hC]; exact Nat.le_succ _
 have below:∀ b,b < s2.heap.objs.size->b≠G.objs.size/\b≠s2.heap.objs.size:=fun b hb=>⟨by rw [hC]; exact Nat.ne_of_lt (Nat.lt_succ_of_lt hb),Nat.ne_of_lt hb⟩
 have old:∀ b o,s2.heap.get? b=some o->h₁.get? b=some o:=fun b o e=>hsb₁.extBut b o (below b (Heap.lt_size e)).1 (Heap.get?_push_of_some _ (hH2 ▸ Heap.get?_push_of_some _ e))
 have hacc:h₁.get? s2.heap.objs.size=some { cls:=.type "list",data:=.seq ([]:List Value).toArray }:=hsb₁.extBut _ _ hDC (Heap.get?_push_of_some _ (hH2 ▸ Heap.get?_push_size _ rfl))
 have fpl:∀ b∈fp,b < s2.heap.objs.size:=fun b hb=>let ⟨_,e,_⟩:=T.obj 0 _ st2 b hb; Heap.lt_size e
 have fpS:∀ b∈fp,b∉frs X.stack:=fun b hb z=>(List.mem_cons.mp (I2.stkSub b z)).elim (f2 b hb).2.1 (f2 b hb).2.2.1
 have nC:H2 G.objs.size=none:=I2.hok.fresh hCle
 have nD:H2 s2.heap.objs.size=none:=I2.hok.fresh (Nat.le_refl _)
 have okC:(X.comp scope G.objs.size x s2 H2 fp).Ok:=by
  refine ⟨I2.ok.mod,hkind,I2.ok.glob,I2.ok.blt,hCle,fun y z c e=>(by cases e),fun y e=>?_,fun y c _ e=>(by cases e),I2.ok.hd,I2.ok.frames,.inl rfl,fun b hb=>⟨(below b (fpl b hb)).1,fun y c e=>(by cases e)⟩,I2.bs,?_,fun b o e hb=>?_,fun b hb=>fpS b hb,I2.stack,I2.stkFree⟩
  ·exfalso
   have e':scope.names.lookup y=some .cell\/scope.names.lookup y=some .free:=e
   rcases e' with e' | e'
   ·exact hcell _ (PySem.mem_of_lookup e') rfl
   ·exact hfree _ (PySem.mem_of_lookup e') rfl
  ·exact Nat.le_trans I2.ok.bsz I2.sz
  ·rcases (f2 b hb).2.2.2.1 with z | z
   ·exact I2.ok.noex b o e z
   ·exact absurd (Nat.lt_of_lt_of_le (Heap.lt_size (I2.ok.bs b o e).1) z) (Nat.lt_irrefl _)
 have I3:∀ tk,Inv (X.comp scope G.objs.size x s2 H2 fp) [] [none] (upd H2 s2.heap.objs.size (.lst [])) { s2 with heap:=h₁,toks:=tk }:=fun tk =>
  ⟨okC,rfl,I2.bare,Un.laid old (Nat.le_refl _) nD,⟨_,hns₁,fun i y v _ e _=>by
    cases i with
    | zero=>cases e
    | succ i=>simp at e⟩,fun y c e=>(by cases e),(by show upd H2 s2.heap.objs.size _ G.objs.size=none; rw [yu hDC.symm]; exact nC),fun y c e=>(by cases e),fun p hp=>(by simp at hp),
   I2.hok.laid old (Nat.le_refl _) ⟨Nat.zero_le _,[],_,.nil,hacc⟩,rfl⟩
 have stat:∀ {H':Hp},(∀ b∈fp,H' b=none)->∀ b∈fp,yf8 (X.comp scope G.objs.size x s2 H2 fp) [] H' b:=fun hn b hb=>⟨hn b hb,(below b (fpl b hb)).1,fpS b hb,.inl hb,fun y c e=>(by cases e),fun p hp=>(by simp at hp)⟩
 have loop:∀ tk,codeAny (model X.prog X.w) X.A (.compLoop (.ListComp elt [⟨.Name x px,iter,[],0⟩] scope pos) 0 (.ref it) (.ref s2.heap.objs.size) (compEnv scope G.objs.size X.env)) (RR (.ref s2.heap.objs.size) (compEnv scope G.objs.size X.env)) { s2 with heap:=h₁,toks:=tk }:=by
  intro tk
  obtain ⟨W,⟨m0,w0⟩,turn⟩:=h s2.heap.objs.size nD
  refine codeAny_loop rfl (fun n s'=>∃ i v H',Inv (X.comp scope G.objs.size x s2 H2 fp) [] [v] H' s'/\tn i s'.heap/\(∀ b∈fp,H' b=none)/\W i n H') (fun n s' hI=>?_) m0
   ⟨0,none,_,I3 tk,T.keep 0 _ _ st2 (fun b hb o e=>old b o e),fun b hb=>(by rw [yu (below b (fpl b hb)).2]; exact (f2 b hb).1),w0⟩
  obtain ⟨i,v,H',I,st,fr,w⟩:=hI
  show wpAny _ _ ((compTurn (.ListComp elt [⟨.Name x px,iter,[],0⟩] scope pos) 0 (.ref it) (.ref s2.heap.objs.size) (compEnv scope G.objs.size X.env)).onRaise (fun x=>do noteFrame x (compEnv scope G.objs.size X.env); theTreesLotGoes x)) _ _ s'
  refine wpAny_noted ?_
  rw [compTurn_list1]
  refine wpAny_bind (wpAny_standAt (wpAny_bind ?_))
  rcases turn i n H' w with ⟨stop,q⟩ | ⟨go,step⟩
  ·refine thn (T.done (X.comp scope G.objs.size x s2 H2 fp) rfl rfl rfl hc i [] s' [v] H' _ I (stat fr) st stop) fun r s4 ⟨hr,I4⟩=>?_
   subst hr
   refine wpAny_pure ?_
   obtain ⟨m,hn,_⟩:=I4.loc
   exact hR _ _ H' s4 m (I2.fpOk hCle I4.free) hn (I2.call' (ch:=fp) I4.os I4.base I4.hok I4.bare fun b hb=>⟨(f2 b hb).2.2.2.1,(f2 b hb).2.1,(f2 b hb).2.2.2.2.1,(f2 b hb).2.2.2.2.2⟩) q
  ·refine thn (T.item (X.comp scope G.objs.size x s2 H2 fp) rfl rfl rfl hc i [] s' [v] H' _ I (stat fr) st go) fun r s4 ⟨u,hr,h4⟩=>?_
   subst hr
   refine wpAny_bind (thn h4 fun _ s5 ⟨y,H5,I5,r5,y5,st5,fr5⟩=>wpAny_bind ?_)
   have I5':=I5.pinned (stat fr5) (T.obj _ _ st5)
   refine wpAny_assign_Name (yat (i:=0) I5' (by simp) rfl (Or.inl hx) r5 (fun s6 I6=>?_) (Or.inl rfl))
   refine wpAny_bind (wpAny_bind (yuf (he _ _ _ _ _ s6 [some y] H5 _ I6 (step y H5 y5)) fun u2 s7 ⟨y2,H7,I7,r7,ys,hD,hl,m',hm,w'⟩=>wpAny_bind ?_))
   refine yuf (wn _ s7 [some y] H7 (.ref s2.heap.objs.size) [y2] (.ref s2.heap.objs.size) [u2] (fun _ H8=>H8=upd H7 s2.heap.objs.size (.lst (ys++[y2]))) I7 rfl (.cons r7 .nil) ⟨_,ys,y2,rfl,rfl,hD,hl,rfl⟩) fun _ s8 ⟨_,H8,I8,_,e8⟩=>?_
   subst e8
   have pin:∀ b∈fp,∀ o,s5.heap.get? b=some o->s8.heap.get? b=some o/\upd H7 s2.heap.objs.size (HO.lst (ys++[y2])) b=none:=fun b hb o e =>
    ⟨(I8.pin (b,o) (List.mem_append_right _ (List.mem_append_right _ (xh hb e)))).1,(I8.pin (b,o) (List.mem_append_right _ (List.mem_append_right _ (xh hb e)))).2.1⟩
   refine wpAny_pure (wpAny_pure ⟨rfl,m',hm,i+1,some y,_,I8.unpinned,T.keep _ _ _ st5 fun b hb o e=>(pin b hb o e).1,fun b hb=>?_,w'⟩)
   obtain ⟨o,e,d⟩:=T.obj _ _ st5 b hb
   exact (pin b hb o e).2
 exact codeAny_compStart_list (loop _) (T.self X.A 0 _ _ _ (T.keep 0 _ _ st2 (fun b hb o e=>old b o e)) (loop _))
theorem uh (hc:X.calm=true) (hi:PI X (.Name x px) iter wi) (he:∀ (C:Addr) (s2:Shared) (H2:Hp) (fp:List Addr),PE (X.comp scope C x s2 H2 fp) elt te)
  (hfree:∀ y∈scope.names,y.2≠.free:=by decide +kernel) (hcell:∀ y∈scope.names,y.2≠.cell:=by decide +kernel) (hkind:scope.kind=.function:=by rfl)
  (hnames:∀ y∈scope.names,y.2=.local->scope.names.lookup y.1=some .local:=by decide +kernel) (hx:scope.names.lookup x=some .local:=by rfl) (hs:∀ x,foldedSetIterable iter X.env x=pure x:=by intro _; rfl) :
  PE X (.ListComp elt [⟨.Name x px,iter,[],0⟩] scope pos) (yys wi te):=by
 intro pins s σ H Q I h
 refine wpAny_ListComp hfree hkind hnames (thn (hi pins s σ H _ I h) fun v s1 h1=>thn h1 fun itv s2 h2=>?_) hs
 obtain ⟨it,fp,tn,J,H2,e,I2,T,st2,f2,h⟩:=h2
 subst e
 refine yjz (R:=fun D H'=>Q (.ref D) H') (RR:=fun acc cenv r s'=>∃ m,s'.heap.Ns cenv.locals m/\∀ h',Heap.SameBut cenv.locals s'.heap h' ->
  match r with | .ok _=>EP X pins σ Q acc { s' with heap:=h' } | .error x=>wpAny (model X.prog X.w) X.A (passOn "comprehension.variables-let-go" x cenv) (EP X pins σ Q) X.xe { s' with heap:=h' }) hc he hfree hcell hkind hx I2 T st2 f2 h ?_
 intro D C H' s' m f hn I' q
 refine ⟨m,hn,fun h' sb=>⟨.ref D,H',?_,rfl,q⟩⟩
 exact I'.turned (t':=s'.toks) (fun b o hb e=>sb.extBut b o hb e) f.1 f.2.1 f.2.2.2.1 f.2.2.2.2.1 f.2.2.2.2.2
theorem yyh {wi:TI} {te:TE} {H:Hp} {Q:VK} (h:wi σ H fun J H1=>∀ D,H1 D=none->ybi J te D (fun H2=>Q (.ref D) H2) H1):yys wi te σ H Q:=h
def cW (n:Nat) (Pv:Nat->Hp->Prop) (i m:Nat) (H:Hp):Prop:=m=n - i/\i <= n/\Pv i H
theorem uf {K:W.Frag} {a D:Addr} {xs:List V} {te:TE} {R:Hp->Prop} {H1:Hp} (Pv:Nat->Hp->Prop) (h0:Pv 0 (upd H1 D (.lst []))) (hl:∀ i H,i <= xs.length->Pv i H->SqL K H a xs)
  (hs:∀ i x H,xs[i]?=some x->i < xs.length->Pv i H->te [some x] H fun y H4=>∃ ys,H4 D=some (.lst ys)/\ys.length < sizeLine/\∃ m',m' < xs.length - i/\cW xs.length Pv (i+1) m' (upd H4 D (.lst (ys++[y]))))
  (hd:∀ H,Pv xs.length H->R H):ybi (Itl K a) te D R H1:=by
 refine ⟨cW xs.length Pv,⟨xs.length,by simp,Nat.zero_le _,h0⟩,?_⟩
 rintro i m H ⟨rfl,hi,p⟩
 have q:=hl i H hi p
 by_cases hlt:i < xs.length
 ·refine .inr ⟨⟨xs,xs[i],q,by simp [hlt]⟩,fun x H' y=>?_⟩
  obtain ⟨e,y⟩:=y
  subst e
  exact hs i x _ (y xs q) hlt p
 ·have e:i=xs.length:=by omega
  subst e
  exact .inl ⟨⟨xs,q,Nat.le_refl _⟩,hd H p⟩
theorem w9 {n i:Nat} {Pv:Nat->Hp->Prop} {D:Addr} {ys:List V} {y:V} {H4:Hp} (hD:H4 D=some (.lst ys)) (hl:ys.length < sizeLine) (hi:i < n) (p:Pv (i+1) (upd H4 D (.lst (ys++[y])))) :
  ∃ ys,H4 D=some (.lst ys)/\ys.length < sizeLine/\∃ m',m' < n - i/\cW n Pv (i+1) m' (upd H4 D (.lst (ys++[y]))):=⟨ys,hD,hl,n - (i+1),by omega,rfl,hi,p⟩
end
end L2
namespace L2
open PySem
def yrg:Expr->Bool
 | .Starred _ _=>false
 | _=>true
theorem ya {e:Expr} {es:List Expr} {env:Env} (h:yrg e=true):starEach (e :: es) env=(false,eval e env) :: starEach es env:=by
 cases e <;> first | rfl | cases h
end L2
namespace L2
open PySem PySem.Spec PyProof.Rows
structure XCls (K:W.Frag) (C:Addr):Prop where
 hd:W.hasDictIn K C=true
 ga:W.findIn K (.ref C) "__getattribute__"=some (some (.builtin "BaseException.__getattribute__"))
 gt:W.findIn K (.ref C) "__getattr__"=some none
 ca:W.findIn K (.ref C) "__class__"=some (some (.builtin "object.__class__"))
 gg:W.specialIn K (.builtin "object.__class__") "__get__"=some (some (.builtin "getset_descriptor.__get__"))
 tk:W.takesIn K (.builtin "object.__class__")=some true
 mo:W.mroIn K C (.type "object")=some true
 mb:W.mroIn K C (.type "BaseException")=some true
section
variable {prog:Program} {w:World} {A:Around} {E:Value->Shared->Prop} {s:Shared} {K:W.Frag} {x C:Addr}
end
section
variable {X:Cx}
end
end L2
namespace L2
open PySem PySem.Spec PyProof.Rows
theorem xr.there {P:Program} {w:World} {H:Hp} {h:Heap} {a:Addr} {o:HO} (x:xr P w H h a o):∃ ob,h.get? a=some ob:=by
 cases o with
 | lst xs=>obtain ⟨_,_,_,_,e⟩:=x; exact ⟨_,e⟩
 | tup xs=>obtain ⟨_,_,_,ob,e,_⟩:=x; exact ⟨_,e⟩
 | dK kvs=>obtain ⟨_,_,_,_,ob,_,_,e,_⟩:=x; exact ⟨_,e⟩
 | dT kvs=>obtain ⟨_,_,_,_,ob,_,_,e,_⟩:=x; exact ⟨_,e⟩
 | set S n=>obtain ⟨ob,_,_,_,e,_⟩:=x; exact ⟨_,e⟩
 | ins C dx fs=>obtain ⟨_,_,_,e,_⟩:=x; exact ⟨_,e⟩
 | own y=>exact x
 | xd fs=>obtain ⟨_,⟨_,_,_,e,_⟩,_⟩:=x; exact ⟨_,e⟩
 | rng lo hi=>obtain ⟨_,_,_,e⟩:=x; exact ⟨_,e⟩
 | frz ob u=>obtain ⟨e,_⟩:=x; exact ⟨_,e⟩
 | tbl ps=>exact ⟨_,(show h.get? a=some _ from x)⟩
 | met f y=>exact ⟨_,(show h.get? a=some _ from x)⟩
 | ext φ=>obtain ⟨_,e,_⟩:=x; exact e
theorem HOk.none_of {P:Program} {w:World} {H:Hp} {h:Heap} {a:Addr} (x:HOk P w H h) (e:h.get? a=none):H a=none:=by
 cases q:H a with
 | none=>rfl
 | some u =>
  obtain ⟨ob,z⟩:=(x a u q).there
  rw [e] at z
  cases z
def Fy (X:Cx) (pins:List (Addr × Obj)) (H:Hp) (b:Addr):Prop :=
 H b=none/\b≠X.env.locals/\b∉X.fs/\(b∈X.ex\/X.s₀.heap.get? b=none)/\(∀ y c,X.env.cells.lookup y=some c->c≠b)/\∀ p∈X.pn++pins,p.1≠b
section
variable {X:Cx} {pins:List (Addr × Obj)} {σ:St} {H H':Hp} {s:Shared} {b x T:Addr} {h':Heap}
theorem yhh (I:Inv X pins σ H s) (hb:s.heap.get? b=none) (hn:H' b=none):Fy X pins H' b:=by
 refine ⟨hn,?_,?_,?_,?_,?_⟩
 ·rintro rfl
  obtain ⟨_,⟨_,_,_,e,_⟩,_⟩:=I.loc
  rw [hb] at e; cases e
 ·intro z
  obtain ⟨_,o,e,_⟩:=I.funs.mem z
  rw [hb] at e; cases e
 ·by_cases hx:b∈X.ex
  ·exact .inl hx
  ·refine .inr ?_
   cases q:X.s₀.heap.get? b with
   | none=>rfl
   | some o =>
    obtain ⟨_,e⟩:=I.base.there b o q hx
    rw [hb] at e; cases e
 ·rintro y c e rfl
  obtain ⟨_,_,q,_⟩:=I.cell y c e
  rw [hb] at q; cases q
 ·intro p hp z
  have q:=(I.pin p hp).1
  rw [z,hb] at q; cases q
theorem Inv.fly (I:Inv X pins σ H s) (hx:Fy X pins H x) (hT:Fy X pins H T)
  (keep:∀ b o,b≠x->b≠T->b∉frs X.stack->s.heap.get? b=some o->h'.get? b=some o)
  (slot:∀ b o,b∈frs X.stack->s.heap.get? b=some o->∃ sl,h'.get? b=some { o with slots:=sl }):Inv X pins σ H { s with heap:=h' }:=by
 have ent:∀ {y b o},Fy X pins H y->X.s₀.heap.get? b=some o->b∉X.ex->b≠y:=fun {y b o} hy e he z=>by
  subst z
  rcases hy.2.2.2.1 with q | q
  ·exact he q
  ·rw [e] at q; cases q
 have any:∀ b o,b≠x->b≠T->s.heap.get? b=some o->∃ sl,h'.get? b=some { o with slots:=sl }:=fun b o h1 h2 e=>by
  by_cases z:b∈frs X.stack
  ·exact slot b o z e
  ·exact ⟨o.slots,keep b o h1 h2 z e⟩
 have cellK:∀ y c,X.env.cells.lookup y=some c->∀ v,s.heap.IsCell c v->h'.IsCell c v:=fun y c e v ⟨o,ho,hd⟩=>by
  obtain ⟨sl,q⟩:=any c o (hx.2.2.2.2.1 y c e) (hT.2.2.2.2.1 y c e) ho
  exact ⟨_,q,hd⟩
 refine ⟨I.ok,I.os,I.bare,⟨fun b o e n hb he=>?_,fun b o e n hb he=>?_,I.base.free,fun b o e he=>?_,I.base.tups,I.base.frzs,I.base.tbls⟩,?_,fun y c e=>?_,I.free,I.freeC,fun p hp=>?_,fun b u e=>?_,I.len⟩
 ·refine keep b o (ent hx e he) (ent hT e he) (fun z=>?_) (I.base.keep b o e n hb he)
  rcases List.mem_cons.mp (I.stkSub b z) with q | q
  ·exact absurd q (Nat.ne_of_lt (Nat.lt_of_lt_of_le (Heap.lt_size e) I.ok.above))
  ·exact hb q
 ·obtain ⟨sl,e1⟩:=I.base.slot b o e n hb he
  obtain ⟨sl',e2⟩:=any b _ (ent hx e he) (ent hT e he) e1
  exact ⟨sl',e2⟩
 ·obtain ⟨o',e1⟩:=I.base.there b o e he
  obtain ⟨sl',e2⟩:=any b _ (ent hx e he) (ent hT e he) e1
  exact ⟨_,e2⟩
 ·obtain ⟨m,hn,hl⟩:=I.loc
  refine ⟨m,?_,fun i y v e1 e2 e3=>?_⟩
  ·obtain ⟨o,es,ep,ho,r⟩:=hn
   obtain ⟨sl,q⟩:=any _ o (Ne.symm hx.2.1) (Ne.symm hT.2.1) ho
   exact ⟨_,es,ep,q,r⟩
  ·obtain ⟨u,r,l⟩:=hl i y v e1 e2 e3
   refine ⟨u,r,?_⟩
   rcases l with l | ⟨k,c,e,z⟩
   ·exact .inl l
   ·exact .inr ⟨k,c,e,cellK y c e _ z⟩
 ·obtain ⟨v,z⟩:=I.cell y c e
  exact ⟨v,cellK y c e v z⟩
 ·obtain ⟨e,n,ne,nf,d⟩:=I.pin p hp
  refine ⟨keep p.1 p.2 (hx.2.2.2.2.2 p hp) (hT.2.2.2.2.2 p hp) (fun z=>?_) e,n,ne,nf,d⟩
  rcases List.mem_cons.mp (I.stkSub _ z) with q | q
  ·exact ne q
  ·exact nf q
 ·have tr:∀ c v,H c=some v->c≠x/\c≠T/\c∉frs X.stack:=fun c v q =>
   ⟨fun z=>(by rw [z,hx.1] at q; cases q),fun z=>(by rw [z,hT.1] at q; cases q),fun z=>(by rw [I.stkFree c z] at q; cases q)⟩
  refine (I.hok b u e).stay (fun c v hc q=>?_) (fun _ q=>q) fun _ _ q=>q
  obtain ⟨z1,z2,z3⟩:c≠x/\c≠T/\c∉frs X.stack:=by
   rcases hc with rfl | hc
   ·exact tr _ _ e
   ·exact tr _ _ hc
  exact keep c v z1 z2 z3 q
def Trd (h:Heap) (x T:Addr) (C fl:Value):Prop :=
 ∃ oe vs oT ts a0,h.get? x=some oe/\(oe.cls=C/\vs[0]?=some a0)/\oe.data=.fields vs/\vs[1]?=some (.ref T)/\T≠x/\h.get? T=some oT/\oT.data=.fields ts/\ts[3]?=some fl
def hid (s:Shared) (X:Cx) (x T:Addr):Heap:=W.hideAll s.heap (x :: T :: frs X.stack)
theorem ypk:(hid s X x T).StaysIn s.heap:=fun _ _ e=>W.of_hideAll _ e
theorem yyr:(hid s X x T).get? x=none:=W.hideAll_none _ (.head _)
theorem vaw:(hid s X x T).get? T=none:=W.hideAll_none _ (.tail _ (.head _))
theorem ypv (I:Inv X pins σ H s):s.heap.FunFrames (hid s X x T) X.stack :=
 W.funFrames_hide I.stack fun env he a ha=>.tail _ (.tail _ (List.mem_filterMap.mpr ⟨env,he,ha⟩))
theorem yw3 {C fl:Value} (t:Trd s.heap x T C fl):∃ a0,s.heap.TracedAtW (hid s X x T) x C a0 fl:=by
 obtain ⟨oe,vs,oT,ts,a0,h1,h2,h3,h4,h5,h6,h7,h8⟩:=t
 exact ⟨a0,oe,vs,T,oT,ts,h1,h2,h3,h4,vaw,h5,h6,h7,h8⟩
theorem yeb {C a0 fl:Value} (I:Inv X pins σ H s) (hx:Fy X pins H x) (hT:Fy X pins H T) (k1:(hid s X x T).StaysIn h') (k2:h'.FunFrames (hid s X x T) X.stack) (k3:h'.TracedAtW (hid s X x T) x C a0 fl)
  (k4:∀ b o,s.heap.get? b=some o->(∀ vs,o.data≠.fields vs)->∃ sl,h'.get? b=some { o with slots:=sl }) :
  Inv X pins σ H { s with heap:=h' }/\∃ T',Fy X pins H T'/\Trd h' x T' C fl:=by
 refine ⟨I.fly hx hT (fun b o n1 n2 n3 e=>k1 b o (W.hideAll_get _ e fun z=>?_)) fun b o hb e=>?_,?_⟩
 ·rcases List.mem_cons.mp z with z | z
  ·exact n1 z
  ·rcases List.mem_cons.mp z with z | z
   ·exact n2 z
   ·exact n3 z
 ·obtain ⟨_,o',e',nf⟩:=I.stack.mem hb
  rw [e] at e'; cases e'
  exact k4 b o e nf
 ·obtain ⟨oe,vs,T',oT,ts,h1,h2,h3,h4,h5,h6,h7,h8,h9⟩:=k3
  refine ⟨T',?_,oe,vs,oT,ts,a0,h1,h2,h3,h4,h6,h7,h8,h9⟩
  by_cases q:T'=T
  ·rw [q]; exact hT
  ·cases e:s.heap.get? T' with
   | none=>exact yhh I e (I.hok.none_of e)
   | some o =>
    have z:T'∈frs X.stack:=Classical.byContradiction fun z=>by
     have:=W.hideAll_get (x :: T :: frs X.stack) e (fun m=>by
      rcases List.mem_cons.mp m with m | m
      ·exact h6 m
      ·rcases List.mem_cons.mp m with m | m
       ·exact q m
       ·exact z m)
     rw [show (W.hideAll s.heap (x :: T :: frs X.stack)).get? T'=none from h5] at this
     cases this
    obtain ⟨_,o',e',nf⟩:=k2.mem z
    rw [h7] at e'; cases e'
    exact absurd h8 (nf _)
end
def CXe (P:Program) (w:World):CXT:=fun outer H s E e s'=>∃ x T C H',e=.ref x/\s'.os=s.os/\AllBare s'.gens/\Un (frs outer) [] H H' s.heap s'.heap/\HOk P w H' s'.heap /\
 (H' x=none/\s.heap.get? x=none)/\(H' T=none/\s.heap.get? T=none)/\Trd s'.heap x T C .none/\E C none H'
def yet (X:Cx) (Ex:St->XK):Prop:=∀ (pins:List (Addr × Obj)) (σ:St) (H:Hp) (s':Shared) (x T:Addr) (C:Value),Inv X pins σ H s'->Fy X pins H x->Fy X pins H T->Trd s'.heap x T C .none->Ex σ C none H->X.xe (.ref x) s'
theorem v7 {P:Program} {w:World} {K:W.Frag} {mg:Str->Option Value} {base:Heap} {N:List Str} {qual:Str} {scope:Scope} {f:Addr} {cd:Value} {A:Around} {outer:List Env} {s:Shared} {H:Hp} {E:XK} :
  yet (wa (CXe P w) P w K mg base N qual scope f cd A outer s H E) (fun _=>E):=by
 intro pins σ H1 s' x T C I hx hT tr q
 show wpAny _ _ (leaving _ _) _ _ _
 obtain ⟨a0,ta⟩:=yw3 (X:=wa (CXe P w) P w K mg base N qual scope f cd A outer s H E) tr
 refine wpAny_leaving_nextW (base:=hid s' (wa (CXe P w) P w K mg base N qual scope f cd A outer s H E) x T) (L:=s.heap.objs.size) I.ok.frames (ypv I) rfl ta ypk yyr fun h' ⟨k1,k2,k3,k4⟩=>?_
 obtain ⟨I',T',hT',t'⟩:=yeb I hx hT k1 k2 k3 k4
 have new:∀ {b},Fy (wa (CXe P w) P w K mg base N qual scope f cd A outer s H E) pins H1 b->H1 b=none/\s.heap.get? b=none:=fun hb=>⟨hb.1,hb.2.2.2.1.resolve_left (by intro z; cases z)⟩
 exact ⟨x,T',C,H1,rfl,I'.os,I'.bare,I'.base,I'.hok,new hx,new hT',t',q⟩
theorem ym2 {P:Program} {w:World} {K:W.Frag} {mg:Str->Option Value} {base:Heap} {N:List Str} {qual:Str} {scope:Scope} {f:Addr} {cd:Value} {A:Around} {outer:List Env} {s:Shared} {H:Hp} {E:XK}
  {pins:List (Addr × Obj)} {σ:St} {H1:Hp} {s1:Shared} {h':Heap} {x:Addr} {C:Value} {vs:List Value} (I:Inv (wa (CXe P w) P w K mg base N qual scope f cd A outer s H E) pins σ H1 s1) (m:Heap.MadeExcOf s1.heap h' x C vs) (q:E C none H1) :
  (wa (CXe P w) P w K mg base N qual scope f cd A outer s H E).xe (.ref x) { s1 with heap:=h' }:=by
 obtain ⟨t,he,_,_⟩:=m.there
 have hx:Fy (wa (CXe P w) P w K mg base N qual scope f cd A outer s H E) pins H1 x:=yhh I m.new (I.hok.none_of m.new)
 have I1:Inv (wa (CXe P w) P w K mg base N qual scope f cd A outer s H E) pins σ H1 { s1 with heap:=h' }:=I.kept (t':=s1.toks) m.keeps
 show wpAny _ _ (leaving _ _) _ _ _
 refine wpAny_leaving_firstW (base:=hid { s1 with heap:=h' } (wa (CXe P w) P w K mg base N qual scope f cd A outer s H E) x x) (L:=s.heap.objs.size) (a0:=.ref t) I1.ok.frames (ypv I1) rfl he ypk yyr rfl rfl rfl fun h'' ⟨k1,k2,k3,k4⟩=>?_
 obtain ⟨I',T',hT',t'⟩:=yeb I1 hx hx k1 k2 k3 k4
 have new:∀ {b},Fy (wa (CXe P w) P w K mg base N qual scope f cd A outer s H E) pins H1 b->H1 b=none/\s.heap.get? b=none:=fun hb=>⟨hb.1,hb.2.2.2.1.resolve_left (by intro z; cases z)⟩
 exact ⟨x,T',C,H1,rfl,I'.os,I'.bare,I'.base,I'.hok,new hx,new hT',t',q⟩
end L2
namespace L2
open PySem PySem.Spec PyProof.Rows
def ypi (sp:Sp) (dvs:List V) (Ex:St->XK) (t:TA):TE:=fun σ H Q=>t σ H fun vs H1=>sp (vs++dvs) H1 Q (Ex σ)
def yek (C:Addr) (m:Str) (sp:Sp) (dvs:List V) (Ex:St->XK) (ta:TE) (t:TA):TE:=fun σ H Q=>ta σ H fun x H1=>∃ a dx fs,x=.ref a/\H1 a=some (.ins C dx fs)/\fs.lookup m=none /\
 t σ H1 fun vs H2=>sp (x :: (vs++dvs)) H2 Q (Ex σ)
def yoi (C:Addr) (sp:Sp) (dvs:List V) (Ex:St->XK) (t:TA):TE:=fun σ H Q=>t σ H fun vs H1=>∀ x dx,H1 x=none->H1 dx=none->dx≠x ->
 sp (.ref x :: (vs++dvs)) (upd (upd H1 dx (.own x)) x (.ins C dx [])) (fun v H2=>v=.non/\Q (.ref x) H2) (Ex σ)
section
variable {X:Cx} {k:Nat} {f C:Addr} {fd:FuncData} {ps:List Str} {sp:Sp} {dvs:List V} {ds:List Value} {Ex:St->XK} {x m:Str} {p pos apos:Pos} {e o:Expr} {es:List Expr} {ta:TE} {t:TA}
theorem Inv.came {pins:List (Addr × Obj)} {σ:St} {H:Hp} {s s':Shared} {v:Value} (I:Inv X pins σ H s) (hc:yet X Ex) (h:CXe X.prog X.w X.stack H s (Ex σ) v s'):X.xe v s':=by
 obtain ⟨y,T,D,H',rfl,os,bare,un,hok,hy,hT,tr,q⟩:=h
 exact hc pins σ H' s' y T D (I.call' os un hok bare fun b z=>absurd z (by simp)) (yhh I hy.2 hy.1) (yhh I hT.2 hT.1) tr q
theorem yku {pins:List (Addr × Obj)} {σ:St} {H:Hp} {s:Shared} {Q:VK} {us:List Value} {vs:List V} (F:wc X.prog X.w X.K X.mg X.base (CXe X.prog X.w) k f fd ps sp) (hr:ja k X.A) (hb:xq X.K fd ps ds) (hd:wu dvs ds) (hc:yet X Ex)
  (I:Inv X pins σ H s) (r:wu vs us) (h:sp (vs++dvs) H Q (Ex σ)):wpAny (model X.prog X.w) X.A (call (.ref f) us) (EP X pins σ Q) X.xe s:=by
 have r2:wu (vs++dvs) (us++ds):=r.append hd
 have hl:(us++ds).length=ps.length:=by rw [<- r2.length]; exact F.len _ _ _ _ h
 refine wpAny_call (codeAny_mono (F.run X.A X.stack s H ⟨us,[]⟩ (us++ds) (vs++dvs) Q (Ex σ) hr I.env0 (hb s us I.kIn hl) r2 h) fun r s' hq=>?_)
 cases r with
 | error e=>exact I.came hc hq
 | ok fl =>
  cases fl with
  | ret u=>exact I.after hq
  | next=>exact False.elim hq
  | brk=>exact False.elim hq
  | cont=>exact False.elim hq
theorem vk (F:wc X.prog X.w X.K X.mg X.base (CXe X.prog X.w) k f fd ps sp) (hr:ja k X.A) (hg:Gl X x) (hm:X.mg x=some (.ref f)) (hk:W.keepIn X.K (.ref f)=true) (hb:xq X.K fd ps ds) (hd:wu dvs ds) (hc:yet X Ex)
  (ha:PA X (e :: es) t) (hdb:(x == ("__debug__":Str))=false:=by decide) (he:starEach (e :: es) X.env=(false,eval e X.env) :: starEach es X.env:=by rfl) (hpl:(backTo pos (starEach es X.env)).any (·.1)=false:=by rfl) :
  PE X (.Call (.Name x p) (e :: es) [] pos) (ypi sp dvs Ex t):=by
 intro pins s σ H Q I h
 refine wpAny_Call_Name_kw (jc I hg hm ?_ hdb)
 refine W.callWith_K (h₀:=X.base) I.ok.mod.kin hk (thn (ha pos pins s σ H _ I h) fun us s1 ⟨vs,H1,I1,r,q⟩=>⟨I1.kIn,?_⟩) he hpl
 exact yku F hr hb hd hc I1 r q
theorem zb {pl:Sem Bool} (he:PE X o ta) (c:Cls X.K C) (hm:yuk X.K C m f) (F:wc X.prog X.w X.K X.mg X.base (CXe X.prog X.w) k f fd ps sp) (hr:ja k X.A) (hb:xq X.K fd ps ds) (hd:wu dvs ds) (hc:yet X Ex) (ha:PA X (e :: es) t)
  (hst:starEach (e :: es) X.env=(false,eval e X.env) :: starEach es X.env:=by rfl) (hpl:(backTo pos (starEach es X.env)).any (·.1)=false:=by rfl)
  (ht:eval (.Call (.Attribute o m apos) (e :: es) [] pos) X.env=(do
   let ov <- eval o X.env
   standAt apos.atName
   let (f,first) <- holding [ov] (getMethod ov m pl)
   callWith pos f first (backTo pos (starEach (e :: es) X.env)) (backToKw pos (keywordEach [] X.env))):=by rfl) :
  PE X (.Call (.Attribute o m apos) (e :: es) [] pos) (yek C m sp dvs Ex ta t):=by
 intro pins s σ H Q I h
 refine W.methodCall_KW (pl:=pl) (thn (he pins s σ H _ I h) fun u s1 ⟨x,H1,I1,rx,a,dx,fs,ex,ea,l,q⟩=>?_) ht
 subst ex
 obtain rfl:u=Value.ref a:=rx
 refine j5 I1 ea c hm l ?_
 refine W.callWith_K (first:=[.ref a]) (h₀:=X.base) I.ok.mod.kin hm.kp (thn (ha pos pins s1 σ H1 _ I1 q) fun us s2 ⟨vs,H2,I2,r,q2⟩=>⟨I2.kIn,?_⟩) hst hpl
 exact yku (us:=.ref a :: us) (vs:=.ref a :: vs) F hr hb hd hc I2 (.cons rfl r) q2
theorem yj3 {pins:List (Addr × Obj)} {σ:St} {H:Hp} {s:Shared} {Q:VK} {us:List Value} {vs:List V} (M:Mk X.K C f) (F:wc X.prog X.w X.K X.mg X.base (CXe X.prog X.w) k f fd ps sp) (hr:ja (k+1) X.A) (hb:xq X.K fd ps ds) (hd:wu dvs ds)
  (hc:yet X Ex) (I:Inv X pins σ H s) (r:wu vs us)
  (h:∀ x dx,H x=none->H dx=none->dx≠x->sp (.ref x :: (vs++dvs)) (upd (upd H dx (.own x)) x (.ins C dx [])) (fun v H2=>v=.non/\Q (.ref x) H2) (Ex σ)) :
  wpAny (model X.prog X.w) X.A (call (.ref C) us) (EP X pins σ Q) X.xe s:=by
 have hq:=h (s.heap.objs.size+1) s.heap.objs.size (I.hok.fresh (Nat.le_succ _)) (I.hok.fresh (Nat.le_refl _)) (Nat.ne_of_lt (Nat.lt_succ_self _))
 have I2:=Inv.made (C:=C) I
 have r2:wu (V.ref (s.heap.objs.size+1) :: (vs++dvs)) (Value.ref (s.heap.objs.size+1) :: (us++ds)):=.cons rfl (r.append hd)
 have hl:(Value.ref (s.heap.objs.size+1) :: us++ds).length=ps.length:=by
  have e:=r2.length
  rw [F.len _ _ _ _ hq] at e
  exact e.symm
 refine wpAny_call (ygc (f:=f) I.kIn M.makes M.init (beq_iff_eq.mp M.fn) (codeAny_mono (F.run _ X.stack _ _ ⟨Value.ref (s.heap.objs.size+1) :: us,[]⟩ (Value.ref (s.heap.objs.size+1) :: (us++ds)) _ _ (Ex σ) (hr.make C us [])
  (I2.env0.make C us []) (hb _ (Value.ref (s.heap.objs.size+1) :: us) I2.kIn hl) r2 hq) fun r s' hq'=>?_))
 cases r with
 | error e=>exact I2.came hc hq'
 | ok fl =>
  cases fl with
  | ret u =>
   obtain ⟨v,H',I3,rv,ev,q3⟩:=I2.after hq'
   subst ev
   exact ⟨rv,⟨V.ref (s.heap.objs.size+1),H',I3,rfl,q3⟩⟩
  | next=>exact False.elim hq'
  | brk=>exact False.elim hq'
  | cont=>exact False.elim hq'
theorem yar (M:Mk X.K C f) (F:wc X.prog X.w X.K X.mg X.base (CXe X.prog X.w) k f fd ps sp) (hr:ja (k+1) X.A) (hg:Gl X x) (hm:X.mg x=some (.ref C)) (hb:xq X.K fd ps ds) (hd:wu dvs ds) (hc:yet X Ex)
  (ha:PA X (e :: es) t) (hdb:(x == ("__debug__":Str))=false:=by decide) (he:starEach (e :: es) X.env=(false,eval e X.env) :: starEach es X.env:=by rfl) (hpl:(backTo pos (starEach es X.env)).any (·.1)=false:=by rfl) :
  PE X (.Call (.Name x p) (e :: es) [] pos) (yoi C sp dvs Ex t):=by
 intro pins s σ H Q I h
 refine wpAny_Call_Name_kw (jc I hg hm ?_ hdb)
 refine W.callWith_K (h₀:=X.base) I.ok.mod.kin M.kp (thn (ha pos pins s σ H _ I h) fun us s1 ⟨vs,H1,I1,r,q⟩=>⟨I1.kIn,?_⟩) he hpl
 exact yj3 M F hr hb hd hc I1 r q
end
theorem PS.nox {X:Cx} {st:Stmt} {t:TS} (h:PS X.nox st t):PS X st t:=fun pins s σ H D I hw =>
 wpAny_mono (h pins s σ H D (I.wish _) hw) (fun _ _ q=>q.unwish) fun _ _ z=>False.elim z
section
variable {P:Program} {w:World} {K:W.Frag} {mg:Str->Option Value} {base:Heap}
theorem wf {X:Cx}:yet X (fun _ _ _ _=>False):=fun _ _ _ _ _ _ _ _ _ _ _ q=>q.elim
theorem Fun.okE {x qual:Str} {st:Stmt} {f:Addr} {fd:FuncData} {N ps:List Str} {k:Nat} {sp:Sp} (F:Fun K x qual st f fd) (S:yn N ps (yi st)) (len:∀ vs H Q E,sp vs H Q E->vs.length=ps.length)
  (hbody:∀ (cdv:Value) (A:Around) (outer:List Env) (s:Shared) (H:Hp) (vs:List V) (Q:VK) (E:XK),ja k (A.deeper (envOfC qual (yi st) s.heap.objs.size f cdv))->sp vs H Q E ->
   ∃ t,PSs (wa (CXe P w) P w K mg base N qual (yi st) f cdv A outer s H E) (vx st) t/\t { nx:=fun _ H'=>Q .non H',rt:=Q } (yae N vs) H):wc P w K mg base (CXe P w) (k+1) f fd ps sp:=by
 obtain ⟨oc,od,kV,doc,pm,an,cdv,ct,osl,rfl,lk,hcd⟩:=F.ex
 exact yn7 lk hcd S len fun A outer s H vs Q E hr hsp=>hbody cdv A outer s H vs Q E hr hsp
end
abbrev bmV:List Value:=[.type "ValueError",.type "Exception",.type "BaseException",.type "object"]
abbrev XMk (K:W.Frag) (C:Addr):Prop:=W.excIn K C bmV "ValueError.__new__"=true
theorem yr4 {K:W.Frag} {h:Heap} {C:Addr} {bmB:List Value} {newId:String} (X:K.In h) (q:W.excIn K C bmB newId=true) :
  ∃ bm N nm qn bs hdct sn sub ab col dd k0 k1 k2 k3 k5 mN,h.get? C=some (excClassObj nm qn C N bs bm hdct sn sub ab col dd k0 k1 k2 k3 k5 newId)/\h.Ns N mN/\mN "__init__"=none/\OwnTail h bmB bm:=by
 unfold W.excIn at q
 split at q
 ·rename_i dd cd sl ho
  split at q
  ·rename_i C' bm k0 k1 k2 k3 n k5 hm hs
   simp only [Bool.and_eq_true,beq_iff_eq,Bool.not_eq_true'] at q
   obtain ⟨⟨⟨⟨⟨rfl,rfl⟩,hdel⟩,ht⟩,hok⟩,hni⟩:=q
   obtain ⟨nm,bs,mro,ns,qn,hd,sn,sub,ab,col,del⟩:=cd
   dsimp only at hm hdel hok hni
   subst hm hdel
   obtain ⟨l⟩:=sl
   have hs:l=[k0,k1,k2,k3,some (.builtin n),k5]:=hs
   subst hs
   exact ⟨bm,ns,nm,qn,bs,hd,sn,sub,ab,col,dd,k0,k1,k2,k3,k5,_,X _ _ ho,.of_isNs (W.isNs_of_in X hok),W.nsMap_none_of_in X hok hni,W.tail_of_in X ht⟩
  ·cases q
 ·cases q
def yo9 (E:XK) (C:Addr) (t:TA):TS:=fun _ σ H=>t σ H fun vs H1=>vs.length <= sizeLine/\E (.ref C) none H1
theorem x3 {P:Program} {w:World} {K:W.Frag} {mg:Str->Option Value} {base:Heap} {N:List Str} {qual:Str} {scope:Scope} {f:Addr} {cd:Value} {A:Around} {outer:List Env} {s:Shared} {H:Hp} {E:XK}
  {C:Addr} {x:Str} {np cpos pos:Pos} {e₀:Expr} {yav:List Expr} {t:TA} (hg:Gl (wa (CXe P w) P w K mg base N qual scope f cd A outer s H E) x) (hm:mg x=some (.ref C)) (hC:XMk K C)
  (ha:PA (wa (CXe P w) P w K mg base N qual scope f cd A outer s H E) (e₀ :: yav) t)
  (he:starEach (e₀ :: yav) (envOfC qual scope s.heap.objs.size f cd)=(false,eval e₀ (envOfC qual scope s.heap.objs.size f cd)) :: starEach yav (envOfC qual scope s.heap.objs.size f cd):=by rfl)
  (hplain:(backTo cpos (starEach yav (envOfC qual scope s.heap.objs.size f cd))).any (·.1)=false:=by rfl) (hdb:(x == ("__debug__":Str))=false:=by decide) :
  PS (wa (CXe P w) P w K mg base N qual scope f cd A outer s H E) (.Raise (some (.Call (.Name x np) (e₀ :: yav) [] cpos)) none pos) (yo9 E C t):=by
 intro pins s1 σ H1 D I h
 obtain ⟨tl,NN,nm,q,bs,hdct,sn,sub,ab,col,dd,k0,k1,k2,k3,k5,mN,hCo,hN,hni,T⟩:=yr4 I.mod.kin hC
 refine wpAny_Raise_call_subT (C:=C) (nm:=nm) (q:=q) (N:=NN) (bs:=bs) (bm:=tl) (hdct:=hdct) (sn:=sn) (sub:=sub) (ab:=ab) (col:=col) (dd:=dd) (k0:=k0) (k1:=k1) (k2:=k2) (k3:=k3) (k5:=k5)
  F.excBase_ValueError (mN:=mN) (T.hasType F.excBase_ValueError.hasBase) (I.ok.hd rfl) (by
   show (backTo cpos (starEach (e₀ :: yav) (envOfC qual scope s.heap.objs.size f cd))).any (·.1)=false
   rw [he]; show (false || (backTo cpos (starEach yav (envOfC qual scope s.heap.objs.size f cd))).any (·.1))=false; rw [hplain]; rfl) hni (jc I hg hm ⟨rfl,?_⟩ hdb)
 have h2:=ha cpos pins s1 σ H1 _ I h
 have he':starEach (e₀ :: yav) (wa (CXe P w) P w K mg base N qual scope f cd A outer s H E).env=(false,eval e₀ (wa (CXe P w) P w K mg base N qual scope f cd A outer s H E).env) :: starEach yav (wa (CXe P w) P w K mg base N qual scope f cd A outer s H E).env:=he
 rw [he'] at h2 ⊢
 refine Calls.evalArgs_plain (wpAny_mono h2 (fun vs s₂ ⟨xs,H2,I2,r,hl,q2⟩=>⟨rfl,by rw [<- r.length]; exact hl,I2.bk _ _ hCo,hN.keeps I2.bk,T.keeps I2.bk,fun h' y m=>ym2 I2 m q2⟩) fun _ _ y=>y)
end L2
namespace L2
open PySem PySem.Spec PyProof.Rows
section
variable {X:Cx} {pins:List (Addr × Obj)} {σ:St} {H:Hp} {s:Shared} {x T:Addr}
abbrev Cx.pnd (X:Cx) (pn:List (Addr × Obj)):Cx:={ X with pn:=pn }
def XT (Y:Cx) (Ex:St->XK) (e:Value) (s':Shared):Prop:=∃ pins σ H x T C,e=.ref x/\Inv Y pins σ H s'/\Fy Y pins H x/\Fy Y pins H T/\Trd s'.heap x T C .none/\Ex σ C none H
abbrev Cx.tr (X:Cx) (pn:List (Addr × Obj)) (Ex:St->XK):Cx:=(X.pnd pn).wish (XT (X.pnd pn) Ex)
end
def yhk.un (D:yhk) (i:Nat):yhk:=⟨fun σ H=>D.nx (σ.set i none) H,D.rt,fun σ H=>D.bk (σ.set i none) H,fun σ H=>D.ct (σ.set i none) H⟩
section
variable {X:Cx} {body suite:List Stmt} {b₀:Stmt} {tx n:Str} {np hpos pos:Pos} {D:Addr} {i:Nat} {tb:(St->XK)->TS} {ts:TS}
end
section
variable {σ:St} {H:Hp} {Q:VK} {tr:TA} {ta:TE} {nx:St->Hp->Prop} {rt:VK} {bk ct:St->Hp->Prop} {ts:TS}
theorem yqn {sp:Sp} {dvs:List V} {Ex:St->XK} (h:tr σ H fun vs H1=>sp (vs++dvs) H1 Q (Ex σ)):ypi sp dvs Ex tr σ H Q:=h
theorem yde {C:Addr} {m:Str} {sp:Sp} {dvs:List V} {Ex:St->XK} (h:ta σ H fun x H1=>∃ a dx fs,x=.ref a/\H1 a=some (.ins C dx fs)/\fs.lookup m=none/\tr σ H1 fun vs H2=>sp (x :: (vs++dvs)) H2 Q (Ex σ)):yek C m sp dvs Ex ta tr σ H Q:=h
theorem yrb {C:Addr} {sp:Sp} {dvs:List V} {Ex:St->XK} (h:tr σ H fun vs H1=>∀ x dx,H1 x=none->H1 dx=none->dx≠x->sp (.ref x :: (vs++dvs)) (upd (upd H1 dx (.own x)) x (.ins C dx [])) (fun v H2=>v=.non/\Q (.ref x) H2) (Ex σ)):yoi C sp dvs Ex tr σ H Q:=h
theorem ysb {E:XK} {C:Addr} {D:yhk} (h:tr σ H fun vs H1=>vs.length <= sizeLine/\E (.ref C) none H1):yo9 E C tr D σ H:=h
end
end L2
namespace L2
open PySem PySem.Spec PyProof.Rows
section
variable {κ:Type} [DecidableEq κ]
def yan (kvs:List (κ × V)) (k:κ):Option V:=(kvs.find? fun kv=>decide (kv.1=k)).map (·.2)
def yex (kvs:List (κ × V)) (k:κ) (v:V):List (κ × V) :=
 if (kvs.any fun kv=>decide (kv.1=k))=true then kvs.map (fun kv=>if kv.1=k then (kv.1,v) else kv) else kvs++[(k,v)]
theorem xm {p:κ × V} {r:List (κ × V)} {k:κ} (e:p.1=k):yan (p :: r) k=some p.2:=by simp [yan,List.find?_cons,e]
theorem xl {p:κ × V} {r:List (κ × V)} {k:κ} (e:¬ p.1=k):yan (p :: r) k=yan r k:=by simp [yan,List.find?_cons,e]
theorem jt (k:κ):∀ kvs:List (κ × V),(kvs.any fun kv=>decide (kv.1=k))=(yan kvs k).isSome
 | []=>rfl
 | p :: r=>by
  rw [List.any_cons]
  by_cases e:p.1=k
  ·simp only [xm e,decide_eq_true e,Bool.true_or,Option.isSome_some]
  ·rw [xl e,decide_eq_false e,Bool.false_or]; exact jt k r
theorem ygv (k j:κ) (y:V):∀ kvs:List (κ × V),yan (kvs.map fun kv=>if kv.1=k then (kv.1,y) else kv) j=(yan kvs j).map fun x=>if j=k then y else x
 | []=>rfl
 | p :: r=>by
  have ih:=ygv k j y r
  rw [List.map_cons]
  by_cases h:p.1=k
  ·rw [if_pos h]
   by_cases e:p.1=j
   ·rw [xm (p:=(p.1,y)) e,xm e,Option.map_some,if_pos (e.symm.trans h)]
   ·rw [xl (p:=(p.1,y)) e,xl e,ih]
  ·rw [if_neg h]
   by_cases e:p.1=j
   ·rw [xm (p:=p) e,xm e,Option.map_some,if_neg (fun z=>h (e.trans z))]
   ·rw [xl (p:=p) e,xl e,ih]
theorem yef (k j:κ) (y:V):∀ kvs:List (κ × V),yan kvs k=none->yan (kvs++[(k,y)]) j=if j=k then some y else yan kvs j
 | [],_=>by
  by_cases e:k=j
  ·rw [if_pos e.symm]; exact xm (p:=(k,y)) e
  ·rw [if_neg (fun z=>e z.symm)]; exact xl (p:=(k,y)) e
 | p :: r,hn=>by
  rw [List.cons_append]
  have hk:¬ p.1=k:=fun z=>by rw [xm z] at hn; cases hn
  rw [xl hk] at hn
  have ih:=yef k j y r hn
  by_cases e:p.1=j
  ·rw [xm e,xm e,if_neg (fun z=>hk (e.trans z))]
  ·rw [xl e,xl e,ih]
theorem yc8 (kvs:List (κ × V)) (k j:κ) (y:V):yan (yex kvs k y) j=if j=k then some y else yan kvs j:=by
 unfold yex
 by_cases a:(kvs.any fun kv=>decide (kv.1=k))=true
 ·rw [if_pos a,ygv]
  rw [jt] at a
  by_cases e:j=k
  ·obtain ⟨x,hx⟩:=Option.isSome_iff_exists.mp a
   rw [if_pos e,e,hx,Option.map_some,if_pos rfl]
  ·rw [if_neg e]
   cases yan kvs j with
   | none=>rfl
   | some x=>rw [Option.map_some,if_neg e]
 ·rw [if_neg a]
  refine yef k j y kvs ?_
  rw [jt] at a
  cases q:yan kvs k with
  | none=>rfl
  | some x=>rw [q] at a; exact (a rfl).elim
theorem yba (kvs:List (κ × V)) (k:κ) (v:V):(yex kvs k v).length <= kvs.length+1:=by
 unfold yex
 split
 ·rw [List.length_map]; omega
 ·rw [List.length_append,List.length_cons,List.length_nil]; omega
theorem yne {kvs:List (κ × V)} {k:κ} (v:V) (h:yan kvs k=none):yex kvs k v=kvs++[(k,v)]:=by
 unfold yex
 rw [jt,h]
 exact if_neg (by decide)
theorem yew.isSome_eq {o:Option V} {u:Option Value} (r:yew o u):o.isSome=u.isSome:=by
 cases o with
 | none=>cases u with
  | none=>rfl
  | some _=>exact (show False from r).elim
 | some _=>cases u with
  | none=>exact (show False from r).elim
  | some _=>rfl
theorem KV.val {kvs:List (κ × V)} {vs:List (κ × Value)} (r:KV kvs vs) (k:κ):yew (yan kvs k) (valueAt vs k):=by
 unfold KV at r
 induction r with
 | nil=>exact True.intro
 | @cons p q ps qs h t ih =>
  obtain ⟨h1,h2⟩:=h
  by_cases e:p.1=k
  ·have e':q.1=k:=h1.symm.trans e
   have b:valueAt (q :: qs) k=some q.2:=by simp [valueAt,List.find?_cons,e']
   rw [xm e,b]; exact h2
  ·have e':¬ q.1=k:=fun z=>e (h1.trans z)
   have b:valueAt (q :: qs) k=valueAt qs k:=by simp [valueAt,List.find?_cons,e']
   rw [xl e,b]; exact ih
theorem KV.any {kvs:List (κ × V)} {vs:List (κ × Value)} (r:KV kvs vs) (k:κ):(kvs.any fun kv=>decide (kv.1=k))=vs.any fun kv=>decide (kv.1=k):=by
 unfold KV at r
 induction r with
 | nil=>rfl
 | cons h t ih=>rw [List.any_cons,List.any_cons,ih,h.1]
theorem KV.repl {kvs:List (κ × V)} {vs:List (κ × Value)} (r:KV kvs vs) (k:κ) {y:V} {u:Value} (ry:xk y u) :
  KV (kvs.map fun kv=>if kv.1=k then (kv.1,y) else kv) (vs.map fun kv=>if kv.1=k then (kv.1,u) else kv):=by
 unfold KV at r ⊢
 induction r with
 | nil=>exact .nil
 | @cons p q ps qs h t ih =>
  rw [List.map_cons,List.map_cons]
  refine .cons ?_ ih
  obtain ⟨h1,h2⟩:=h
  by_cases e:p.1=k
  ·rw [if_pos e,if_pos (h1.symm.trans e)]; exact ⟨h1,ry⟩
  ·rw [if_neg e,if_neg (fun z=>e (h1.trans z))]; exact ⟨h1,h2⟩
theorem KV.put {kvs:List (κ × V)} {vs:List (κ × Value)} (r:KV kvs vs) (k:κ) {y:V} {u:Value} (ry:xk y u):KV (yex kvs k y) (stored vs k u):=by
 unfold yex stored
 rw [r.any k]
 by_cases e:(vs.any fun kv=>decide (kv.1=k))=true
 ·rw [if_pos e,if_pos e]; exact r.repl k ry
 ·rw [if_neg e,if_neg e]; exact Paired.snoc r ⟨rfl,ry⟩
theorem KV.length {kvs:List (κ × V)} {vs:List (κ × Value)} (r:KV kvs vs):kvs.length=vs.length:=Paired.length r
end
theorem ynz {P:Program} {w:World} {k:Key} {u:Value} (r:xk (kV k) u):(xy P w).is k u=true:=by
 cases k with
 | inl i=>obtain ⟨t,e⟩:=(show ∃ t,u=Value.int i t from r); subst e; exact ye0 P w i t
 | inr x=>obtain ⟨t,e⟩:=(show ∃ t,u=Value.str x t from r); subst e; exact yey P w x t
theorem yd6 {P:Program} {w:World}:∀ {ks:List Key} {us:List Value},wu (ks.map kV) us->ItemsAre (xy P w) ks us
 | [],_,r=>by rw [List.map_nil] at r; cases r; exact .nil
 | k :: ks,_,r=>by
  rw [List.map_cons] at r
  cases r with
  | cons h t=>exact .cons (ynz h) (yd6 t)
abbrev KT (H:Hp):List (List Key × V)->List (List Key × Addr × Value)->Prop:=Paired fun p q=>p.1=q.1/\H q.2.1=some (.tup (p.1.map kV))/\xk p.2 q.2.2
theorem KT.val {H:Hp} {kvs:List (List Key × V)} {xs:List (List Key × Addr × Value)} (r:KT H kvs xs) (k:List Key):yew (yan kvs k) ((atKey xs k).map (·.2)):=by
 induction r with
 | nil=>exact True.intro
 | @cons p q ps qs h t ih =>
  obtain ⟨h1,_,h2⟩:=h
  by_cases e:p.1=k
  ·have e':q.1=k:=h1.symm.trans e
   have b:atKey (q :: qs) k=some q.2:=by simp [atKey,List.find?_cons,e']
   rw [xm e,b]; exact h2
  ·have e':¬ q.1=k:=fun z=>e (h1.trans z)
   have b:atKey (q :: qs) k=atKey qs k:=by simp [atKey,List.find?_cons,e']
   rw [xl e,b]; exact ih
theorem KT.repl {H:Hp} {kvs:List (List Key × V)} {xs:List (List Key × Addr × Value)} (r:KT H kvs xs) (k:List Key) {y:V} {u:Value} (ry:xk y u) :
  KT H (kvs.map fun kv=>if kv.1=k then (kv.1,y) else kv) (xs.map (putAt k u)):=by
 induction r with
 | nil=>exact .nil
 | @cons p q ps qs h t ih =>
  rw [List.map_cons,List.map_cons]
  refine .cons ?_ ih
  obtain ⟨h1,h2,h3⟩:=h
  unfold putAt
  by_cases e:p.1=k
  ·rw [if_pos e,if_pos (h1.symm.trans e)]; exact ⟨h1,h2,ry⟩
  ·rw [if_neg e,if_neg (fun z=>e (h1.trans z))]; exact ⟨h1,h2,h3⟩
theorem KT.put {H:Hp} {kvs:List (List Key × V)} {xs:List (List Key × Addr × Value)} (r:KT H kvs xs) (k:List Key) {b:Addr} {y:V} {u:Value} (hb:H b=some (.tup (k.map kV))) (ry:xk y u) :
  KT H (yex kvs k y) (storedH xs k b u):=by
 have e:(kvs.any fun kv=>decide (kv.1=k))=(atKey xs k).isSome:=by
  rw [jt,(r.val k).isSome_eq,Option.isSome_map]
 unfold yex storedH
 rw [e]
 by_cases q:(atKey xs k).isSome=true
 ·rw [if_pos q,if_pos q]; exact r.repl k ry
 ·rw [if_neg q,if_neg q]; exact Paired.snoc r ⟨rfl,hb,ry⟩
theorem KT.keeps {H H':Hp} {kvs:List (List Key × V)} {xs:List (List Key × Addr × Value)} (r:KT H kvs xs) (ht:∀ b ys,H b=some (.tup ys)->H' b=some (.tup ys)):KT H' kvs xs :=
 Paired.mapP r fun _ _ z=>⟨z.1,ht _ _ z.2.1,z.2.2⟩
section
variable {P:Program} {w:World} {H:Hp} {h:Heap} {a:Addr}
theorem yzc {u:HO} (ok:HOk P w H h) (e:Rd H a u):xr P w H h a u:=e.ok ok
theorem yn4 {kvs:List (Key × V)} (ok:HOk P w H h) (e:Rd H a (.dK kvs)):kvs.length <= sizeLine/\(a == sysModules)=false/\∃ vs,KV kvs vs/\h.DictOf (xy P w) a vs :=
 show xr P w H h a (.dK kvs) from yzc ok e
theorem yz5 {kvs:List (Key × V)} (ok:HOk P w H h) (e:H a=some (.dK kvs)):kvs.length <= sizeLine/\(a == sysModules)=false/\∃ vs,KV kvs vs/\h.DictOf (xy P w) a vs:=yn4 ok (.inl e)
theorem yg9 {ks:List Key} (ok:HOk P w H h) (e:H a=some (.tup (ks.map kV))):(tupleKind (xy P w)).is h ks a:=by
 obtain ⟨_,its,r,o,h1,h2,n,h3⟩:=(show xr P w H h a (.tup (ks.map kV)) from ok a _ e)
 exact ⟨o,its.toArray,n,h1,h2,h3,by simpa using yd6 r⟩
theorem yn5 {kvs:List (List Key × V)} (ok:HOk P w H h) (e:Rd H a (.dT kvs)):kvs.length <= sizeLine/\(a == sysModules)=false /\
  ∃ xs,KT H kvs xs/\h.DictOfH (tupleKind (xy P w)) a xs:=by
 obtain ⟨z,y,xs,r,o,es,ep,h1,h2,h3,h4,h5⟩:=(show xr P w H h a (.dT kvs) from yzc ok e)
 refine ⟨z,y,xs,r,o,es,ep,h1,h2,h3,h4,fun x hx=>?_,h5⟩
 have all:∀ {l:List (List Key × V)} {m:List (List Key × Addr × Value)},KT H l m->∀ x∈m,(tupleKind (xy P w)).is h x.1 x.2.1:=by
  intro l m q
  induction q with
  | nil=>intro x hx; exact nomatch hx
  | @cons p q ps qs hq t ih =>
   intro x hx
   rcases List.mem_cons.mp hx with e | hx
   ·subst e
    exact yg9 ok (by rw [<- hq.1]; exact hq.2.1)
   ·exact ih x hx
 exact all r x hx
theorem vas {kvs:List (List Key × V)} (ok:HOk P w H h) (e:H a=some (.dT kvs)):kvs.length <= sizeLine/\(a == sysModules)=false /\
  ∃ xs,KT H kvs xs/\h.DictOfH (tupleKind (xy P w)) a xs:=yn5 ok (.inl e)
end
def ymd (H:Hp) (a:Addr) (y:V) (r:Option V):Prop :=
 (∃ kvs k,Rd H a (.dK kvs)/\y=kV k/\r=yan kvs k)\/∃ kvs k b,Rd H a (.dT kvs)/\y=.ref b/\H b=some (.tup (k.map kV))/\r=yan kvs k
def yuj (H:Hp) (a:Addr) (y v:V) (H':Hp):Prop :=
 (∃ kvs k,H a=some (.dK kvs)/\y=kV k/\kvs.length < sizeLine/\H'=upd H a (.dK (yex kvs k v))) \/
 ∃ kvs k b,H a=some (.dT kvs)/\y=.ref b/\H b=some (.tup (k.map kV))/\kvs.length < sizeLine/\H'=upd H a (.dT (yex kvs k v))
theorem ymd.t {H:Hp} {a b:Addr} {kvs:List (List Key × V)} {k:List Key} (e:H a=some (.dT kvs)) (eb:H b=some (.tup (k.map kV))):ymd H a (.ref b) (yan kvs k):=.inr ⟨kvs,k,b,.inl e,rfl,eb,rfl⟩
theorem yuj.t {H:Hp} {a b:Addr} {kvs:List (List Key × V)} {k:List Key} {v:V} (e:H a=some (.dT kvs)) (eb:H b=some (.tup (k.map kV))) (hl:kvs.length < sizeLine) :
  yuj H a (.ref b) v (upd H a (.dT (yex kvs k v))):=.inr ⟨kvs,k,b,e,rfl,eb,hl,rfl⟩
section
variable {X:Cx} {pins:List (Addr × Obj)} {σ:St} {H:Hp} {s:Shared} {a:Addr} {y v:V} {u r:Value} {o:Option V} {A:Around} {E:Value->Shared->Prop}
theorem Inv.big (I:Inv X pins σ H s):sysModules < s.heap.objs.size:=by
 have h:mainGlobals < s.heap.objs.size:=(I.mod.glob.keeps I.bk).lt
 exact Nat.lt_trans (by decide) h
theorem yj0 {Q:Value->Shared->Prop} (hu:A.units+1 < cLine) (I:Inv X pins σ H s) (g:ymd H a y (some v)) (ry:xk y u) (h:∀ w' s',Inv X pins σ H s'->xk v w'->Q w' s') :
  wpAny (model X.prog X.w) A (getItem (.ref a) u) Q E s:=by
 rcases g with ⟨kvs,k,e,ey,l⟩ | ⟨kvs,k,b,e,ey,eb,l⟩
 ·subst ey
  obtain ⟨z,hd,vs,rel,dd⟩:=yn4 I.hok e
  obtain ⟨w',hw,rw'⟩:=yew.some_of (v:=v) (o:=valueAt vs k) (by rw [l]; exact rel.val k)
  exact wpAny_getItem_of (ynz ry) dd.mapOf hw (h w' _ (I.tok _) rw')
 ·subst ey
  cases (show u=Value.ref b from ry)
  obtain ⟨z,hd,xs,rel,dd⟩:=yn5 I.hok e
  obtain ⟨w',hw,rw'⟩:=yew.some_of (v:=v) (o:=(atKey xs k).map (·.2)) (by rw [l]; exact rel.val k)
  obtain ⟨p,hp,hp2⟩:=Option.map_eq_some_iff.mp hw
  refine wpAny_getItem_heap (tupleKind_room_in1 hu) (yg9 I.hok eb) dd hp ?_
  rw [hp2]
  exact h w' _ (I.tok _) rw'
theorem ysc {Q:Value->Shared->Prop} (hu:A.units+1 < cLine) (I:Inv X pins σ H s) (g:ymd H a y o) (ry:xk y u) (h:∀ s',Inv X pins σ H s'->Q (.bool (!o.isSome)) s') :
  wpAny (model X.prog X.w) A (compareOp .NotIn u (.ref a)) Q E s:=by
 rcases g with ⟨kvs,k,e,ey,l⟩ | ⟨kvs,k,b,e,ey,eb,l⟩
 ·subst ey
  obtain ⟨z,hd,vs,rel,dd⟩:=yn4 I.hok e
  refine wpAny_notIn_of (ynz ry) hd dd.mapOf ?_
  rw [<- (rel.val k).isSome_eq,<- l]
  exact h _ (I.tok _)
 ·subst ey
  cases (show u=Value.ref b from ry)
  obtain ⟨z,hd,xs,rel,dd⟩:=yn5 I.hok e
  refine wpAny_notIn_heap (tupleKind_room_in1 hu) (yg9 I.hok eb) hd dd ?_
  have q:=(rel.val k).isSome_eq
  rw [Option.isSome_map] at q
  rw [<- q,<- l]
  exact h _ (I.tok _)
theorem ykl {h':Heap} {t':Nat} {ob:HO} (I:Inv X pins σ H s) (mu:Mut (H a)) (hs:Heap.SameBut a s.heap h') (he:∃ q,h'.get? a=some q) (new:xr X.prog X.w (upd H a ob) h' a ob) :
  Inv X pins σ (upd H a ob) { s with heap:=h',toks:=t' } :=
 I.write (x:=a) (e:=a) mu (.inl rfl) (fun b q hb z=>(hs.2 b hb).trans z) he new
theorem yx6 {P:Program} {w:World} {H':Hp} {h':Heap} {kvs:List (Key × V)} {vs:List (Key × Value)} (z:kvs.length <= sizeLine) (hd:(a == sysModules)=false) (rel:KV kvs vs) (dd:h'.DictOf (xy P w) a vs) :
  xr P w H' h' a (.dK kvs):=⟨z,hd,vs,rel,dd⟩
theorem yi8 {H':Hp} {Q:Unit->Shared->Prop} (hu:A.units+1 < cLine) (I:Inv X pins σ H s) (g:yuj H a y v H') (ry:xk y u) (rv:xk v r) (h:∀ s',Inv X pins σ H' s'->Q () s') :
  wpAny (model X.prog X.w) A (setItem (.ref a) u r) Q E s:=by
 rcases g with ⟨kvs,k,e,ey,l,eH⟩ | ⟨kvs,k,b,e,ey,eb,l,eH⟩
 ·subst ey eH
  obtain ⟨z,hd,vs,rel,dd⟩:=yz5 I.hok e
  have hz:vs.length <= sizeLine:=by rw [<- rel.length]; exact z
  have hl:(yex kvs k v).length <= sizeLine:=by have:=yba kvs k v; omega
  refine wpAny_setItem_pairs (hsz:=hz) (ynz ry) dd fun h' dd' hs=>h _ ?_
  have he:∃ q,h'.get? a=some q:=let ⟨q,_,_,hq,_⟩:=dd'; ⟨q,hq⟩
  exact ykl I (by rw [e]; exact True.intro) hs he (yx6 hl hd (rel.put k rv) dd')
 ·subst ey eH
  cases (show u=Value.ref b from ry)
  obtain ⟨z,hd,xs,rel,dd⟩:=vas I.hok e
  have hz:xs.length <= sizeLine:=by rw [<- Paired.length rel]; exact z
  have hl:(yex kvs k v).length <= sizeLine:=by have:=yba kvs k v; omega
  refine wpAny_setItem_heap (hsz:=hz) (tupleKind_room_in1 hu) (yg9 I.hok eb) dd fun h' dd' hs=>h _ ?_
  obtain ⟨q,es,ep,hq,h2,h3,h4,_,h5⟩:=dd'
  refine ykl I (by rw [e]; exact True.intro) hs ⟨q,hq⟩ ⟨hl,hd,_,(rel.put k eb rv).keeps fun c ys ec=>?_,q,es,ep,hq,h2,h3,h4,h5⟩
  rw [yu (xf ec e (fun z=>nomatch z))]
  exact ec
end
section
variable {X:Cx} {pins:List (Addr × Obj)} {σ:St} {H:Hp} {s:Shared} {a:Addr} {kvs:List (Key × V)} {k:Key} {u:Value} {A:Around} {E:Value->Shared->Prop}
end
def vbl (i:Expr):Prop:=∀ ov iv,subscripted i false ov iv=operate [ov,iv] (getItem ov iv)
theorem yqp {prog:Program} {w:World} {A:Around} {E:Value->Shared->Prop} {s:Shared} {env:Env} {value slice:Expr} {pos:Pos} {T id:String} {Q:Value->Shared->Prop}
  (hl:typeLookup (.type T) "__getitem__"=pure (some (.builtin id))) (hs:vbl slice)
  (h:wpAny (model prog w) A (eval value env) (fun o s₁=>wpAny (model prog w) A (eval slice env) (fun i s₂=>s₂.TypeIs o T/\wpAny (model prog w) A (getItem o i) Q E s₂) E s₁) E s) :
  wpAny (model prog w) A (eval (.Subscript value slice pos) env) Q E s:=by
 refine Subscript_ (wpAny_mono h (fun o s₁ h₁=>wpAny_mono h₁ (fun i s₂ h₂=>?_) fun _ _ x=>x) fun _ _ x=>x)
 obtain ⟨hT,h₂⟩:=h₂
 unfold subscriptTail
 refine wpAny_bind ?_
 rw [getitemInPython_of_ne hT.not_modules]
 refine wpAny_bind (wpAny_specialOf hT hl ?_)
 have fin:wpAny (model prog w) A (subscripted slice false o i) (fun r s₃=>wpAny (model prog w) A (letTemporaryGo value o r >>= fun _=>pure r) Q E s₃) E s₂:=by
  rw [hs o i]
  exact wpAny_operating (wpAny_mono h₂ (fun r s₃ h₃=>wpAny_bind (wpAny_letTemporaryGo (wpAny_pure h₃))) fun _ _ x=>x)
 first
  | exact wpAny_pure (wpAny_bind fin)
  | exact wpAny_bind (wpAny_pure (wpAny_bind fin))
  | exact wpAny_bind fin
theorem yfj {X:Cx} {pins:List (Addr × Obj)} {σ:St} {H:Hp} {s:Shared} {a:Addr} {y:V} {o:Option V} (I:Inv X pins σ H s) (g:ymd H a y o):s.TypeIs (.ref a) "dict":=by
 rcases g with ⟨kvs,k,e,_,_⟩ | ⟨kvs,k,b,e,_,_,_⟩
 ·obtain ⟨_,_,vs,_,dd⟩:=yn4 I.hok e
  exact dd.typeIs
 ·obtain ⟨_,_,xs,_,dd⟩:=yn5 I.hok e
  exact dd.typeIs
def yy1 (td ty:TE):TE:=fun σ H Q=>td σ H fun x H1=>ty σ H1 fun y H2=>∃ a v,x=.ref a/\ymd H2 a y (some v)/\Q v H2
def ykk (ty td:TE):TE:=fun σ H Q=>ty σ H fun y H1=>td σ H1 fun x H2=>∃ a o,x=.ref a/\ymd H2 a y o/\Q (.bl (!o.isSome)) H2
def yyq (td ty tv:TE):TS:=fun D σ H=>tv σ H fun v H1=>td σ H1 fun x H2=>ty σ H2 fun y H3=>∃ a H4,x=.ref a/\yuj H3 a y v H4/\D.nx σ H4
section
variable {X:Cx} {o i e value:Expr} {pos pos' tpos:Pos} {td ty tv:TE}
theorem yrn (hu:X.A.units+1 < cLine) (ho:PE X o td) (hi:PE X i ty) (hs:vbl i):PE X (.Subscript o i pos) (yy1 td ty):=by
 intro pins s σ H Q I h
 refine yqp PySem.F.slot_dict_getitem.lookup hs (thn (ho pins s σ H _ I h) fun u s1 ⟨x,H1,I1,rx,q1⟩=>thn (hi pins s1 σ H1 _ I1 q1) fun iv s2 ⟨y,H2,I2,ry,a,v,ex,g,q2⟩=>?_)
 subst ex
 obtain rfl:u=Value.ref a:=rx
 exact ⟨yfj I2 g,yj0 hu I2 g ry fun w' s3 I3 rw'=>⟨v,H2,I3,rw',q2⟩⟩
theorem yjk (hu:X.A.units+1 < cLine) (hi:PE X i ty) (ho:PE X o td):PC X .NotIn i o (ykk ty td):=by
 intro pins s σ H Q I h
 refine thn (hi pins s σ H _ I h) fun iv s1 ⟨y,H1,I1,ry,q1⟩=>thn (ho pins s1 σ H1 _ I1 q1) fun u s2 ⟨x,H2,I2,rx,a,ov,ex,g,q2⟩=>?_
 subst ex
 obtain rfl:u=Value.ref a:=rx
 exact ysc hu I2 g ry fun s3 I3=>⟨.bl (!ov.isSome),H2,I3,rfl,q2⟩
theorem yry (hu:X.A.units+1 < cLine) (ho:PE X o td) (hi:PE X i ty) (hv:PE X value tv) (hs:swapsWith value (some (.Subscript o i pos')) pos.line X.env=pure false) :
  PS X (.Assign [.Subscript o i pos'] value pos) (yyq td ty tv):=by
 intro pins s σ H D I h
 refine wpAny_Assign_Subscript (thn (hv pins s σ H _ I h) fun r s1 ⟨v,H1,I1,rv,q1⟩=>thn (ho pins s1 σ H1 _ I1 q1) fun u s2 ⟨x,H2,I2,rx,q2⟩=>thn (hi pins s2 σ H2 _ I2 q2) fun iv s3 ⟨y,H3,I3,ry,a,H4,ex,g,q3⟩=>?_) hs
 subst ex
 obtain rfl:u=Value.ref a:=rx
 exact yi8 hu I3 g ry rv fun s4 I4=>⟨σ,H4,I4,q3⟩
end
theorem ym8 {P:Program} {w:World} {H:Hp} (h:Heap) (hb:sysModules < h.objs.size):xr P w H (h.push { cls:=.type "dict",data:=.dict #[] }) h.objs.size (.dT []) :=
 ⟨Nat.zero_le _,beq_eq_false_iff_ne.mpr (Ne.symm (Nat.ne_of_lt hb)),[],.nil,_,#[],0,Heap.get?_push_size _ rfl,⟨rfl,rfl,rfl⟩,rfl,rfl,List.nodup_nil⟩
def yo2:TE:=fun _ H Q=>∀ p,H p=none->Q (.ref p) (upd H p (.dT []))
section
variable {X:Cx} {pos:Pos}
theorem yni:PE X (.Dict [] [] pos) yo2:=fun pins s σ H Q I h =>
 wpAny_Dict_empty ⟨.ref s.heap.objs.size,_,I.laid (a:=s.heap.objs.size) (o:=.dT []) (t':=s.toks) (fun _ _ q=>Heap.get?_push_of_some _ q) (Nat.le_refl _) (ym8 s.heap I.big),rfl,h _ (I.hok.fresh (Nat.le_refl _))⟩
end
structure M1 (X:Cx) (o:Expr) (m:Str) (apos:Pos) (e:Expr) (cpos:Pos):Prop where
 base:attributeBase o m X.env (eval o X.env)=eval o X.env
 few:((backTo cpos (starEach [e] X.env)).all (fun x=>!x.1) && (backToKw cpos (keywordEach [] X.env)).all (fun x=>x.1.isSome)
  && decide (([e]:List Expr).length+([]:List Keyword).length+(if ([]:List Keyword).isEmpty then 0 else 1) < 30))=true
 line:(apos.endLine == cpos.line)=true
 trees:backTo cpos (starEach [e] X.env)=[(false,eval e X.env)]
structure M2 (X:Cx) (o:Expr) (m:Str) (apos:Pos) (e f:Expr) (cpos:Pos):Prop where
 base:attributeBase o m X.env (eval o X.env)=eval o X.env
 few:((backTo cpos (starEach [e,f] X.env)).all (fun x=>!x.1) && (backToKw cpos (keywordEach [] X.env)).all (fun x=>x.1.isSome)
  && decide (([e,f]:List Expr).length+([]:List Keyword).length+(if ([]:List Keyword).isEmpty then 0 else 1) < 30))=true
 line:(apos.endLine == cpos.line)=true
 trees:backTo cpos (starEach [e,f] X.env)=[(false,eval e X.env),(false,eval f X.env)]
section
variable {X:Cx} {pins:List (Addr × Obj)} {σ:St} {H:Hp} {s:Shared} {a:Addr} {y d:V} {u r:Value} {o:Option V} {A:Around} {E:Value->Shared->Prop}
end
section
variable {X:Cx} {o e f:Expr} {apos cpos:Pos} {td ty tx:TE}
end
section
variable {X:Cx} {pins:List (Addr × Obj)} {σ:St} {H:Hp} {s:Shared} {a:Addr} {kvs:List (Key × V)} {A:Around} {E:Value->Shared->Prop}
end
section
variable {X:Cx} {pins:List (Addr × Obj)} {σ:St} {H:Hp} {s:Shared} {a:Addr} {y:V} {u:Value} {A:Around} {E:Value->Shared->Prop}
end
end L2
namespace L2
open PySem PySem.Spec PyProof.Rows
@[irreducible] def QE (X:Cx) (e:Expr) (t:TE):Prop:=PE X e t
@[irreducible] def QSs (X:Cx) (st:List Stmt) (t:TS):Prop:=PSs X st t
section
variable {X:Cx} {e:Expr} {es:List Expr} {te:TE} {t:TA} {pos:Pos} {ts us:TS} {st:Stmt} {yav:List Stmt}
end
end L2
namespace L2
open PySem PySem.Spec PyProof.Rows
@[irreducible] def QS (X:Cx) (st:Stmt) (t:TS):Prop:=PS X st t
section
variable {X:Cx} {e:Expr} {te:TE} {pos:Pos} {ts us:TS} {st:Stmt} {yav:List Stmt}
theorem yk {R:TS->Prop} (h1:PS X st ts) (h2:∃ us,PSs X yav us/\R (vbh ts us)):∃ t,PSs X (st :: yav) t/\R t:=let ⟨_,a,b⟩:=h2; ⟨_,yj h1 a,b⟩
end
end L2
namespace L2
open PySem PySem.Spec PyProof.Rows
theorem ygp:∀ {bs:List Bool} {us:List Value},wu (bs.map V.bl) us->us=bs.map Value.bool
 | [],_,.nil=>rfl
 | b :: r,_,.cons a t=>by rw [show _=Value.bool b from a,ygp t]; rfl
theorem yi7 (bs:List Bool):((List.range bs.length).all fun i=>(bs[i]?).getD true)=bs.all id:=by
 rw [Bool.eq_iff_iff,List.all_eq_true,List.all_eq_true]
 constructor
 ·intro h b hb
  obtain ⟨i,hi,rfl⟩:=List.getElem_of_mem hb
  have:=h i (List.mem_range.mpr hi)
  rw [List.getElem?_eq_getElem hi] at this
  exact this
 ·intro h i hi
  have hi:=List.mem_range.mp hi
  rw [List.getElem?_eq_getElem hi]
  exact h _ (List.getElem_mem hi)
section
variable {X:Cx}
theorem jo (hc:X.calm=true):ybq X (.builtin "all") (fun xs H Q=>∃ p bs,xs=[.ref p]/\SqL X.K H p (List.map V.bl bs)/\Q (.bl (bs.all id)) H):=by
 intro pins s σ H xs us Q I r h
 obtain ⟨p,bs,rfl,hq,q⟩:=h
 obtain ⟨u,rfl,rx⟩:=yl8 r
 cases rx
 obtain ⟨its,r',pl,hz⟩:=I.list hq
 obtain rfl:=ygp r'
 have hl:=pl.isList
 have hlt:p < s.heap.objs.size:=by obtain ⟨_,e,_⟩:=hl; exact Heap.lt_size e
 refine call_all_walk (wpAny_pyIter_list hl ?_)
 refine ⟨s.heap.objs.size,[s.heap.objs.size,p],[s.heap.objs.size],(bs.map Value.bool).toArray.size,_,_,fun i=>(bs[i]?).getD true,rfl,Walks.list (A:=X.A.in1) (show X.A.handled=none from I.ok.hd hc) _ p (Nat.ne_of_lt hlt) (bs.map Value.bool).toArray,
  ⟨⟨_,Heap.get?_push_size _ rfl,rfl,rfl⟩,hl.push _⟩,fun i v s' Q' E' hP hQ=>?_,fun h' tk hk=>?_⟩
 ·have hP:(bs.map Value.bool)[i]?=some v:=by simpa using hP
  rw [List.getElem?_map] at hP
  cases e:bs[i]? with
  | none=>rw [e] at hP; cases hP
  | some b =>
   dsimp only at hQ
   rw [e] at hP hQ
   cases hP
   exact wpAny_truthy_bool hQ
 ·have e:((List.range (bs.map Value.bool).toArray.size).all fun i=>(bs[i]?).getD true)=bs.all id:=by
   rw [List.size_toArray,List.length_map]
   exact yi7 bs
  rw [e]
  refine ⟨.bl (bs.all id),H,I.kept (t':=tk) fun b x e=>hk b x (fun hm=>?_) (Heap.get?_push_of_some _ e),rfl,q⟩
  rw [List.mem_singleton.mp hm] at e
  exact Nat.lt_irrefl _ (Heap.lt_size e)
end
end L2
namespace L2
open PySem PySem.Spec PyProof.Rows
theorem w8 {env:Env}:∀ {names:List (Str × NameKind)} {x:Str} {k:NameKind},
  (names.map fun (n,k)=>if (k == NameKind.free && env.scope.kind == .function && env.kindOf n == some .cell) then (n,NameKind.cell) else (n,k)).lookup x=some k->∃ k0,(x,k0)∈names/\(k=k0\/k0=.free)
 | [],_,_,h=>by simp at h
 | (n,k1) :: r,x,k,h=>by
  rw [List.map_cons] at h
  by_cases hx:x=n
  ·subst hx
   refine ⟨k1,.head _,?_⟩
   dsimp only at h
   split at h
   ·rename_i hc
    simp only [Bool.and_eq_true,beq_iff_eq] at hc
    exact .inr hc.1.1
   ·simp [List.lookup] at h
    exact .inl h.symm
  ·have:(x == n)=false:=by simpa using hx
   have h':(r.map fun (n,k)=>if (k == NameKind.free && env.scope.kind == .function && env.kindOf n == some .cell) then (n,NameKind.cell) else (n,k)).lookup x=some k:=by
    dsimp only at h
    split at h <;> simpa [List.lookup,this] using h
   obtain ⟨k0,m,q⟩:=w8 h'
   exact ⟨k0,.tail _ m,q⟩
def j3 (ys:List Str) (env:Env):List (Str × Addr):=ys.map fun y=>(y,(env.cells.lookup y).getD 0)
theorem yc3 {env:Env}:∀ {ys:List Str} {y:Str} {c:Addr},(j3 ys env).lookup y=some c->y∈ys/\c=(env.cells.lookup y).getD 0
 | [],_,_,h=>by simp [j3] at h
 | z :: r,y,c,h=>by
  by_cases hy:y=z
  ·subst hy
   simp [j3,List.lookup] at h
   exact ⟨.head _,h.symm⟩
  ·have hb:(y == z)=false:=by simpa using hy
   have h':(j3 r env).lookup y=some c:=by simpa [j3,List.lookup,hb] using h
   obtain ⟨m,e⟩:=yc3 h'
   exact ⟨.tail _ m,e⟩
theorem jm {env:Env}:∀ {ys:List Str} {y:Str},y∈ys->(j3 ys env).lookup y=some ((env.cells.lookup y).getD 0)
 | z :: r,y,h=>by
  by_cases hy:y=z
  ·subst hy
   simp [j3,List.lookup]
  ·have hb:(y == z)=false:=by simpa using hy
   have hm:y∈r:=by
    rcases List.mem_cons.mp h with q | q
    ·exact absurd q hy
    ·exact q
   have:=jm (env:=env) hm
   simpa [j3,List.lookup,hb] using this
abbrev Cx.compF (X:Cx) (scope:Scope) (ys:List Str) (C:Addr) (x:Str) (s2:Shared) (H2:Hp) (fp:List Addr):Cx :=
 { X with N:=x :: ys,s₀:=s2,H₀:=H2,env:=compEnvC scope (j3 ys X.env) C X.env,outer:=X.stack,ex:=fp,fn:=fun _=>false,pn:=[],xe:=fun _ _=>False }
def zu (J:It) (te:TE) (fr:St) (D:Addr) (R:Hp->Prop) (H1:Hp):Prop:=∃ W:Nat->Nat->Hp->Prop,(∃ m,W 0 m (upd H1 D (.lst []))) /\
 ∀ i m H2,W i m H2->(J.stop i H2/\R H2)\/(J.go i H2/\∀ x H3,J.yld i H2 x H3->te (some x :: fr) H3 fun y H4=>∃ ys,H4 D=some (.lst ys)/\ys.length < sizeLine/\∃ m',m' < m/\W (i+1) m' (upd H4 D (.lst (ys++[y]))))
def w5 (js:List Nat) (σ:St):St:=js.map fun j=>(σ[j]?).getD none
def ylj (wi:TI) (te:TE) (js:List Nat):TE:=fun σ H Q=>wi σ H fun J H1=>∀ D,H1 D=none->zu J te (w5 js σ) D (fun H2=>Q (.ref D) H2) H1
section
variable {X:Cx} {iter elt:Expr} {x:Str} {px pos:Pos} {scope:Scope} {te:TE} {wi:TI} {pins:List (Addr × Obj)} {σ:St} {ys:List Str} {js:List Nat}
theorem yb0 {s2:Shared} {H2:Hp} {it:Addr} {fp:List Addr} {tn:Nat->Heap->Prop} {J:It} (hc:X.calm=true)
  (he:∀ (C:Addr) (s2:Shared) (H2:Hp) (fp:List Addr),PE (X.compF scope ys C x s2 H2 fp) elt te)
  (hcell:∀ y∈scope.names,y.2≠.cell) (hkind:scope.kind=.function) (hx:scope.names.lookup x=some .local) (hnd:(x :: ys).Nodup)
  (hfr:∀ y∈scope.names,y.2=.free->y.1∈ys) (hyc:∀ y∈ys,X.env.kindOf y=some .cell) (hrel:∀ y∈ys,(relabel scope X.env).names.lookup y=some .cell) (hjs:js.map (fun j=>X.N[j]?)=ys.map some)
  (I2:Inv X pins σ H2 s2) (T:yn8 X.prog X.w X.K (.Name x px) J fp it tn) (st2:tn 0 s2.heap) (f2:∀ b∈fp,yf8 X pins H2 b)
  {R:Addr->Hp->Prop} (h:∀ D,H2 D=none->zu J te (w5 js σ) D (R D) H2) {RR:Value->Addr->Result->Shared->Prop} {E:Value->Shared->Prop}
  (hR:∀ (D C:Addr) (H':Hp) (s':Shared) (m:Str->Option Value),yf8 X pins H' C->s'.heap.Ns C m->Inv X pins σ H' s'->R D H'->RR (.ref D) C (.ok .next) s') :
  wpAny (model X.prog X.w) X.A (newList []) (fun acc s₃=>wpAny (model X.prog X.w) X.A (newFunctionEnv scope X.env.globals (j3 ys X.env) [] X.env.qual none .none (some X.env)) (fun cenv s₄ =>
   codeAny (model X.prog X.w) X.A (.compStart (.ListComp elt [⟨.Name x px,iter,[],0⟩] scope pos) 0 (.ref it) acc { cenv with scope:=relabel scope X.env }) (RR acc cenv.locals) s₄) E s₃) E s2:=by
 have hsub:∀ y c,(j3 ys X.env).lookup y=some c->X.env.cells.lookup y=some c:=fun y c e=>by
  obtain ⟨m,rfl⟩:=yc3 e
  obtain ⟨c',q⟩:=I2.ok.has y (.inl (hyc y m))
  rw [q]
  rfl
 refine wpAny_newObj_type (wpAny_newFunctionEnv hcell (by intro y hy; simp at hy) (fun h₁ hns₁ hsb₁=>?_) hkind)
 dsimp only at hns₁ hsb₁ ⊢
 generalize hH2:s2.heap.push { cls:=.type "list",dict:=none,data:=.seq ([]:List Value).toArray }=G at hns₁ hsb₁ ⊢
 have hC:G.objs.size=s2.heap.objs.size+1:=by rw [<- hH2,Heap.size_push]
 have hDC:s2.heap.objs.size≠G.objs.size:=by rw [hC]; exact Nat.ne_of_lt (Nat.lt_succ_self _)
 have hCle:s2.heap.objs.size <= G.objs.size:=by rw [hC]; exact Nat.le_succ _
 have below:∀ b,b < s2.heap.objs.size->b≠G.objs.size/\b≠s2.heap.objs.size:=fun b hb=>⟨by rw [hC]; exact Nat.ne_of_lt (Nat.lt_succ_of_lt hb),Nat.ne_of_lt hb⟩
 have old:∀ b o,s2.heap.get? b=some o->h₁.get? b=some o:=fun b o e=>hsb₁.extBut b o (below b (Heap.lt_size e)).1 (Heap.get?_push_of_some _ (hH2 ▸ Heap.get?_push_of_some _ e))
 have hacc:h₁.get? s2.heap.objs.size=some { cls:=.type "list",data:=.seq ([]:List Value).toArray }:=hsb₁.extBut _ _ hDC (Heap.get?_push_of_some _ (hH2 ▸ Heap.get?_push_size _ rfl))
 have fpl:∀ b∈fp,b < s2.heap.objs.size:=fun b hb=>let ⟨_,e,_⟩:=T.obj 0 _ st2 b hb; Heap.lt_size e
 have fpS:∀ b∈fp,b∉frs X.stack:=fun b hb z=>(List.mem_cons.mp (I2.stkSub b z)).elim (f2 b hb).2.1 (f2 b hb).2.2.1
 have nC:H2 G.objs.size=none:=I2.hok.fresh hCle
 have nD:H2 s2.heap.objs.size=none:=I2.hok.fresh (Nat.le_refl _)
 have cellOld:∀ y c,(j3 ys X.env).lookup y=some c->∃ v o,s2.heap.get? c=some o/\o.data=.cell v:=fun y c e=>by
  obtain ⟨v,o,q1,q2⟩:=I2.cell y c (hsub y c e)
  exact ⟨v,o,q1,q2⟩
 have okC:(X.compF scope ys G.objs.size x s2 H2 fp).Ok:=by
  refine ⟨I2.ok.mod,hkind,I2.ok.glob,I2.ok.blt,hCle,fun y z c e e'=>I2.ok.inj y z c (hsub y c e) (hsub z c e'),fun y e=>?_,fun y c z e=>(by cases z),I2.ok.hd,I2.ok.frames,.inl rfl,fun b hb=>⟨(below b (fpl b hb)).1,fun y c e=>(f2 b hb).2.2.2.2.1 y c (hsub y c e)⟩,I2.bs,?_,fun b o e hb=>?_,fun b hb=>fpS b hb,I2.stack,I2.stkFree⟩
  ·have e':(relabel scope X.env).names.lookup y=some .cell\/(relabel scope X.env).names.lookup y=some .free:=e
   have hin:y∈ys:=by
    rcases e' with e' | e'
    ·obtain ⟨k0,m,q⟩:=w8 e'
     rcases q with q | q
     ·exact absurd q.symm (hcell _ m)
     ·exact hfr _ m q
    ·obtain ⟨k0,m,q⟩:=w8 e'
     rcases q with q | q
     ·exact hfr _ m q.symm
     ·exact hfr _ m q
   exact ⟨_,jm hin⟩
  ·exact Nat.le_trans I2.ok.bsz I2.sz
  ·rcases (f2 b hb).2.2.2.1 with z | z
   ·exact I2.ok.noex b o e z
   ·exact absurd (Nat.lt_of_lt_of_le (Heap.lt_size (I2.ok.bs b o e).1) z) (Nat.lt_irrefl _)
 have hlen:(w5 js σ).length=ys.length:=by
  have:=congrArg List.length hjs
  simpa [w5] using this
 have I3:∀ tk,Inv (X.compF scope ys G.objs.size x s2 H2 fp) [] (none :: w5 js σ) (upd H2 s2.heap.objs.size (.lst [])) { s2 with heap:=h₁,toks:=tk }:=fun tk =>
  ⟨okC,rfl,I2.bare,Un.laid old (Nat.le_refl _) nD,⟨_,hns₁,fun i y v e1 e2 e3=>by
    cases i with
    | zero=>cases e2
    | succ i =>
     have e1:ys[i]?=some y:=by simpa using e1
     have e2:(w5 js σ)[i]?=some (some v):=by simpa using e2
     have hy:y∈ys:=List.mem_of_getElem? e1
     have ej:=congrArg (fun l=>l[i]?) hjs
     simp only [List.getElem?_map,e1,Option.map_some] at ej
     cases q:js[i]? with
     | none=>rw [q] at ej; cases ej
     | some j =>
      rw [q] at ej
      have ej:X.N[j]?=some y:=by simpa using ej
      have es:σ[j]?=some (some v):=by
       simp only [w5,List.getElem?_map,q,Option.map_some,Option.some.injEq] at e2
       cases r:σ[j]? with
       | none=>rw [r] at e2; cases e2
       | some w'=>rw [r] at e2; rw [show w'=some v from e2]
      obtain ⟨m0,_,hl0⟩:=I2.loc
      obtain ⟨u,ru,lk⟩:=hl0 j y v ej es (.inr (.inl (hyc y hy)))
      refine ⟨u,ru,.inr ⟨.inl (hrel y hy),?_⟩⟩
      rcases lk with ⟨k1,_⟩ | ⟨_,c,ec,o,ho,hd⟩
      ·rw [hyc y hy] at k1; cases k1
      ·refine ⟨c,?_,o,old c o ho,hd⟩
       show (j3 ys X.env).lookup y=some c
       rw [jm hy,ec]
       rfl⟩,fun y c e=>(by
    obtain ⟨v,o,q1,q2⟩:=cellOld y c e
    exact ⟨v,o,old c o q1,q2⟩),(by show upd H2 s2.heap.objs.size _ G.objs.size=none; rw [yu hDC.symm]; exact nC),fun y c e=>(by
    obtain ⟨v,o,q1,q2⟩:=cellOld y c e
    show upd H2 s2.heap.objs.size _ c=none
    rw [yu (below c (Heap.lt_size q1)).2]
    exact I2.freeC y c (hsub y c e)),fun p hp=>(by simp at hp),
   I2.hok.laid old (Nat.le_refl _) ⟨Nat.zero_le _,[],_,.nil,hacc⟩,by show (none :: w5 js σ).length=(x :: ys).length; simp [hlen]⟩
 have stat:∀ {H':Hp},(∀ b∈fp,H' b=none)->∀ b∈fp,yf8 (X.compF scope ys G.objs.size x s2 H2 fp) [] H' b:=fun hn b hb=>⟨hn b hb,(below b (fpl b hb)).1,fpS b hb,.inl hb,fun y c e=>(f2 b hb).2.2.2.2.1 y c (hsub y c e),fun p hp=>(by simp at hp)⟩
 have loop:∀ tk,codeAny (model X.prog X.w) X.A (.compLoop (.ListComp elt [⟨.Name x px,iter,[],0⟩] scope pos) 0 (.ref it) (.ref s2.heap.objs.size) (compEnvC scope (j3 ys X.env) G.objs.size X.env)) (RR (.ref s2.heap.objs.size) G.objs.size) { s2 with heap:=h₁,toks:=tk }:=by
  intro tk
  obtain ⟨W,⟨m0,w0⟩,turn⟩:=h s2.heap.objs.size nD
  refine codeAny_loop rfl (fun n s'=>∃ i v H',Inv (X.compF scope ys G.objs.size x s2 H2 fp) [] (v :: w5 js σ) H' s'/\tn i s'.heap/\(∀ b∈fp,H' b=none)/\W i n H') (fun n s' hI=>?_) m0
   ⟨0,none,_,I3 tk,T.keep 0 _ _ st2 (fun b hb o e=>old b o e),fun b hb=>(by rw [yu (below b (fpl b hb)).2]; exact (f2 b hb).1),w0⟩
  obtain ⟨i,v,H',I,st,fr,w⟩:=hI
  show wpAny _ _ ((compTurn (.ListComp elt [⟨.Name x px,iter,[],0⟩] scope pos) 0 (.ref it) (.ref s2.heap.objs.size) (compEnvC scope (j3 ys X.env) G.objs.size X.env)).onRaise (fun x=>do noteFrame x (compEnvC scope (j3 ys X.env) G.objs.size X.env); theTreesLotGoes x)) _ _ s'
  refine wpAny_noted ?_
  rw [compTurn_list1]
  refine wpAny_bind (wpAny_standAt (wpAny_bind ?_))
  rcases turn i n H' w with ⟨stop,q⟩ | ⟨go,step⟩
  ·refine thn (T.done (X.compF scope ys G.objs.size x s2 H2 fp) rfl rfl rfl hc i [] s' (v :: w5 js σ) H' _ I (stat fr) st stop) fun r s4 ⟨hr,I4⟩=>?_
   subst hr
   refine wpAny_pure ?_
   obtain ⟨m,hn,_⟩:=I4.loc
   exact hR _ _ H' s4 m (I2.fpOk hCle I4.free) hn (I2.call' (ch:=fp) I4.os I4.base I4.hok I4.bare fun b hb=>⟨(f2 b hb).2.2.2.1,(f2 b hb).2.1,(f2 b hb).2.2.2.2.1,(f2 b hb).2.2.2.2.2⟩) q
  ·refine thn (T.item (X.compF scope ys G.objs.size x s2 H2 fp) rfl rfl rfl hc i [] s' (v :: w5 js σ) H' _ I (stat fr) st go) fun r s4 ⟨u,hr,h4⟩=>?_
   subst hr
   refine wpAny_bind (thn h4 fun _ s5 ⟨y,H5,I5,r5,y5,st5,fr5⟩=>wpAny_bind ?_)
   have I5':=I5.pinned (stat fr5) (T.obj _ _ st5)
   refine wpAny_assign_Name (yat (i:=0) I5' hnd rfl (Or.inl (lookup_relabel_local hx)) r5 (fun s6 I6=>?_) (Or.inr (lookup_relabel_local hx)))
   refine wpAny_bind (wpAny_bind (yuf (he _ _ _ _ _ s6 (some y :: w5 js σ) H5 _ I6 (step y H5 y5)) fun u2 s7 ⟨y2,H7,I7,r7,zs,hD,hl,m',hm,w'⟩=>wpAny_bind ?_))
   refine yuf (wn _ s7 (some y :: w5 js σ) H7 (.ref s2.heap.objs.size) [y2] (.ref s2.heap.objs.size) [u2] (fun _ H8=>H8=upd H7 s2.heap.objs.size (.lst (zs++[y2]))) I7 rfl (.cons r7 .nil) ⟨_,zs,y2,rfl,rfl,hD,hl,rfl⟩) fun _ s8 ⟨_,H8,I8,_,e8⟩=>?_
   subst e8
   have pin:∀ b∈fp,∀ o,s5.heap.get? b=some o->s8.heap.get? b=some o/\upd H7 s2.heap.objs.size (HO.lst (zs++[y2])) b=none:=fun b hb o e =>
    ⟨(I8.pin (b,o) (List.mem_append_right _ (List.mem_append_right _ (xh hb e)))).1,(I8.pin (b,o) (List.mem_append_right _ (List.mem_append_right _ (xh hb e)))).2.1⟩
   refine wpAny_pure (wpAny_pure ⟨rfl,m',hm,i+1,some y,_,I8.unpinned,T.keep _ _ _ st5 fun b hb o e=>(pin b hb o e).1,fun b hb=>?_,w'⟩)
   obtain ⟨o,e,d⟩:=T.obj _ _ st5 b hb
   exact (pin b hb o e).2
 exact codeAny_compStart_list (loop _) (T.self X.A 0 _ _ _ (T.keep 0 _ _ st2 (fun b hb o e=>old b o e)) (loop _))
theorem ur (hc:X.calm=true) (hi:PI X (.Name x px) iter wi) (he:∀ (C:Addr) (s2:Shared) (H2:Hp) (fp:List Addr),PE (X.compF scope ys C x s2 H2 fp) elt te) (hjs:js.map (fun j=>X.N[j]?)=ys.map some)
  (hclos:closureFor scope X.env=pure (j3 ys X.env)) (hnd:(x :: ys).Nodup:=by decide) (hyc:∀ y∈ys,X.env.kindOf y=some .cell) (hrel:∀ y∈ys,(relabel scope X.env).names.lookup y=some .cell)
  (hfr:∀ y∈scope.names,y.2=.free->y.1∈ys:=by decide +kernel) (hcell:∀ y∈scope.names,y.2≠.cell:=by decide +kernel) (hkind:scope.kind=.function:=by rfl)
  (hnames:∀ y∈scope.names,y.2=.local->scope.names.lookup y.1=some .local:=by decide +kernel) (hx:scope.names.lookup x=some .local:=by rfl) (hs:∀ x,foldedSetIterable iter X.env x=pure x:=by intro _; rfl) :
  PE X (.ListComp elt [⟨.Name x px,iter,[],0⟩] scope pos) (ylj wi te js):=by
 intro pins s σ H Q I h
 rw [eval_ListComp]
 refine wpAny_comprehension_free (use:=none) rfl hs hclos hkind hnames (thn (hi pins s σ H _ I h) fun v s1 h1=>thn h1 fun itv s2 h2=>?_)
 obtain ⟨it,fp,tn,J,H2,e,I2,T,st2,f2,h⟩:=h2
 subst e
 refine yb0 (R:=fun D H'=>Q (.ref D) H') (RR:=compPost (model X.prog X.w) X.A X.xe none (EP X pins σ Q)) hc he hcell hkind hx hnd hfr hyc hrel hjs I2 T st2 f2 h ?_
 intro D C H' s' m f hn I' q
 refine ⟨m,hn,fun h' sb=>⟨.ref D,H',?_,rfl,q⟩⟩
 exact I'.turned (t':=s'.toks) (fun b o hb e=>sb.extBut b o hb e) f.1 f.2.1 f.2.2.2.1 f.2.2.2.2.1 f.2.2.2.2.2
theorem ym0 {i:Nat} {y:Str} {py spos:Pos} (hN:X.N.Nodup) (hy:X.N[i]?=some y) (hl:X.env.scope.names.lookup y=some .local) (hc:X.calm=true) (hi:PI X (.Name x px) iter wi)
  (he:∀ (C:Addr) (s2:Shared) (H2:Hp) (fp:List Addr),PE (X.compF scope ys C x s2 H2 fp) elt te) (hjs:js.map (fun j=>X.N[j]?)=ys.map some)
  (hclos:closureFor scope X.env=pure (j3 ys X.env)) (hyc:∀ y∈ys,X.env.kindOf y=some .cell) (hrel:∀ y∈ys,(relabel scope X.env).names.lookup y=some .cell)
  (hsw:swapsWith (.ListComp elt [⟨.Name x px,iter,[],0⟩] scope pos) (some (.Name y py)) spos.line X.env=pure true:=by rfl) (hnd:(x :: ys).Nodup:=by decide)
  (hfr:∀ y∈scope.names,y.2=.free->y.1∈ys:=by decide +kernel) (hcell:∀ y∈scope.names,y.2≠.cell:=by decide +kernel) (hkind:scope.kind=.function:=by rfl)
  (hnames:∀ y∈scope.names,y.2=.local->scope.names.lookup y.1=some .local:=by decide +kernel) (hx:scope.names.lookup x=some .local:=by rfl) (hs:∀ x,foldedSetIterable iter X.env x=pure x:=by intro _; rfl) :
  PS X (.Assign [.Name y py] (.ListComp elt [⟨.Name x px,iter,[],0⟩] scope pos) spos) (yzg (ylj wi te js) (wy i)):=by
 intro pins s σ H D0 I h
 rw [exec_Assign_Name_used _ _ _ _ hsw]
 refine wpAny_bind (wpAny_standAt (wpAny_bind ?_))
 show wpAny _ X.A (do let _ <- comprehension (.ListComp elt [⟨.Name x px,iter,[],0⟩] scope pos) scope X.env _ (newList []) false (eval iter X.env) (some (assign (.Name y py) X.env))) _ _ s
 refine wpAny_bind (wpAny_mono (wpAny_comprehension_free (use:=some (assign (.Name y py) X.env)) (Q:=fun _ s'=>SP X pins D0 .next s') rfl hs hclos hkind hnames (thn (hi pins s σ H _ I h) fun v s1 h1=>thn h1 fun itv s2 h2=>?_)) (fun _ s' hq=>wpAny_pure (wpAny_pure hq)) fun _ _ e=>e)
 obtain ⟨it,fp,tn,J,H2,e,I2,T,st2,f2,h⟩:=h2
 subst e
 refine yb0 (R:=fun D H'=>wy i (.ref D) σ H' D0.nx) (RR:=compPost (model X.prog X.w) X.A X.xe (some (assign (.Name y py) X.env)) (fun _ s'=>SP X pins D0 .next s')) hc he hcell hkind hx hnd hfr hyc hrel hjs I2 T st2 f2 h ?_
 intro D C H' s' m f hn I' q
 refine wpAny_assign_Name (ybd (v:=V.ref D) I' hN hy (Or.inl hl) rfl (fun s'' I'' k''=>?_) (Or.inr hl))
 refine ⟨m,?_,fun h' sb=>⟨_,H',?_,q⟩⟩
 ·obtain ⟨b,sb,hb⟩:=k''
  refine hn.sameBut sb fun z=>?_
  rcases hb with hb | hb
  ·exact f.2.1 (z.trans hb)
  ·exact f.2.2.2.2.1 y b hb z.symm
 ·exact I''.turned (t':=s''.toks) (fun b o hb e=>sb.extBut b o hb e) f.1 f.2.1 f.2.2.2.1 f.2.2.2.2.1 f.2.2.2.2.2
theorem yr6 {H:Hp} {Q:VK} (h:wi σ H fun J H1=>∀ D,H1 D=none->zu J te (w5 js σ) D (fun H2=>Q (.ref D) H2) H1):ylj wi te js σ H Q:=h
theorem j4 {K:W.Frag} {a D:Addr} {xs:List V} {te:TE} {fr:St} {R:Hp->Prop} {H1:Hp} (Pv:Nat->Hp->Prop) (h0:Pv 0 (upd H1 D (.lst []))) (hl:∀ i H,i <= xs.length->Pv i H->SqL K H a xs)
  (hs:∀ i x H,xs[i]?=some x->i < xs.length->Pv i H->te (some x :: fr) H fun y H4=>∃ ys,H4 D=some (.lst ys)/\ys.length < sizeLine/\∃ m',m' < xs.length - i/\cW xs.length Pv (i+1) m' (upd H4 D (.lst (ys++[y]))))
  (hd:∀ H,Pv xs.length H->R H):zu (Itl K a) te fr D R H1:=by
 refine ⟨cW xs.length Pv,⟨xs.length,by simp,Nat.zero_le _,h0⟩,?_⟩
 rintro i m H ⟨rfl,hi,p⟩
 have q:=hl i H hi p
 by_cases hlt:i < xs.length
 ·refine .inr ⟨⟨xs,xs[i],q,by simp [hlt]⟩,fun x H' y=>?_⟩
  obtain ⟨e,y⟩:=y
  subst e
  exact hs i x _ (y xs q) hlt p
 ·have e:i=xs.length:=by omega
  subst e
  exact .inl ⟨⟨xs,q,Nat.le_refl _⟩,hd H p⟩
theorem ya4 {lo:Int} {n:Nat} {D:Addr} {te:TE} {fr:St} {R:Hp->Prop} {H1:Hp} (Pv:Nat->Hp->Prop) (h0:Pv 0 (upd H1 D (.lst [])))
  (hs:∀ i H,i < n->Pv i H->te (some (.int (lo+i)) :: fr) H fun y H4=>∃ ys,H4 D=some (.lst ys)/\ys.length < sizeLine/\∃ m',m' < n - i/\cW n Pv (i+1) m' (upd H4 D (.lst (ys++[y]))))
  (hd:∀ H,Pv n H->R H):zu (Itr lo n) te fr D R H1:=by
 refine ⟨cW n Pv,⟨n,by simp,Nat.zero_le _,h0⟩,?_⟩
 rintro i m H ⟨rfl,hi,p⟩
 by_cases hlt:i < n
 ·refine .inr ⟨hlt,fun x H' y=>?_⟩
  obtain ⟨e,y⟩:=y
  subst e y
  exact hs i _ hlt p
 ·have e:i=n:=by omega
  subst e
  exact .inl ⟨Nat.le_refl _,hd H p⟩
end
end L2
namespace L2
theorem vy {α:Type} {P:α->Prop}:∀ y∈([]:List α),P y:=fun _ h=>nomatch h
theorem all_cons {α:Type} {P:α->Prop} {y:α} {r:List α} (h:P y) (t:∀ z∈r,P z):∀ z∈y :: r,P z:=fun z hz=>by
 rcases List.mem_cons.mp hz with e | hz
 ·exact e ▸ h
 ·exact t z hz
end L2
namespace L2
open PySem PySem.Spec PyProof.Rows
section
variable {prog:Program} {w:World} {A:Around} {E:Value->Shared->Prop} {s:Shared}
end
section
variable {X:Cx}
theorem ygj:∀ {ns:List Int} {us:List Value},wu (ns.map V.int) us->∃ xs:Array (Int × Tok),us.toArray=intItems xs/\xs.toList.map (·.1)=ns
 | [],_,.nil=>⟨#[],by simp [intItems],rfl⟩
 | n :: r,_,.cons (l₂:=us) a t=>by
  obtain ⟨tk,rfl⟩:=a
  obtain ⟨xs,e1,e2⟩:=ygj t
  refine ⟨((n,tk) :: xs.toList).toArray,?_,by simp [e2]⟩
  have:us=(intItems xs).toList:=by rw [<- e1]
  rw [this]
  simp [intItems]
theorem jp (hc:X.calm=true):ybq X (.builtin "sum") (fun vs H Q=>∃ p ns,vs=[.ref p]/\SqL X.K H p (List.map V.int ns)/\Q (.int ns.sum) H):=by
 intro pins s σ H xs us Q I r h
 obtain ⟨p,ns,rfl,hq,q⟩:=h
 obtain ⟨u,rfl,rx⟩:=yl8 r
 cases rx
 obtain ⟨its,r',pl,hz⟩:=I.list hq
 obtain ⟨ys,e1,e2⟩:=ygj r'
 have hl:s.heap.IsList p (intItems ys):=e1 ▸ pl.isList
 refine sum_intListG (I.ok.hd hc) hl fun h' tk t' hk=>?_
 rw [preSum_eq,List.take_of_length_le (by simp),e2]
 exact ⟨.int ns.sum,H,I.kept (t':=tk) hk,⟨_,rfl⟩,q⟩
end
end L2
namespace L2
open PySem PySem.Spec PyProof.Rows
section
variable {X:Cx} {e:Expr} {t1 t2:TE}
def yug (t1 t2:TE):TE:=fun σ H Q=>t1 σ H Q\/t2 σ H Q
theorem yhf (h1:PE X e t1) (h2:PE X e t2):PE X e (yug t1 t2):=by
 intro pins s σ H Q I h
 rcases h with h | h
 ·exact h1 pins s σ H Q I h
 ·exact h2 pins s σ H Q I h
theorem yg8 {σ:St} {H:Hp} {Q:VK} (h:t1 σ H Q):yug t1 t2 σ H Q:=.inl h
theorem ycb {σ:St} {H:Hp} {Q:VK} (h:t2 σ H Q):yug t1 t2 σ H Q:=.inr h
end
def yy2 (i j:Int):Prop:=∃ k:Nat,i.natAbs < 2 ^ k/\j.natAbs < 2 ^ k/\k <= 2 ^ 20
theorem ysa {X:Cx}:OpR X (binaryOp .Mult) (rI yy2 fun i j=>.int (i * j)):=opI fun _ _ _ _ _ _ _ hc q=>mul_int q (by
 obtain ⟨k,h1,h2,h3⟩:=hc
 exact IntMulOk.of_bits (Nat.le_trans (PyProof.Rows.intBits_le h1) h3) (Nat.le_trans (PyProof.Rows.intBits_le h2) h3))
theorem ywl {i j:Int} {H:Hp} {Q:VK} (k:Nat) (h1:i.natAbs < 2 ^ k) (h2:j.natAbs < 2 ^ k) (h3:k <= 2 ^ 20) (h:Q (.int (i * j)) H):rI yy2 (fun i j=>.int (i * j)) (.int i) (.int j) H Q:=⟨i,j,rfl,rfl,⟨k,h1,h2,h3⟩,h⟩
theorem y8 {α:Type} {H:Hp} {p:Addr} {o:HO} {A:Hp->α->Prop} {Q:α} (hp:H p=none) (h:∀ H',vh H H'->H' p=some o->A H' Q):A (upd H p o) Q:=h _ (vj hp) yd
section
variable {K:W.Frag} {a D:Addr} {xs:List V} {te:TE} {fr:St} {R:Hp->Prop} {H1:Hp}
theorem yea (Pv:Nat->Hp->Prop) (h0:Pv 0 (upd H1 D (.lst []))) (hl:∀ i H,i <= xs.length->Pv i H->SqT K H a xs)
  (hs:∀ i x H,xs[i]?=some x->i < xs.length->Pv i H->te (some x :: fr) H fun y H4=>∃ ys,H4 D=some (.lst ys)/\ys.length < sizeLine/\∃ m',m' < xs.length - i/\cW xs.length Pv (i+1) m' (upd H4 D (.lst (ys++[y]))))
  (hd:∀ H,Pv xs.length H->R H):zu (Itt K a) te fr D R H1:=by
 refine ⟨cW xs.length Pv,⟨xs.length,by simp,Nat.zero_le _,h0⟩,?_⟩
 rintro i m H ⟨rfl,hi,p⟩
 have q:=hl i H hi p
 by_cases hlt:i < xs.length
 ·refine .inr ⟨⟨xs,xs[i],q,by simp [hlt]⟩,fun x H' y=>?_⟩
  obtain ⟨e,y⟩:=y
  subst e
  exact hs i x _ (y xs q) hlt p
 ·have e:i=xs.length:=by omega
  subst e
  exact .inl ⟨⟨xs,q,Nat.le_refl _⟩,hd H p⟩
theorem ynl (Pv:Nat->Hp->Prop) (h0:Pv 0 (upd H1 D (.lst []))) (hl:∀ i H,i <= xs.length->Pv i H->SqT K H a xs)
  (hs:∀ i x H,xs[i]?=some x->i < xs.length->Pv i H->te [some x] H fun y H4=>∃ ys,H4 D=some (.lst ys)/\ys.length < sizeLine/\∃ m',m' < xs.length - i/\cW xs.length Pv (i+1) m' (upd H4 D (.lst (ys++[y]))))
  (hd:∀ H,Pv xs.length H->R H):ybi (Itt K a) te D R H1:=by
 refine ⟨cW xs.length Pv,⟨xs.length,by simp,Nat.zero_le _,h0⟩,?_⟩
 rintro i m H ⟨rfl,hi,p⟩
 have q:=hl i H hi p
 by_cases hlt:i < xs.length
 ·refine .inr ⟨⟨xs,xs[i],q,by simp [hlt]⟩,fun x H' y=>?_⟩
  obtain ⟨e,y⟩:=y
  subst e
  exact hs i x _ (y xs q) hlt p
 ·have e:i=xs.length:=by omega
  subst e
  exact .inl ⟨⟨xs,q,Nat.le_refl _⟩,hd H p⟩
def Mp (H1:Hp) (D:Addr) (f:Nat->V) (i:Nat) (H:Hp):Prop:=vh H1 H/\H D=some (.lst ((List.range i).map f))
theorem Mp.zero {f:Nat->V} (hD:H1 D=none):Mp H1 D f 0 (upd H1 D (.lst [])):=⟨vj hD,yd⟩
theorem Mp.step {f:Nat->V} {n i:Nat} {H4:Hp} {y:V} (hD:H1 D=none) (hn:n < sizeLine) (hi:i < n) (S:vh H1 H4) (h4:H4 D=some (.lst ((List.range i).map f))) (e:y=f i) :
  ∃ ys,H4 D=some (.lst ys)/\ys.length < sizeLine/\∃ m',m' < n - i/\cW n (Mp H1 D f) (i+1) m' (upd H4 D (.lst (ys++[y]))):=by
 refine w9 (n:=n) h4 (by rw [List.length_map,List.length_range]; omega) hi ⟨?_,?_⟩
 ·intro b o hb
  rw [yu (ye hb hD)]
  exact S b o hb
 ·rw [yd,List.range_succ,List.map_append,e]
  rfl
theorem jl {f:Nat->V} {g:V->V} {xs:List V} (h:∀ i x,xs[i]?=some x->f i=g x):(List.range xs.length).map f=xs.map g:=by
 refine List.ext_getElem? fun i=>?_
 rw [List.getElem?_map,List.getElem?_map]
 by_cases hi:i < xs.length
 ·rw [List.getElem?_range hi,List.getElem?_eq_getElem hi]
  show some (f i)=some (g xs[i])
  rw [h i _ (List.getElem?_eq_getElem hi)]
 ·rw [List.getElem?_eq_none (by rw [List.length_range]; omega),List.getElem?_eq_none (by omega)]
  rfl
def ofG (g:V->V) (xs:List V) (i:Nat):V:=((xs[i]?).map g).getD .non
theorem yej {g:V->V} {xs:List V} {i:Nat} {x:V} (h:xs[i]?=some x):ofG g xs i=g x:=by
 unfold ofG
 rw [h]
 rfl
def MpK (H1:Hp) (D:Addr) (f:Nat->V) (n i:Nat):VK:=fun y H4=>∃ ys,H4 D=some (.lst ys)/\ys.length < sizeLine/\∃ m',m' < n - i/\cW n (Mp H1 D f) (i+1) m' (upd H4 D (.lst (ys++[y])))
theorem Mp.done {g:V->V} {i:Nat} {x y:V} {H4:Hp} (hD:H1 D=none) (hn:xs.length < sizeLine) (hx:xs[i]?=some x) (S:vh H1 H4) (h4:H4 D=some (.lst ((List.range i).map (ofG g xs)))) (e:y=g x):MpK H1 D (ofG g xs) xs.length i y H4:=by
 have hi:i < xs.length:=by
  rcases Nat.lt_or_ge i xs.length with q | q
  ·exact q
  ·rw [List.getElem?_eq_none q] at hx; cases hx
 exact Mp.step hD hn hi S h4 (e.trans (yej hx).symm)
theorem Mp.doneR {f:Nat->V} {n i:Nat} {y:V} {H4:Hp} (hD:H1 D=none) (hn:n < sizeLine) (hi:i < n) (S:vh H1 H4) (h4:H4 D=some (.lst ((List.range i).map f))) (e:y=f i):MpK H1 D f n i y H4:=Mp.step hD hn hi S h4 e
theorem ya5 (g:V->V) (hq:SqL K H1 a xs) (hD:H1 D=none)
  (hs:∀ i x H,xs[i]?=some x->vh H1 H->H D=some (.lst ((List.range i).map (ofG g xs)))->te (some x :: fr) H (MpK H1 D (ofG g xs) xs.length i))
  (hd:∀ H,vh H1 H->H D=some (.lst (xs.map g))->R H):zu (Itl K a) te fr D R H1 :=
 j4 (Mp H1 D (ofG g xs)) (Mp.zero hD) (fun _ _ _ p=>p.1.seq hq) (fun i x H hx hi p=>hs i x H hx p.1 p.2)
  fun H p=>hd H p.1 (by rw [<- jl (f:=ofG g xs) fun i x=>yej]; exact p.2)
theorem ybw (g:V->V) (hq:SqL K H1 a xs) (hD:H1 D=none)
  (hs:∀ i x H,xs[i]?=some x->vh H1 H->H D=some (.lst ((List.range i).map (ofG g xs)))->te [some x] H (MpK H1 D (ofG g xs) xs.length i))
  (hd:∀ H,vh H1 H->H D=some (.lst (xs.map g))->R H):ybi (Itl K a) te D R H1 :=
 uf (Mp H1 D (ofG g xs)) (Mp.zero hD) (fun _ _ _ p=>p.1.seq hq) (fun i x H hx hi p=>hs i x H hx p.1 p.2)
  fun H p=>hd H p.1 (by rw [<- jl (f:=ofG g xs) fun i x=>yej]; exact p.2)
theorem ybv (g:V->V) (hq:SqT K H1 a xs) (hD:H1 D=none)
  (hs:∀ i x H,xs[i]?=some x->vh H1 H->H D=some (.lst ((List.range i).map (ofG g xs)))->te (some x :: fr) H (MpK H1 D (ofG g xs) xs.length i))
  (hd:∀ H,vh H1 H->H D=some (.lst (xs.map g))->R H):zu (Itt K a) te fr D R H1 :=
 yea (Mp H1 D (ofG g xs)) (Mp.zero hD) (fun _ _ _ p=>p.1.tup hq) (fun i x H hx hi p=>hs i x H hx p.1 p.2)
  fun H p=>hd H p.1 (by rw [<- jl (f:=ofG g xs) fun i x=>yej]; exact p.2)
theorem yjl (g:V->V) (hq:SqT K H1 a xs) (hD:H1 D=none)
  (hs:∀ i x H,xs[i]?=some x->vh H1 H->H D=some (.lst ((List.range i).map (ofG g xs)))->te [some x] H (MpK H1 D (ofG g xs) xs.length i))
  (hd:∀ H,vh H1 H->H D=some (.lst (xs.map g))->R H):ybi (Itt K a) te D R H1 :=
 ynl (Mp H1 D (ofG g xs)) (Mp.zero hD) (fun _ _ _ p=>p.1.tup hq) (fun i x H hx hi p=>hs i x H hx p.1 p.2)
  fun H p=>hd H p.1 (by rw [<- jl (f:=ofG g xs) fun i x=>yej]; exact p.2)
theorem yql {tr:TA} {σ:St} {H:Hp} {R:It->Hp->Prop} (h:tr σ H fun vs H1=>∃ i j:Int,vs=[.int i,.int j]/\(-(2 ^ 62) <= i/\i < 2 ^ 62/\-(2 ^ 62) <= j/\j < 2 ^ 62)/\R (Itr i (j - i).toNat) H1):yym tr σ H R:=h
end
structure Mk0 (K:W.Frag) (C:Addr):Prop where
 makes:W.makesIn K C=true
 init:W.findIn K (.ref C) "__init__"=some (some (.builtin "object.__init__"))
 kp:W.keepIn K (.ref C)=true
end L2
namespace L2
open PySem PySem.Spec PyProof.Rows
end L2
namespace L2
open PySem PySem.Spec PyProof.Rows
abbrev Cx.compT (X:Cx) (scope:Scope) (ys:List Str) (C:Addr) (xs:List Str) (s2:Shared) (H2:Hp) (fp:List Addr):Cx :=
 { X with N:=xs++ys,s₀:=s2,H₀:=H2,env:=compEnvC scope (j3 ys X.env) C X.env,outer:=X.stack,ex:=fp,fn:=fun _=>false,pn:=[],xe:=fun _ _=>False }
def je (J:It) (g:TG) (te:TE) (n:Nat) (fr:St) (D:Addr) (R:Hp->Prop) (H1:Hp):Prop:=∃ W:Nat->Nat->Hp->Prop,(∃ m,W 0 m (upd H1 D (.lst []))) /\
 ∀ i m H2,W i m H2->(J.stop i H2/\R H2)\/(J.go i H2/\∀ x H3 pre,J.yld i H2 x H3->List.length pre=n->g x (pre++fr) H3 fun σ' H'=>(∃ pre',List.length pre'=n/\σ'=pre'++fr)/\te σ' H' fun y H4=>∃ ys,H4 D=some (.lst ys)/\ys.length < sizeLine/\∃ m',m' < m/\W (i+1) m' (upd H4 D (.lst (ys++[y]))))
def yll (wi:TI) (g:TG) (te:TE) (n:Nat) (js:List Nat):TE:=fun σ H Q=>wi σ H fun J H1=>∀ D,H1 D=none->je J g te n (w5 js σ) D (fun H2=>Q (.ref D) H2) H1
section
variable {X:Cx} {iter elt tg:Expr} {xs:List Str} {g:TG} {pos:Pos} {scope:Scope} {te:TE} {wi:TI} {pins:List (Addr × Obj)} {σ:St} {ys:List Str} {js:List Nat}
theorem ybu {s2:Shared} {H2:Hp} {it:Addr} {fp:List Addr} {tn:Nat->Heap->Prop} {J:It} (hc:X.calm=true)
  (he:∀ (C:Addr) (s2:Shared) (H2:Hp) (fp:List Addr),PE (X.compT scope ys C xs s2 H2 fp) elt te)
  (hgt:∀ (C:Addr) (s2:Shared) (H2:Hp) (fp:List Addr),PG (X.compT scope ys C xs s2 H2 fp) tg g)
  (hcell:∀ y∈scope.names,y.2≠.cell) (hkind:scope.kind=.function)
  (hfr:∀ y∈scope.names,y.2=.free->y.1∈ys) (hyc:∀ y∈ys,X.env.kindOf y=some .cell) (hrel:∀ y∈ys,(relabel scope X.env).names.lookup y=some .cell) (hjs:js.map (fun j=>X.N[j]?)=ys.map some)
  (I2:Inv X pins σ H2 s2) (T:yn8 X.prog X.w X.K tg J fp it tn) (st2:tn 0 s2.heap) (f2:∀ b∈fp,yf8 X pins H2 b)
  {R:Addr->Hp->Prop} (h:∀ D,H2 D=none->je J g te xs.length (w5 js σ) D (R D) H2) {RR:Value->Addr->Result->Shared->Prop} {E:Value->Shared->Prop}
  (hR:∀ (D C:Addr) (H':Hp) (s':Shared) (m:Str->Option Value),yf8 X pins H' C->s'.heap.Ns C m->Inv X pins σ H' s'->R D H'->RR (.ref D) C (.ok .next) s') :
  wpAny (model X.prog X.w) X.A (newList []) (fun acc s₃=>wpAny (model X.prog X.w) X.A (newFunctionEnv scope X.env.globals (j3 ys X.env) [] X.env.qual none .none (some X.env)) (fun cenv s₄ =>
   codeAny (model X.prog X.w) X.A (.compStart (.ListComp elt [⟨tg,iter,[],0⟩] scope pos) 0 (.ref it) acc { cenv with scope:=relabel scope X.env }) (RR acc cenv.locals) s₄) E s₃) E s2:=by
 have hsub:∀ y c,(j3 ys X.env).lookup y=some c->X.env.cells.lookup y=some c:=fun y c e=>by
  obtain ⟨m,rfl⟩:=yc3 e
  obtain ⟨c',q⟩:=I2.ok.has y (.inl (hyc y m))
  rw [q]
  rfl
 refine wpAny_newObj_type (wpAny_newFunctionEnv hcell (by intro y hy; simp at hy) (fun h₁ hns₁ hsb₁=>?_) hkind)
 dsimp only at hns₁ hsb₁ ⊢
 generalize hH2:s2.heap.push { cls:=.type "list",dict:=none,data:=.seq ([]:List Value).toArray }=G at hns₁ hsb₁ ⊢
 have hC:G.objs.size=s2.heap.objs.size+1:=by rw [<- hH2,Heap.size_push]
 have hDC:s2.heap.objs.size≠G.objs.size:=by rw [hC]; exact Nat.ne_of_lt (Nat.lt_succ_self _)
 have hCle:s2.heap.objs.size <= G.objs.size:=by rw [hC]; exact Nat.le_succ _
 have below:∀ b,b < s2.heap.objs.size->b≠G.objs.size/\b≠s2.heap.objs.size:=fun b hb=>⟨by rw [hC]; exact Nat.ne_of_lt (Nat.lt_succ_of_lt hb),Nat.ne_of_lt hb⟩
 have old:∀ b o,s2.heap.get? b=some o->h₁.get? b=some o:=fun b o e=>hsb₁.extBut b o (below b (Heap.lt_size e)).1 (Heap.get?_push_of_some _ (hH2 ▸ Heap.get?_push_of_some _ e))
 have hacc:h₁.get? s2.heap.objs.size=some { cls:=.type "list",data:=.seq ([]:List Value).toArray }:=hsb₁.extBut _ _ hDC (Heap.get?_push_of_some _ (hH2 ▸ Heap.get?_push_size _ rfl))
 have fpl:∀ b∈fp,b < s2.heap.objs.size:=fun b hb=>let ⟨_,e,_⟩:=T.obj 0 _ st2 b hb; Heap.lt_size e
 have fpS:∀ b∈fp,b∉frs X.stack:=fun b hb z=>(List.mem_cons.mp (I2.stkSub b z)).elim (f2 b hb).2.1 (f2 b hb).2.2.1
 have nC:H2 G.objs.size=none:=I2.hok.fresh hCle
 have nD:H2 s2.heap.objs.size=none:=I2.hok.fresh (Nat.le_refl _)
 have cellOld:∀ y c,(j3 ys X.env).lookup y=some c->∃ v o,s2.heap.get? c=some o/\o.data=.cell v:=fun y c e=>by
  obtain ⟨v,o,q1,q2⟩:=I2.cell y c (hsub y c e)
  exact ⟨v,o,q1,q2⟩
 have okC:(X.compT scope ys G.objs.size xs s2 H2 fp).Ok:=by
  refine ⟨I2.ok.mod,hkind,I2.ok.glob,I2.ok.blt,hCle,fun y z c e e'=>I2.ok.inj y z c (hsub y c e) (hsub z c e'),fun y e=>?_,fun y c z e=>(by cases z),I2.ok.hd,I2.ok.frames,.inl rfl,fun b hb=>⟨(below b (fpl b hb)).1,fun y c e=>(f2 b hb).2.2.2.2.1 y c (hsub y c e)⟩,I2.bs,?_,fun b o e hb=>?_,fun b hb=>fpS b hb,I2.stack,I2.stkFree⟩
  ·have e':(relabel scope X.env).names.lookup y=some .cell\/(relabel scope X.env).names.lookup y=some .free:=e
   have hin:y∈ys:=by
    rcases e' with e' | e'
    ·obtain ⟨k0,m,q⟩:=w8 e'
     rcases q with q | q
     ·exact absurd q.symm (hcell _ m)
     ·exact hfr _ m q
    ·obtain ⟨k0,m,q⟩:=w8 e'
     rcases q with q | q
     ·exact hfr _ m q.symm
     ·exact hfr _ m q
   exact ⟨_,jm hin⟩
  ·exact Nat.le_trans I2.ok.bsz I2.sz
  ·rcases (f2 b hb).2.2.2.1 with z | z
   ·exact I2.ok.noex b o e z
   ·exact absurd (Nat.lt_of_lt_of_le (Heap.lt_size (I2.ok.bs b o e).1) z) (Nat.lt_irrefl _)
 have hlen:(w5 js σ).length=ys.length:=by
  have:=congrArg List.length hjs
  simpa [w5] using this
 have I3:∀ tk,Inv (X.compT scope ys G.objs.size xs s2 H2 fp) [] (List.replicate xs.length none++w5 js σ) (upd H2 s2.heap.objs.size (.lst [])) { s2 with heap:=h₁,toks:=tk }:=fun tk =>
  ⟨okC,rfl,I2.bare,Un.laid old (Nat.le_refl _) nD,⟨_,hns₁,fun i y v e1 e2 e3=>by
    by_cases hi0:i < xs.length
    ·rw [List.getElem?_append_left (by simpa using hi0),List.getElem?_replicate,if_pos hi0] at e2
     cases e2
    ·obtain ⟨i,rfl⟩:∃ i',i=xs.length+i':=⟨i - xs.length,by omega⟩
     have e1:ys[i]?=some y:=by rw [List.getElem?_append_right (by omega)] at e1; simpa using e1
     have e2:(w5 js σ)[i]?=some (some v):=by rw [List.getElem?_append_right (by simp)] at e2; simpa using e2
     have hy:y∈ys:=List.mem_of_getElem? e1
     have ej:=congrArg (fun l=>l[i]?) hjs
     simp only [List.getElem?_map,e1,Option.map_some] at ej
     cases q:js[i]? with
     | none=>rw [q] at ej; cases ej
     | some j =>
      rw [q] at ej
      have ej:X.N[j]?=some y:=by simpa using ej
      have es:σ[j]?=some (some v):=by
       simp only [w5,List.getElem?_map,q,Option.map_some,Option.some.injEq] at e2
       cases r:σ[j]? with
       | none=>rw [r] at e2; cases e2
       | some w'=>rw [r] at e2; rw [show w'=some v from e2]
      obtain ⟨m0,_,hl0⟩:=I2.loc
      obtain ⟨u,ru,lk⟩:=hl0 j y v ej es (.inr (.inl (hyc y hy)))
      refine ⟨u,ru,.inr ⟨.inl (hrel y hy),?_⟩⟩
      rcases lk with ⟨k1,_⟩ | ⟨_,c,ec,o,ho,hd⟩
      ·rw [hyc y hy] at k1; cases k1
      ·refine ⟨c,?_,o,old c o ho,hd⟩
       show (j3 ys X.env).lookup y=some c
       rw [jm hy,ec]
       rfl⟩,fun y c e=>(by
    obtain ⟨v,o,q1,q2⟩:=cellOld y c e
    exact ⟨v,o,old c o q1,q2⟩),(by show upd H2 s2.heap.objs.size _ G.objs.size=none; rw [yu hDC.symm]; exact nC),fun y c e=>(by
    obtain ⟨v,o,q1,q2⟩:=cellOld y c e
    show upd H2 s2.heap.objs.size _ c=none
    rw [yu (below c (Heap.lt_size q1)).2]
    exact I2.freeC y c (hsub y c e)),fun p hp=>(by simp at hp),
   I2.hok.laid old (Nat.le_refl _) ⟨Nat.zero_le _,[],_,.nil,hacc⟩,by show (List.replicate xs.length none++w5 js σ).length=(xs++ys).length; simp [hlen]⟩
 have stat:∀ {H':Hp},(∀ b∈fp,H' b=none)->∀ b∈fp,yf8 (X.compT scope ys G.objs.size xs s2 H2 fp) [] H' b:=fun hn b hb=>⟨hn b hb,(below b (fpl b hb)).1,fpS b hb,.inl hb,fun y c e=>(f2 b hb).2.2.2.2.1 y c (hsub y c e),fun p hp=>(by simp at hp)⟩
 have loop:∀ tk,codeAny (model X.prog X.w) X.A (.compLoop (.ListComp elt [⟨tg,iter,[],0⟩] scope pos) 0 (.ref it) (.ref s2.heap.objs.size) (compEnvC scope (j3 ys X.env) G.objs.size X.env)) (RR (.ref s2.heap.objs.size) G.objs.size) { s2 with heap:=h₁,toks:=tk }:=by
  intro tk
  obtain ⟨W,⟨m0,w0⟩,turn⟩:=h s2.heap.objs.size nD
  refine codeAny_loop rfl (fun n s'=>∃ i v H',List.length v=xs.length/\Inv (X.compT scope ys G.objs.size xs s2 H2 fp) [] (v++w5 js σ) H' s'/\tn i s'.heap/\(∀ b∈fp,H' b=none)/\W i n H') (fun n s' hI=>?_) m0
   ⟨0,List.replicate xs.length none,_,by simp,I3 tk,T.keep 0 _ _ st2 (fun b hb o e=>old b o e),fun b hb=>(by rw [yu (below b (fpl b hb)).2]; exact (f2 b hb).1),w0⟩
  obtain ⟨i,v,H',hv,I,st,fr,w⟩:=hI
  show wpAny _ _ ((compTurn (.ListComp elt [⟨tg,iter,[],0⟩] scope pos) 0 (.ref it) (.ref s2.heap.objs.size) (compEnvC scope (j3 ys X.env) G.objs.size X.env)).onRaise (fun x=>do noteFrame x (compEnvC scope (j3 ys X.env) G.objs.size X.env); theTreesLotGoes x)) _ _ s'
  refine wpAny_noted ?_
  rw [compTurn_list1]
  refine wpAny_bind (wpAny_standAt (wpAny_bind ?_))
  rcases turn i n H' w with ⟨stop,q⟩ | ⟨go,step⟩
  ·refine thn (T.done (X.compT scope ys G.objs.size xs s2 H2 fp) rfl rfl rfl hc i [] s' (v++w5 js σ) H' _ I (stat fr) st stop) fun r s4 ⟨hr,I4⟩=>?_
   subst hr
   refine wpAny_pure ?_
   obtain ⟨m,hn,_⟩:=I4.loc
   exact hR _ _ H' s4 m (I2.fpOk hCle I4.free) hn (I2.call' (ch:=fp) I4.os I4.base I4.hok I4.bare fun b hb=>⟨(f2 b hb).2.2.2.1,(f2 b hb).2.1,(f2 b hb).2.2.2.2.1,(f2 b hb).2.2.2.2.2⟩) q
  ·refine thn (T.item (X.compT scope ys G.objs.size xs s2 H2 fp) rfl rfl rfl hc i [] s' (v++w5 js σ) H' _ I (stat fr) st go) fun r s4 ⟨u,hr,h4⟩=>?_
   subst hr
   refine wpAny_bind (thn h4 fun _ s5 ⟨y,H5,I5,r5,y5,st5,fr5⟩=>wpAny_bind ?_)
   have I5':=I5.pinned (stat fr5) (T.obj _ _ st5)
   refine yuf (hgt _ _ _ _ _ s5 (v++w5 js σ) H5 y u _ I5' r5 (step y H5 v y5 hv)) fun _ s6 ⟨σ',H6,I6,⟨pre',hp',ep⟩,q6⟩=>?_
   subst ep
   refine wpAny_bind (wpAny_bind (yuf (he _ _ _ _ _ s6 (pre'++w5 js σ) H6 _ I6 q6) fun u2 s7 ⟨y2,H7,I7,r7,zs,hD,hl,m',hm,w'⟩=>wpAny_bind ?_))
   refine yuf (wn _ s7 (pre'++w5 js σ) H7 (.ref s2.heap.objs.size) [y2] (.ref s2.heap.objs.size) [u2] (fun _ H8=>H8=upd H7 s2.heap.objs.size (.lst (zs++[y2]))) I7 rfl (.cons r7 .nil) ⟨_,zs,y2,rfl,rfl,hD,hl,rfl⟩) fun _ s8 ⟨_,H8,I8,_,e8⟩=>?_
   subst e8
   have pin:∀ b∈fp,∀ o,s5.heap.get? b=some o->s8.heap.get? b=some o/\upd H7 s2.heap.objs.size (HO.lst (zs++[y2])) b=none:=fun b hb o e =>
    ⟨(I8.pin (b,o) (List.mem_append_right _ (List.mem_append_right _ (xh hb e)))).1,(I8.pin (b,o) (List.mem_append_right _ (List.mem_append_right _ (xh hb e)))).2.1⟩
   refine wpAny_pure (wpAny_pure ⟨rfl,m',hm,i+1,pre',_,hp',I8.unpinned,T.keep _ _ _ st5 fun b hb o e=>(pin b hb o e).1,fun b hb=>?_,w'⟩)
   obtain ⟨o,e,d⟩:=T.obj _ _ st5 b hb
   exact (pin b hb o e).2
 exact codeAny_compStart_list (loop _) (T.self X.A 0 _ _ _ (T.keep 0 _ _ st2 (fun b hb o e=>old b o e)) (loop _))
theorem yc7 (hc:X.calm=true) (hi:PI X tg iter wi) (he:∀ (C:Addr) (s2:Shared) (H2:Hp) (fp:List Addr),PE (X.compT scope ys C xs s2 H2 fp) elt te) (hjs:js.map (fun j=>X.N[j]?)=ys.map some)
  (hgt:∀ (C:Addr) (s2:Shared) (H2:Hp) (fp:List Addr),PG (X.compT scope ys C xs s2 H2 fp) tg g)
  (hclos:closureFor scope X.env=pure (j3 ys X.env)) (hyc:∀ y∈ys,X.env.kindOf y=some .cell) (hrel:∀ y∈ys,(relabel scope X.env).names.lookup y=some .cell)
  (hfr:∀ y∈scope.names,y.2=.free->y.1∈ys:=by decide +kernel) (hcell:∀ y∈scope.names,y.2≠.cell:=by decide +kernel) (hkind:scope.kind=.function:=by rfl)
  (hnames:∀ y∈scope.names,y.2=.local->scope.names.lookup y.1=some .local:=by decide +kernel) (hs:∀ x,foldedSetIterable iter X.env x=pure x:=by intro _; rfl) :
  PE X (.ListComp elt [⟨tg,iter,[],0⟩] scope pos) (yll wi g te xs.length js):=by
 intro pins s σ H Q I h
 rw [eval_ListComp]
 refine wpAny_comprehension_free (use:=none) rfl hs hclos hkind hnames (thn (hi pins s σ H _ I h) fun v s1 h1=>thn h1 fun itv s2 h2=>?_)
 obtain ⟨it,fp,tn,J,H2,e,I2,T,st2,f2,h⟩:=h2
 subst e
 refine ybu (R:=fun D H'=>Q (.ref D) H') (RR:=compPost (model X.prog X.w) X.A X.xe none (EP X pins σ Q)) hc he hgt hcell hkind hfr hyc hrel hjs I2 T st2 f2 h ?_
 intro D C H' s' m f hn I' q
 refine ⟨m,hn,fun h' sb=>⟨.ref D,H',?_,rfl,q⟩⟩
 exact I'.turned (t':=s'.toks) (fun b o hb e=>sb.extBut b o hb e) f.1 f.2.1 f.2.2.2.1 f.2.2.2.2.1 f.2.2.2.2.2
theorem yqc {H:Hp} {Q:VK} {n:Nat} (h:wi σ H fun J H1=>∀ D,H1 D=none->je J g te n (w5 js σ) D (fun H2=>Q (.ref D) H2) H1):yll wi g te n js σ H Q:=h
end
end L2
namespace L2
open PySem PySem.Spec PyProof.Rows
section
variable {X:Cx} {tg:Expr}
end
section
variable {prog:Program} {w:World} {A:Around} {E:Value->Shared->Prop} {s:Shared}
theorem jb {it l:Addr} {i:Nat} {items} {x:Value} {Q:Value->Shared->Prop} (hit:s.heap.IsTupleIter it l i) (hl:s.heap.IsTuple l items) (hx:items[i]?=some x)
  (hQ:∀ h',h'.IsTupleIter it l (i+1)->Heap.SameBut it s.heap h'->Q x { s with heap:=h' }):wpAny (model prog w) A (Builtin.SmallTypes.nextOf (.ref it)) Q E s:=by
 obtain ⟨ob,hob,hcl,hdt⟩:=id hit
 obtain ⟨ol,hol,_,nl,hdl⟩:=hl
 unfold Builtin.SmallTypes.nextOf
 refine wpAny_bind (wpAny_callSpecial?_slot (name:=Str.ofString "__next__") hit.typeIs slot_tupleiter_next (wpAny_call_entry slot_tupleiter_next hit.typeIs entry_tupleiter_next ?_ (args_tupleiter_next _)))
 show wpAny _ _ (field (.ref it) 0 >>= _) _ _ s
 refine wpAny_bind (wpAny_field hob hdt (x:=.ref l) rfl ?_)
 show wpAny _ _ (if (Value.ref l == Value.none)=true then _ else _) _ _ s
 rw [if_neg (show ¬ ((Value.ref l == Value.none)=true) from Bool.false_ne_true)]
 show wpAny _ _ (field (.ref it) 1 >>= _) _ _ s
 refine wpAny_bind (wpAny_field hob hdt (x:=.int i 0) rfl ?_)
 show wpAny _ _ (seqItems? (.ref l) >>= _) _ _ s
 refine wpAny_bind (wpAny_seqItems hol hdl ?_)
 simp only [Int.toNat_natCast,hx]
 refine wpAny_bind (wpAny_setField hob hdt (by simp) (wpAny_pure ⟨x,rfl,wpAny_pure (hQ _ ⟨_,Heap.get?_update_self _ hob (Obj.isFreed_of_fields (Obj.data_mapFields hdt _)),(Obj.cls_mapFields ..).trans hcl,?_⟩ (Heap.SameBut.update ..))⟩))
 rw [Obj.data_mapFields hdt]
 simp [rawInt]
theorem ya6 {it l:Addr} {i:Nat} {items} {Q:Value->Shared->Prop} (hh:A.handled=none) (hit:s.heap.IsTupleIter it l i) (hl:s.heap.IsTuple l items) (hx:items[i]?=none)
  (hE:∀ h' e,Heap.ExtBut it s.heap h'->(∃ o,h'.get? e=some o/\o.cls=.type "StopIteration")->E (.ref e) { s with heap:=h' }):wpAny (model prog w) A (Builtin.SmallTypes.nextOf (.ref it)) Q E s:=by
 obtain ⟨ob,hob,hcl,hdt⟩:=id hit
 obtain ⟨ol,hol,_,nl,hdl⟩:=hl
 unfold Builtin.SmallTypes.nextOf
 refine wpAny_bind (wpAny_callSpecial?_slot (name:=Str.ofString "__next__") hit.typeIs slot_tupleiter_next (wpAny_call_entry slot_tupleiter_next hit.typeIs entry_tupleiter_next ?_ (args_tupleiter_next _)))
 (show wpAny _ _ (field (.ref it) 0 >>= _) _ _ s); refine wpAny_bind (wpAny_field hob hdt (x:=.ref l) rfl ?_)
 (show wpAny _ _ (if (Value.ref l == Value.none)=true then _ else _) _ _ s); rw [if_neg (show ¬ ((Value.ref l == Value.none)=true) from Bool.false_ne_true)]
 (show wpAny _ _ (field (.ref it) 1 >>= _) _ _ s); refine wpAny_bind (wpAny_field hob hdt (x:=.int i 0) rfl ?_)
 (show wpAny _ _ (seqItems? (.ref l) >>= _) _ _ s); refine wpAny_bind (wpAny_seqItems hol hdl ?_)
 simp only [Int.toNat_natCast,hx]; refine wpAny_bind (wpAny_rule (wpAny_bind (wpAny_setField hob hdt (by simp) ?_)))
 (show wpAny _ _ (newExc (.type "StopIteration") [] >>= _) _ _ _); refine wpAny_bind ?_
 simp only [newExc,newTuple]; refine wpAny_bind (wpAny_newObj_type ?_ (by size_fits))
 refine wpAny_bind (m:=firstArgMember _ _) (wpAny_of_eq (a:=Value.none) (by first | rfl | (simp only [firstArgMember]; rfl)) (wpAny_newObj_type ?_ (by size_fits)))
 simp only [raiseNew]; refine wpAny_bind (wpAny_handled ?_)
 (first | rw [show A.in1.handled=none from hh] | rw [hh]); refine wpAny_bind (wpAny_pure (wpAny_throw ?_))
 exact hE _ _ (((Heap.SameBut.update _ ..).extBut.push _).push _) ⟨_,Heap.get?_push_size _ rfl,rfl⟩
end
section
open AutoSeq1 (wpAny_loadPart')
set_option maxRecDepth 100000
end
section
variable {prog:Program} {w:World} {A:Around} {E:Value->Shared->Prop} {s:Shared}
end
section
variable {X:Cx}
end
end L2
namespace L2
open PySem PySem.Spec PyProof.Rows
section
variable {X:Cx} {tg:Expr}
end
end L2
namespace L2
section
variable {σ:St} {H:Hp} {Q:VK} {td ty tx tv:TE}
theorem yxb (h:td σ H fun x H1=>ty σ H1 fun y H2=>∃ a v,x=.ref a/\ymd H2 a y (some v)/\Q v H2):yy1 td ty σ H Q:=h
theorem ynp (h:ty σ H fun y H1=>td σ H1 fun x H2=>∃ a o,x=.ref a/\ymd H2 a y o/\Q (.bl (!o.isSome)) H2):ykk ty td σ H Q:=h
theorem yv7 {nx bk ct:St->Hp->Prop} {rt:VK} (h:tv σ H fun v H1=>td σ H1 fun x H2=>ty σ H2 fun y H3=>∃ a H4,x=.ref a/\yuj H3 a y v H4/\nx σ H4):yyq td ty tv ⟨nx,rt,bk,ct⟩ σ H:=h
theorem yri (h:∀ p,H p=none->Q (.ref p) (upd H p (.dT []))):yo2 σ H Q:=h
end
end L2
namespace L2
open PySem PySem.Spec PyProof.Rows
def Itz (K:W.Frag) (a b:Addr):It :=
 ⟨fun i H=>∃ xs ys x y,SqL K H a xs/\SqL K H b ys/\xs[i]?=some x/\ys[i]?=some y,
  fun i H v H'=>∃ t x y,v=.ref t/\H t=none/\H'=upd H t (.tup [x,y])/\(∀ xs,SqL K H a xs->xs[i]?=some x)/\(∀ ys,SqL K H b ys->ys[i]?=some y),
  fun i H=>∃ xs ys,SqL K H a xs/\SqL K H b ys/\(xs.length <= i\/ys.length <= i)⟩
structure Zap (z TI TO i1 i2:Addr):Prop where
 a1:TI≠z
 a2:TO≠z
 a3:i1≠z
 a4:i2≠z
 a5:TI≠TO
 a6:TI≠i1
 a7:TI≠i2
 a8:TO≠i1
 a9:TO≠i2
 b1:i1≠i2
def Zst (z TI TO i1 i2 l1 l2:Addr) (i:Nat) (h:Heap):Prop:=IsZip h z TI TO .none/\IsPair h TI (.ref i1) (.ref i2)/\(∃ a b,IsPair h TO a b)/\h.IsListIter i1 l1 i/\h.IsListIter i2 l2 i
theorem ux {h:Heap} {a b:Addr} {o o':Obj} (e:h.get? a=some o) (e':h.get? b=some o') (n:o.cls≠o'.cls):a≠b:=by
 rintro rfl
 rw [e] at e'
 cases e'
 exact n rfl
theorem yo4 (z:Nat):Zap (z+4) (z+2) (z+3) z (z+1):=by
 constructor <;> (show (_:Nat)≠(_:Nat); omega)
theorem nT {a b:String} (h:Value.type a≠Value.type b):Value.type a≠Value.type b:=h
theorem Zap.apart {X:Cx} {pins:List (Addr × Obj)} {σ:St} {H:Hp} {s:Shared} {z TI TO i1 i2 l1 l2:Addr} {i:Nat} {xs ys:List Value} (d:Zap z TI TO i1 i2) (st:Zst z TI TO i1 i2 l1 l2 i s.heap) (p:PlainL s.heap l1 xs.toArray) (q:PlainL s.heap l2 ys.toArray) (_:Inv X pins σ H s):ZipApart z TI TO i1 i2 l1 l2:=by
 obtain ⟨hz,hTI,⟨a,b,hTO⟩,⟨o1,e1,c1,_⟩,⟨o2,e2,c2,_⟩⟩:=st
 obtain ⟨ol,el,cl,_⟩:=p.isList
 obtain ⟨om,em,cm,_⟩:=q.isList
 exact ⟨d.a1,d.a2,d.a3,d.a4,d.a5,d.a6,d.a7,d.a8,d.a9,d.b1,
  ux el hz (by rw [cl]; exact nT (by decide)),ux el hTO (by rw [cl]; exact nT (by decide)),ux el e1 (by rw [cl,c1]; decide),ux el e2 (by rw [cl,c2]; decide),
  ux em hz (by rw [cm]; exact nT (by decide)),ux em hTO (by rw [cm]; exact nT (by decide)),ux em e1 (by rw [cm,c1]; decide),ux em e2 (by rw [cm,c2]; decide)⟩
theorem ymx {P:Program} {w:World} {K:W.Frag} {elts:List Expr} {x1} {tpos:Pos} (l1 l2 z TI TO i1 i2:Addr) (d:Zap z TI TO i1 i2) :
  yn8 P w K (.Tuple elts x1 tpos) (Itz K l1 l2) [z,TI,TO,i1,i2] z (Zst z TI TO i1 i2 l1 l2) where
 mem:=by simp
 obj:=fun i h st b hb=>by
  obtain ⟨hz,hTI,⟨_,_,hTO⟩,⟨o1,e1,_,d1⟩,⟨o2,e2,_,d2⟩⟩:=st
  simp only [List.mem_cons,List.not_mem_nil,or_false] at hb
  rcases hb with rfl | rfl | rfl | rfl | rfl
  ·exact ⟨_,hz,fun v z=>by cases z⟩
  ·exact ⟨_,hTI,fun v z=>by cases z⟩
  ·exact ⟨_,hTO,fun v z=>by cases z⟩
  ·exact ⟨o1,e1,fun v z=>by rw [d1] at z; cases z⟩
  ·exact ⟨o2,e2,fun v z=>by rw [d2] at z; cases z⟩
 keep:=fun i h h' st k=>by
  obtain ⟨hz,hTI,⟨a,b,hTO⟩,h1,h2⟩:=st
  exact ⟨k z (by simp) _ hz,k TI (by simp) _ hTI,⟨a,b,k TO (by simp) _ hTO⟩,h1.at fun o e=>k i1 (by simp) o e,h2.at fun o e=>k i2 (by simp) o e⟩
 item:=by
  intro X hP hw hK hc i pins s σ H E I hf st hg
  subst hP hw hK
  obtain ⟨xs,ys,x,y,hq,hq',hx,hy⟩:=hg
  obtain ⟨its,rv,p,hz0⟩:=I.list hq
  obtain ⟨its',rv',p',hz0'⟩:=I.list hq'
  obtain ⟨u,hu,ru⟩:=rv.get hx
  obtain ⟨u',hu',ru'⟩:=rv'.get hy
  have D:=d.apart st p p' I
  obtain ⟨hz,hTI,⟨va,vb,hTO⟩,hi1,hi2⟩:=st
  refine wpAny_pyNext_zip_item D hz hTI hTO hi1 hi2 p.isList p'.isList (x:=u) (y:=u') (by simpa using hu) (by simpa using hu') fun h' a1 a2 a3 a4 a5 a6 hk=>?_
  refine ⟨_,rfl,wpAny_letOwnedTupleGo_zip a1 fun h'' hz'' hs''=>?_⟩
  have hTn:H s.heap.objs.size=none:=I.hok.fresh (Nat.le_refl _)
  have lz:z < s.heap.objs.size:=Heap.lt_size hz
  have lo:TO < s.heap.objs.size:=Heap.lt_size hTO
  have lI:TI < s.heap.objs.size:=Heap.lt_size hTI
  have l1':i1 < s.heap.objs.size:=by obtain ⟨o,e,_⟩:=id hi1; exact Heap.lt_size e
  have l2':i2 < s.heap.objs.size:=by obtain ⟨o,e,_⟩:=id hi2; exact Heap.lt_size e
  have keep:∀ b o,b≠z->b≠TO->b≠i1->b≠i2->s.heap.get? b=some o->h''.get? b=some o:=fun b o n1 n2 n3 n4 e=>(hs''.2 b n1).trans (hk b o n1 n2 n3 n4 e)
  have htup:h''.get? s.heap.objs.size=some { cls:=.type "tuple",data:=.seq #[u,u'] }:=(hs''.2 _ (Nat.ne_of_gt lz)).trans a5
  have nt:∀ {b v},H b=some v->b≠z/\b≠TO/\b≠i1/\b≠i2:=fun {b v} e=>⟨ye e (hf z (by simp)).1,ye e (hf TO (by simp)).1,ye e (hf i1 (by simp)).1,ye e (hf i2 (by simp)).1⟩
  have hok:HOk X.prog X.w (upd H s.heap.objs.size (.tup [x,y])) h'':=fun b o e=>by
   by_cases hb:b=s.heap.objs.size
   ·subst hb
    rw [yd] at e
    cases e
    exact ⟨by show 2 <= sizeLine; decide,[u,u'],.cons ru (.cons ru' .nil),⟨_,htup,rfl,_,rfl⟩⟩
   ·rw [yu hb] at e
    refine (I.hok b o e).stay (fun c v hc' q=>?_) (fun c q=>by rw [yu (ye q hTn)]; exact q) fun c ys q=>by rw [yu (ye q hTn)]; exact q
    obtain ⟨n1,n2,n3,n4⟩:c≠z/\c≠TO/\c≠i1/\c≠i2:=by
     rcases hc' with rfl | hc'
     ·exact nt e
     ·exact nt hc'
    exact keep c v n1 n2 n3 n4 q
  have un:Un (frs X.stack) [z,TI,TO,i1,i2] H (upd H s.heap.objs.size (.tup [x,y])) s.heap h'':=by
   have kp:∀ {b o},b∉[z,TI,TO,i1,i2]->s.heap.get? b=some o->h''.get? b=some o:=fun {b o} hb e=>keep b o (fun q=>hb (by simp [q])) (fun q=>hb (by simp [q])) (fun q=>hb (by simp [q])) (fun q=>hb (by simp [q])) e
   refine ⟨fun b o e n _ hx=>kp hx e,fun b o e n _ hx=>⟨o.slots,kp hx e⟩,fun b o e n _=>by rw [yu (Nat.ne_of_lt (Heap.lt_size e))]; exact n,fun b o e hx=>⟨o,kp hx e⟩,
    fun b ys e=>by rw [yu (ye e hTn)]; exact e,fun b o v e=>by rw [yu (ye e hTn)]; exact e,fun b ps e=>⟨#[],by rw [yu (ye e hTn),e]; simp⟩⟩
  have I1:Inv X pins σ (upd H s.heap.objs.size (.tup [x,y])) { s with heap:=h'' }:=I.call' (s':={ s with heap:=h'' }) rfl un hok I.bare fun b hb=>by
   have f:=hf b hb
   exact ⟨f.2.2.2.1,f.2.1,f.2.2.2.2.1,f.2.2.2.2.2⟩
  refine ⟨.ref s.heap.objs.size,_,I1,rfl,⟨_,x,y,rfl,hTn,rfl,fun zs h=>by rw [I.list_inj h hq]; exact hx,fun zs h=>by rw [I.list_inj h hq']; exact hy⟩,?_,fun b hb=>?_⟩
  ·exact ⟨hz'',keep _ _ D.TIz D.TITO D.TIi1 D.TIi2 hTI,⟨u,u',(hs''.2 _ D.TOz).trans a2⟩,a3.at fun o e=>(hs''.2 _ D.i1z).trans e,a4.at fun o e=>(hs''.2 _ D.i2z).trans e⟩
  ·rw [yu (fun q=>?_)]
   ·exact (hf b hb).1
   ·have hq:b < s.heap.objs.size:=by
     simp only [List.mem_cons,List.not_mem_nil,or_false] at hb
     rcases hb with rfl | rfl | rfl | rfl | rfl <;> assumption
    exact absurd q (Nat.ne_of_lt hq)
 done:=by
  intro X hP hw hK hc i pins s σ H E I hf st hg
  subst hP hw hK
  obtain ⟨xs,ys,hq,hq',hx⟩:=hg
  obtain ⟨its,rv,p,hz0⟩:=I.list hq
  obtain ⟨its',rv',p',hz0'⟩:=I.list hq'
  have D:=d.apart st p p' I
  obtain ⟨hz,hTI,⟨va,vb,hTO⟩,hi1,hi2⟩:=st
  have hl:=rv.length
  have hl':=rv'.length
  refine wpAny_pyNext_zip_end (show X.A.handled=none from I.ok.hd hc) D hz hTI hTO hi1 hi2 p.isList p'.isList (by simp; omega) fun h' hk=>⟨rfl,?_⟩
  have nt:∀ {b v},H b=some v->b≠z/\b≠TO/\b≠i1/\b≠i2:=fun {b v} e=>⟨ye e (hf z (by simp)).1,ye e (hf TO (by simp)).1,ye e (hf i1 (by simp)).1,ye e (hf i2 (by simp)).1⟩
  have hok:HOk X.prog X.w H h':=fun b o e=>by
   refine (I.hok b o e).stay (fun c v hc' q=>?_) (fun c q=>q) fun c ys q=>q
   obtain ⟨n1,n2,n3,n4⟩:c≠z/\c≠TO/\c≠i1/\c≠i2:=by
    rcases hc' with rfl | hc'
    ·exact nt e
    ·exact nt hc'
   exact hk c v n1 n2 n3 n4 q
  have un:Un (frs X.stack) [z,TI,TO,i1,i2] H H s.heap h':=by
   have kp:∀ {b o},b∉[z,TI,TO,i1,i2]->s.heap.get? b=some o->h'.get? b=some o:=fun {b o} hb e=>hk b o (fun q=>hb (by simp [q])) (fun q=>hb (by simp [q])) (fun q=>hb (by simp [q])) (fun q=>hb (by simp [q])) e
   exact ⟨fun b o e n _ hx=>kp hx e,fun b o e n _ hx=>⟨o.slots,kp hx e⟩,fun b o e n _=>n,fun b o e hx=>⟨o,kp hx e⟩,fun b ys e=>e,fun b o v e=>e,fun b ps e=>⟨#[],by rw [e]; simp⟩⟩
  exact I.call' (s':={ s with heap:=h' }) rfl un hok I.bare fun b hb=>by
   have f:=hf b hb
   exact ⟨f.2.2.2.1,f.2.1,f.2.2.2.2.1,f.2.2.2.2.2⟩
 self:=fun _ _ _ _ _ st h=>wpAny_pyIter_zip st.1 h
section
variable {X:Cx}
def vbw (K:W.Frag) (ta:TA):TI:=fun σ H R=>ta σ H fun vs H1=>∃ a b,vs=[.ref a,.ref b]/\(∃ xs ys,SqL K H1 a xs/\SqL K H1 b ys)/\R (Itz K a b) H1
theorem you {elts:List Expr} {x1} {tpos:Pos} {l m:Expr} {ta:TA} {p pos:Pos} (hg:Gl X "zip") (hm:X.mg "zip"=none) (ha:PA X [l,m] ta) (hs:starEach [l,m] X.env=[(false,eval l X.env),(false,eval m X.env)]:=by rfl) (hs2:starEach [m] X.env=[(false,eval m X.env)]:=by rfl) :
  PI X (.Tuple elts x1 tpos) (.Call (.Name "zip" p) [l,m] [] pos) (vbw X.K ta):=by
 intro pins s σ H R I h
 refine Call_ (ybj I hg hm (show bootBuiltins "zip"=some (.type "zip") by decide +kernel) (PyProof.Rows.callWith_type1 (thn (ha pos pins s σ H _ I h) fun us s1 ⟨vs,H1,I1,r1,q1⟩=>?_) (by rw [hs,hs2]) (by rw [hs2]; rfl)))
 obtain ⟨a,b,e,⟨xs,ys,hq,hq'⟩,q⟩:=q1
 subst e
 cases r1 with
 | cons r rr =>
  cases rr with
  | cons r' rr =>
   cases rr
   cases r
   cases r'
   obtain ⟨its,rv,pl,hz⟩:=I1.list hq
   obtain ⟨its',rv',pl',hz'⟩:=I1.list hq'
   refine call_zip_2 pl.isList pl'.isList fun h' hz hTI hTO h1 h2 hsz hk=>?_
   refine wpAny_pyIter_zip hz ?_
   have zap:Zap (s1.heap.objs.size+4) (s1.heap.objs.size+2) (s1.heap.objs.size+3) s1.heap.objs.size (s1.heap.objs.size+1):=yo4 _
   refine ⟨s1.heap.objs.size+4,[s1.heap.objs.size+4,s1.heap.objs.size+2,s1.heap.objs.size+3,s1.heap.objs.size,s1.heap.objs.size+1],_,_,H1,rfl,I1.kept (t':=s1.toks) hk,ymx a b _ _ _ _ _ zap,⟨hz,hTI,⟨_,_,hTO⟩,h1,h2⟩,fun b hb=>?_,q⟩
   have hb:s1.heap.objs.size <= b:=by
    simp only [List.mem_cons,List.not_mem_nil,or_false] at hb
    rcases hb with rfl | rfl | rfl | rfl | rfl <;> omega
   exact I1.fpOk hb (I1.hok.fresh hb)
theorem yxg {K:W.Frag} {ta:TA} {σ:St} {H:Hp} {R:It->Hp->Prop} (h:ta σ H fun vs H1=>∃ a b,vs=[.ref a,.ref b]/\(∃ xs ys,SqL K H1 a xs/\SqL K H1 b ys)/\R (Itz K a b) H1):vbw K ta σ H R:=h
end
theorem yb1 {K:W.Frag} {a b D:Addr} {xs ys:List V} {g:TG} {te:TE} {n:Nat} {fr:St} {R:Hp->Prop} {H1:Hp} (f:Nat->V) (hq:SqL K H1 a xs) (hq':SqL K H1 b ys) (hl:ys.length=xs.length) (hD:H1 D=none)
  (hs:∀ i x y H t pre,xs[i]?=some x->ys[i]?=some y->vh H1 H->H D=some (.lst ((List.range i).map f))->H t=none->List.length pre=n->g (.ref t) (pre++fr) (upd H t (.tup [x,y])) fun σ' H'=>(∃ pre',List.length pre'=n/\σ'=pre'++fr)/\te σ' H' (MpK H1 D f xs.length i))
  (hd:∀ H,vh H1 H->H D=some (.lst ((List.range xs.length).map f))->R H):je (Itz K a b) g te n fr D R H1:=by
 refine ⟨cW xs.length (Mp H1 D f),⟨xs.length,by simp,Nat.zero_le _,Mp.zero hD⟩,?_⟩
 rintro i m H ⟨rfl,hi,p⟩
 have q:=p.1.seq hq
 have q':=p.1.seq hq'
 by_cases hlt:i < xs.length
 ·refine .inr ⟨⟨xs,ys,xs[i],ys[i]'(by omega),q,q',by simp [hlt],by simp [hl,hlt]⟩,fun y H' pre yl hp=>?_⟩
  obtain ⟨t,x,y,rfl,ht,rfl,hx,hy⟩:=yl
  exact hs i x y H t pre (hx xs q) (hy ys q') p.1 p.2 ht hp
 ·have e:i=xs.length:=by omega
  subst e
  exact .inl ⟨⟨xs,ys,q,q',.inl (Nat.le_refl _)⟩,hd H p.1 p.2⟩
section
variable {X:Cx} {iter elt tg:Expr} {xs:List Str} {g:TG} {pos:Pos} {scope:Scope} {te:TE} {wi:TI} {ys:List Str} {js:List Nat}
theorem ynx {i:Nat} {y:Str} {py spos:Pos} (hN:X.N.Nodup) (hy:X.N[i]?=some y) (hl:X.env.scope.names.lookup y=some .local) (hc:X.calm=true) (hi:PI X tg iter wi)
  (he:∀ (C:Addr) (s2:Shared) (H2:Hp) (fp:List Addr),PE (X.compT scope ys C xs s2 H2 fp) elt te) (hjs:js.map (fun j=>X.N[j]?)=ys.map some)
  (hgt:∀ (C:Addr) (s2:Shared) (H2:Hp) (fp:List Addr),PG (X.compT scope ys C xs s2 H2 fp) tg g)
  (hclos:closureFor scope X.env=pure (j3 ys X.env)) (hyc:∀ y∈ys,X.env.kindOf y=some .cell) (hrel:∀ y∈ys,(relabel scope X.env).names.lookup y=some .cell)
  (hsw:swapsWith (.ListComp elt [⟨tg,iter,[],0⟩] scope pos) (some (.Name y py)) spos.line X.env=pure true:=by rfl)
  (hfr:∀ y∈scope.names,y.2=.free->y.1∈ys:=by decide +kernel) (hcell:∀ y∈scope.names,y.2≠.cell:=by decide +kernel) (hkind:scope.kind=.function:=by rfl)
  (hnames:∀ y∈scope.names,y.2=.local->scope.names.lookup y.1=some .local:=by decide +kernel) (hs:∀ x,foldedSetIterable iter X.env x=pure x:=by intro _; rfl) :
  PS X (.Assign [.Name y py] (.ListComp elt [⟨tg,iter,[],0⟩] scope pos) spos) (yzg (yll wi g te xs.length js) (wy i)):=by
 intro pins s σ H D0 I h
 rw [exec_Assign_Name_used _ _ _ _ hsw]
 refine wpAny_bind (wpAny_standAt (wpAny_bind ?_))
 show wpAny _ X.A (do let _ <- comprehension (.ListComp elt [⟨tg,iter,[],0⟩] scope pos) scope X.env _ (newList []) false (eval iter X.env) (some (assign (.Name y py) X.env))) _ _ s
 refine wpAny_bind (wpAny_mono (wpAny_comprehension_free (use:=some (assign (.Name y py) X.env)) (Q:=fun _ s'=>SP X pins D0 .next s') rfl hs hclos hkind hnames (thn (hi pins s σ H _ I h) fun v s1 h1=>thn h1 fun itv s2 h2=>?_)) (fun _ s' hq=>wpAny_pure (wpAny_pure hq)) fun _ _ e=>e)
 obtain ⟨it,fp,tn,J,H2,e,I2,T,st2,f2,h⟩:=h2
 subst e
 refine ybu (R:=fun D H'=>wy i (.ref D) σ H' D0.nx) (RR:=compPost (model X.prog X.w) X.A X.xe (some (assign (.Name y py) X.env)) (fun _ s'=>SP X pins D0 .next s')) hc he hgt hcell hkind hfr hyc hrel hjs I2 T st2 f2 h ?_
 intro D C H' s' m f hn I' q
 refine wpAny_assign_Name (ybd (v:=V.ref D) I' hN hy (Or.inl hl) rfl (fun s'' I'' k''=>?_) (Or.inr hl))
 refine ⟨m,?_,fun h' sb=>⟨_,H',?_,q⟩⟩
 ·obtain ⟨b,sb,hb⟩:=k''
  refine hn.sameBut sb fun z=>?_
  rcases hb with hb | hb
  ·exact f.2.1 (z.trans hb)
  ·exact f.2.2.2.2.1 y b hb z.symm
 ·exact I''.turned (t':=s''.toks) (fun b o hb e=>sb.extBut b o hb e) f.1 f.2.1 f.2.2.2.1 f.2.2.2.2.1 f.2.2.2.2.2
end
section
variable {X:Cx}
def onI (f:Int->Int):V->V
 | .int i=>.int (f i)
 | v=>v
theorem ydf (f:Int->Int) (ns:List Int):(ns.map V.int).map (onI f)=(ns.map f).map V.int:=by
 rw [List.map_map,List.map_map]
 rfl
theorem ylq {pre:List (Option V)} (h:List.length pre=2):∃ v1 v2,pre=[v1,v2]:=by
 match pre,h with
 | [v1,v2],_=>exact ⟨v1,v2,rfl⟩
end
section
variable {X:Cx}
def yy4:V->List V->Hp->VK->Prop:=fun x vs H Q=>∃ i:Int,x=.int i/\vs=[]/\Q (.int (Builtin.Int.intBits i:Nat)) H
theorem ykq:MtR X "int.bit_length" yy4:=by
 intro pins s σ H x vs v us Q I rx rv h
 obtain ⟨i,rfl,rfl,q⟩:=h
 obtain ⟨t,rfl⟩:=rx
 have hus:=rv.zero
 subst hus
 exact PyProof.Rows.call_int_bit_length ⟨.int _,H,I.tok _,⟨_,rfl⟩,q⟩
theorem yvo {K:W.Frag} {i:Int} {H:Hp} {Q:VK} (h:Q (.int (Builtin.Int.intBits i:Nat)) H):tyV K "int" (.int i) H/\yy4 (.int i) [] H Q:=⟨rfl,i,rfl,rfl,h⟩
end
end L2
namespace L2
open PySem PySem.Spec PyProof.Rows
section
variable {prog:Program} {w:World} {A:Around} {E:Value->Shared->Prop} {s:Shared}
theorem ymr {z TI TO i1 i2 l1 l2:Addr} {k1 k2:Nat} {xs ys:Array Value} {x y a b:Value} {Q:Value->Shared->Prop} (D:ZipApart z TI TO i1 i2 l1 l2) (hz:IsZip s.heap z TI TO .none) (hTI:IsPair s.heap TI (.ref i1) (.ref i2)) (hTO:IsPair s.heap TO a b)
  (h1:s.heap.IsTupleIter i1 l1 k1) (h2:s.heap.IsTupleIter i2 l2 k2) (hl1:s.heap.IsTuple l1 xs) (hl2:s.heap.IsTuple l2 ys) (hx:xs[k1]?=some x) (hy:ys[k2]?=some y)
  (hQ:∀ h',IsZip h' z TI TO (rawInt s.heap.objs.size)->IsPair h' TO x y->h'.IsTupleIter i1 l1 (k1+1)->h'.IsTupleIter i2 l2 (k2+1)->IsPair h' s.heap.objs.size x y->h'.objs.size=s.heap.objs.size+1->(∀ c o,c≠z->c≠TO->c≠i1->c≠i2->s.heap.get? c=some o->h'.get? c=some o)->Q (.ref s.heap.objs.size) { s with heap:=h' }) :
  wpAny (model prog w) A (Builtin.«zip.__next__» ⟨[.ref z],[]⟩) (fun fin s'=>∃ v,fin=.done (.ret v)/\Q v s') E s:=by
 (show wpAny _ _ (field (.ref z) 2 >>= _) _ _ _); refine wpAny_bind (wpAny_field hz rfl (x:=.bool false) rfl ?_)
 (show wpAny _ _ (field (.ref z) 3 >>= _) _ _ _); refine wpAny_bind (wpAny_field hz rfl (x:=.ref TI) rfl ?_); refine wpAny_bind (wpAny_seqItems hTI rfl ?_)
 (show wpAny _ _ (Builtin.SmallTypes.ownedTupleIsFree (.ref z) >>= _) _ _ _); refine wpAny_bind ?_; unfold Builtin.SmallTypes.ownedTupleIsFree
 refine wpAny_bind (wpAny_field hz rfl (x:=.none) rfl (wpAny_pure ?_)); simp only [if_true]; refine wpAny_bind (wpAny_rule ?_)
 refine wpAny_bind (wpAny_field hz rfl (x:=.ref TO) rfl ?_); refine wpAny_bind (wpAny_setField_rec hz (by simp) fun h₁ hz₁ hs₁=>?_)
 replace hz₁:IsZip h₁ z TI TO .ellipsis:=hz₁; refine wpAny_bind ?_; simp only [List.zipIdx_cons,List.zipIdx_nil,List.forIn_cons,List.forIn_nil]
 refine wpAny_bind (wpAny_bind (wpAny_onRaise ?_)); (show wpAny _ _ (Builtin.SmallTypes.nextOf (.ref i1) >>= _) _ _ _)
 refine wpAny_bind (jb (h1.at fun o e=>hs₁.extBut _ _ D.i1z e) (hl1.extBut hs₁.extBut D.l1z) hx fun h₂ h1₂ hs₂=>wpAny_pure ?_)
 have hTO₂:IsPair h₂ TO a b:=hs₂.extBut _ _ D.TOi1 (hs₁.extBut _ _ D.TOz hTO); refine wpAny_bind (wpAny_seqItems hTO₂ rfl ?_)
 refine wpAny_bind (wpAny_updateSeq_pair hTO₂ fun h₃ hTO₃ hs₃=>?_); replace hTO₃:IsPair h₃ TO x b:=hTO₃; refine wpAny_bind (wpAny_letGo (wpAny_pure ?_))
 refine wpAny_bind (wpAny_bind (wpAny_onRaise ?_)); (show wpAny _ _ (Builtin.SmallTypes.nextOf (.ref i2) >>= _) _ _ _)
 refine wpAny_bind (jb (h2.at fun o e=>hs₃.extBut _ _ D.TOi2.symm (hs₂.extBut _ _ D.i12.symm (hs₁.extBut _ _ D.i2z e))) (((hl2.extBut hs₁.extBut D.l2z).extBut hs₂.extBut D.l2i1).extBut hs₃.extBut D.l2TO) hy fun h₄ h2₄ hs₄=>wpAny_pure ?_)
 have hTO₄:IsPair h₄ TO x b:=hs₄.extBut _ _ D.TOi2 hTO₃; refine wpAny_bind (wpAny_seqItems hTO₄ rfl ?_)
 refine wpAny_bind (wpAny_updateSeq_pair hTO₄ fun h₅ hTO₅ hs₅=>?_); replace hTO₅:IsPair h₅ TO x y:=hTO₅; refine wpAny_bind (wpAny_letGo (wpAny_pure (wpAny_pure ?_)))
 refine wpAny_bind (wpAny_seqItems hTO₅ rfl ?_); refine wpAny_bind (wpAny_newTuple ?_)
 have hsz:h₅.objs.size=s.heap.objs.size:=by (rw [hs₅.1,hs₄.1,hs₃.1,hs₂.1,hs₁.1])
 have hz₅:IsZip h₅ z TI TO .ellipsis:=(hs₅.extBut _ _ D.TOz.symm (hs₄.extBut _ _ D.i2z.symm (hs₃.extBut _ _ D.TOz.symm (hs₂.extBut _ _ D.i1z.symm hz₁))))
 have hk₅:∀ c o,c≠z->c≠TO->c≠i1->c≠i2->s.heap.get? c=some o->h₅.get? c=some o:=fun c o c1 c2 c3 c4 e=>hs₅.extBut _ _ c2 (hs₄.extBut _ _ c4 (hs₃.extBut _ _ c2 (hs₂.extBut _ _ c3 (hs₁.extBut _ _ c1 e))))
 have h1₅:h₅.IsTupleIter i1 l1 (k1+1):=h1₂.at fun o e=>hs₅.extBut _ _ D.TOi1.symm (hs₄.extBut _ _ D.i12 (hs₃.extBut _ _ D.TOi1.symm e))
 have h2₅:h₅.IsTupleIter i2 l2 (k2+1):=h2₄.at fun o e=>hs₅.extBut _ _ D.TOi2.symm e
 have hzlt:z < h₅.objs.size:=(Heap.lt_size hz₅)
 (show wpAny _ _ (Builtin.SmallTypes.ownedTupleHandOut (.ref z) (.ref h₅.objs.size) >>= _) _ _ _); refine wpAny_bind ?_; unfold Builtin.SmallTypes.ownedTupleHandOut
 have hz₆:IsZip (h₅.push { cls:=.type "tuple",data:=.seq #[x,y] }) z TI TO .ellipsis:=(Heap.get?_push_of_some _ hz₅)
 refine wpAny_bind (wpAny_setField_rec hz₆ (by simp) fun h₇ hz₇ hs₇=>?_); replace hz₇:IsZip h₇ z TI TO (rawInt h₅.objs.size):=hz₇
 refine wpAny_setField_rec hz₇ (by simp) fun h₈ hz₈ hs₈=>?_; replace hz₈:IsZip h₈ z TI TO (rawInt h₅.objs.size):=hz₈
 have up:∀ c o,c≠z->h₅.get? c=some o->h₈.get? c=some o:=(fun c o c1 e=>hs₈.extBut _ _ c1 (hs₇.extBut _ _ c1 (Heap.get?_push_of_some _ e)))
 have hT₈:IsPair h₈ h₅.objs.size x y:=(hs₈.extBut _ _ (Nat.ne_of_gt hzlt) (hs₇.extBut _ _ (Nat.ne_of_gt hzlt) (Heap.get?_push_size _ rfl)))
 have hz8:h₈.objs.size=h₅.objs.size+1:=by (rw [hs₈.1,hs₇.1,Heap.size_push])
 (rw [hsz] at hz₈ hT₈ hz8); refine wpAny_pure ⟨_,rfl,?_⟩; show Q (.ref h₅.objs.size) _; rw [hsz]
 exact hQ h₈ hz₈ (up _ _ D.TOz hTO₅) (h1₅.at fun o e=>up _ o D.i1z e) (h2₅.at fun o e=>up _ o D.i2z e) hT₈ hz8 (fun c o c1 c2 c3 c4 e=>up c o c1 (hk₅ c o c1 c2 c3 c4 e))
theorem yrj {z TI TO i1 i2 l1 l2:Addr} {k1 k2:Nat} {xs ys:Array Value} {a b:Value} {Q:Fin->Shared->Prop} (hh:A.handled=none) (D:ZipApart z TI TO i1 i2 l1 l2) (hz:IsZip s.heap z TI TO .none) (hTI:IsPair s.heap TI (.ref i1) (.ref i2)) (hTO:IsPair s.heap TO a b)
  (h1:s.heap.IsTupleIter i1 l1 k1) (h2:s.heap.IsTupleIter i2 l2 k2) (hl1:s.heap.IsTuple l1 xs) (hl2:s.heap.IsTuple l2 ys) (hend:xs[k1]?=none\/ys[k2]?=none)
  (hE:∀ h' e,(∀ c o,c≠z->c≠TO->c≠i1->c≠i2->s.heap.get? c=some o->h'.get? c=some o)->(∃ o,h'.get? e=some o/\o.cls=.type "StopIteration")->E (.ref e) { s with heap:=h' }):wpAny (model prog w) A (Builtin.«zip.__next__» ⟨[.ref z],[]⟩) Q E s:=by
 (show wpAny _ _ (field (.ref z) 2 >>= _) _ _ _); refine wpAny_bind (wpAny_field hz rfl (x:=.bool false) rfl ?_)
 (show wpAny _ _ (field (.ref z) 3 >>= _) _ _ _); refine wpAny_bind (wpAny_field hz rfl (x:=.ref TI) rfl ?_); refine wpAny_bind (wpAny_seqItems hTI rfl ?_)
 (show wpAny _ _ (Builtin.SmallTypes.ownedTupleIsFree (.ref z) >>= _) _ _ _); refine wpAny_bind ?_; unfold Builtin.SmallTypes.ownedTupleIsFree
 refine wpAny_bind (wpAny_field hz rfl (x:=.none) rfl (wpAny_pure ?_)); simp only [if_true]; refine wpAny_bind (wpAny_rule ?_)
 refine wpAny_bind (wpAny_field hz rfl (x:=.ref TO) rfl ?_); refine wpAny_bind (wpAny_setField_rec hz (by simp) fun h₁ hz₁ hs₁=>?_)
 replace hz₁:IsZip h₁ z TI TO .ellipsis:=hz₁; refine wpAny_bind ?_; simp only [List.zipIdx_cons,List.zipIdx_nil,List.forIn_cons,List.forIn_nil]
 refine wpAny_bind (wpAny_bind (wpAny_onRaise ?_)); (show wpAny _ _ (Builtin.SmallTypes.nextOf (.ref i1) >>= _) _ _ _)
 cases hx:xs[k1]? with
 | none =>
  refine wpAny_bind (ya6 hh (h1.at fun o e=>hs₁.extBut _ _ D.i1z e) (hl1.extBut hs₁.extBut D.l1z) hx fun h₂ e hs₂ he=>?_)
  obtain ⟨oe,hoe,hce⟩:=he; have hz₂:IsZip h₂ z TI TO .ellipsis:=hs₂ _ _ D.i1z.symm hz₁
  have hez:e≠z:=(fun x=>by (subst x; rw [hz₂] at hoe; cases hoe; simp at hce))
  exact wpAny_setField_rec hz₂ (by simp) fun h₃ _ hs₃=>hE h₃ e (fun c o c1 _ c3 _ x=>hs₃.extBut _ _ c1 (hs₂ _ _ c3 (hs₁.extBut _ _ c1 x))) ⟨oe,hs₃.extBut _ _ hez hoe,hce⟩
 | some x =>
  have hy:ys[k2]?=none:=by (rcases hend with h | h; (rw [hx] at h; cases h); exact h)
  refine wpAny_bind (jb (h1.at fun o e=>hs₁.extBut _ _ D.i1z e) (hl1.extBut hs₁.extBut D.l1z) hx fun h₂ h1₂ hs₂=>wpAny_pure ?_)
  have hTO₂:IsPair h₂ TO a b:=(hs₂.extBut _ _ D.TOi1 (hs₁.extBut _ _ D.TOz hTO)); refine wpAny_bind (wpAny_seqItems hTO₂ rfl ?_)
  refine wpAny_bind (wpAny_updateSeq_pair hTO₂ fun h₃ hTO₃ hs₃=>?_); refine wpAny_bind (wpAny_letGo (wpAny_pure ?_))
  refine wpAny_bind (wpAny_bind (wpAny_onRaise ?_)); (show wpAny _ _ (Builtin.SmallTypes.nextOf (.ref i2) >>= _) _ _ _)
  refine wpAny_bind (ya6 hh (h2.at fun o e=>hs₃.extBut _ _ D.TOi2.symm (hs₂.extBut _ _ D.i12.symm (hs₁.extBut _ _ D.i2z e))) (((hl2.extBut hs₁.extBut D.l2z).extBut hs₂.extBut D.l2i1).extBut hs₃.extBut D.l2TO) hy fun h₄ e hs₄ he=>?_)
  obtain ⟨oe,hoe,hce⟩:=he; have hz₄:IsZip h₄ z TI TO .ellipsis:=hs₄ _ _ D.i2z.symm (hs₃.extBut _ _ D.TOz.symm (hs₂.extBut _ _ D.i1z.symm hz₁))
  have hez:e≠z:=(fun x=>by (subst x; rw [hz₄] at hoe; cases hoe; simp at hce))
  exact wpAny_setField_rec hz₄ (by simp) fun h₅ _ hs₅=>hE h₅ e (fun c o c1 c2 c3 c4 x=>hs₅.extBut _ _ c1 (hs₄ _ _ c4 (hs₃.extBut _ _ c2 (hs₂.extBut _ _ c3 (hs₁.extBut _ _ c1 x))))) ⟨oe,hs₅.extBut _ _ hez hoe,hce⟩
theorem ym4 {z TI TO i1 i2 l1 l2:Addr} {k1 k2:Nat} {xs ys:Array Value} {x y a b:Value} {Q:Option Value->Shared->Prop} (D:ZipApart z TI TO i1 i2 l1 l2) (hz:IsZip s.heap z TI TO .none) (hTI:IsPair s.heap TI (.ref i1) (.ref i2)) (hTO:IsPair s.heap TO a b)
  (h1:s.heap.IsTupleIter i1 l1 k1) (h2:s.heap.IsTupleIter i2 l2 k2) (hl1:s.heap.IsTuple l1 xs) (hl2:s.heap.IsTuple l2 ys) (hx:xs[k1]?=some x) (hy:ys[k2]?=some y)
  (hQ:∀ h',IsZip h' z TI TO (rawInt s.heap.objs.size)->IsPair h' TO x y->h'.IsTupleIter i1 l1 (k1+1)->h'.IsTupleIter i2 l2 (k2+1)->IsPair h' s.heap.objs.size x y->h'.objs.size=s.heap.objs.size+1->(∀ c o,c≠z->c≠TO->c≠i1->c≠i2->s.heap.get? c=some o->h'.get? c=some o)->Q (some (.ref s.heap.objs.size)) { s with heap:=h' }) :
  wpAny (model prog w) A (pyNext (.ref z)) Q E s:=by
 have hT:s.TypeIs (.ref z) "zip":=(⟨_,hz,rfl⟩); unfold pyNext
 exact wpAny_bind (wpAny_attempt (wpAny_callSpecial?_slot (name:=Str.ofString "__next__") hT F.slot_zip_next (wpAny_call_entry F.slot_zip_next hT F.entry_zip_next
   (ymr D hz hTI hTO h1 h2 hl1 hl2 hx hy fun h' a1 a2 a3 a4 a5 a6 a7=>wpAny_pure (hQ h' a1 a2 a3 a4 a5 a6 a7)) (F.args_zip_next_1 _))))
theorem ynw {z TI TO i1 i2 l1 l2:Addr} {k1 k2:Nat} {xs ys:Array Value} {a b:Value} {Q:Option Value->Shared->Prop} (hh:A.handled=none) (D:ZipApart z TI TO i1 i2 l1 l2) (hz:IsZip s.heap z TI TO .none) (hTI:IsPair s.heap TI (.ref i1) (.ref i2)) (hTO:IsPair s.heap TO a b)
  (h1:s.heap.IsTupleIter i1 l1 k1) (h2:s.heap.IsTupleIter i2 l2 k2) (hl1:s.heap.IsTuple l1 xs) (hl2:s.heap.IsTuple l2 ys) (hend:xs[k1]?=none\/ys[k2]?=none)
  (hQ:∀ h',(∀ c o,c≠z->c≠TO->c≠i1->c≠i2->s.heap.get? c=some o->h'.get? c=some o)->Q none { s with heap:=h' }):wpAny (model prog w) A (pyNext (.ref z)) Q E s:=by
 have hT:s.TypeIs (.ref z) "zip":=(⟨_,hz,rfl⟩); unfold pyNext
 refine wpAny_bind (wpAny_attempt (wpAny_callSpecial?_slot (name:=Str.ofString "__next__") hT F.slot_zip_next (wpAny_call_entry F.slot_zip_next hT F.entry_zip_next
  (yrj hh D hz hTI hTO h1 h2 hl1 hl2 hend fun h' e hk he=>?_) (F.args_zip_next_1 _))))
 obtain ⟨o,ho,hc⟩:=he; refine wpAny_bind (wpAny_isInstance (T:="StopIteration") (b:=true) ⟨o,ho,hc⟩ isSubtype_stop ?_)
 exact wpAny_pure (hQ _ hk)
end
abbrev zT1 (h:Heap) (l1:Addr):Heap:=h.push { cls:=.type "tuple_iterator",data:=.fields #[.ref l1,.int 0 0] }
abbrev zT2 (h:Heap) (l1 l2:Addr):Heap:=(zT1 h l1).push { cls:=.type "tuple_iterator",data:=.fields #[.ref l2,.int 0 0] }
abbrev zT3 (h:Heap) (l1 l2:Addr):Heap:=(zT2 h l1 l2).push { cls:=.type "tuple",data:=.seq #[.ref h.objs.size,.ref (zT1 h l1).objs.size] }
abbrev zT4 (h:Heap) (l1 l2:Addr):Heap:=(zT3 h l1 l2).push { cls:=.type "tuple",data:=.seq #[.none,.none] }
abbrev zT5 (h:Heap) (l1 l2:Addr):Heap:=(zT4 h l1 l2).push { cls:=.type "zip",data:=.fields #[.none,.bool false,.bool false,.ref (zT2 h l1 l2).objs.size,.ref (zT3 h l1 l2).objs.size] }
theorem yqs (l1 l2:Addr) (xs ys:Array Value):Meets (Builtin.«zip.__new__» ⟨[.type "zip",.ref l1,.ref l2],[]⟩) (fun _ R s=>s.heap.IsTuple l1 xs/\s.heap.IsTuple l2 ys/\R (.ok (.ret (.ref (zT4 s.heap l1 l2).objs.size))) { s with heap:=zT5 s.heap l1 l2 }) :=
 .of_wp fun prog w A R s h=>by
  obtain ⟨hp,g,d,tk,os⟩:=s
  obtain ⟨hl1,hl2,h⟩:=h
  have hsub:=sub_zip
  have hT1:Heap.IsTuple (Shared.heap ⟨hp,g,d,tk,os⟩) l1 xs:=hl1
  have hT2:Heap.IsTuple (Shared.heap ⟨hp.push { cls:=.type "tuple_iterator",data:=.fields #[.ref l1,.int 0 0] },g,d,tk,os⟩) l2 ys:=Heap.IsTuple.push hl2 _
  wp_walk using wpAny_pyIter_tuple hT1,wpAny_pyIter_tuple hT2
  exact ⟨_,rfl,h⟩
section
variable {prog:Program} {w:World} {A:Around} {E:Value->Shared->Prop} {s:Shared}
theorem ymw {l1 l2:Addr} {xs ys:Array Value} {Q:Value->Shared->Prop} (hl1:s.heap.IsTuple l1 xs) (hl2:s.heap.IsTuple l2 ys)
  (h:∀ h',IsZip h' (s.heap.objs.size+4) (s.heap.objs.size+2) (s.heap.objs.size+3) .none->IsPair h' (s.heap.objs.size+2) (.ref s.heap.objs.size) (.ref (s.heap.objs.size+1))->IsPair h' (s.heap.objs.size+3) .none .none->h'.IsTupleIter s.heap.objs.size l1 0->h'.IsTupleIter (s.heap.objs.size+1) l2 0 ->
   (∀ c o,s.heap.get? c=some o->h'.get? c=some o)->Q (.ref (s.heap.objs.size+4)) { s with heap:=h' }):wpAny (model prog w) A (call (.type "zip") [.ref l1,.ref l2]) Q E s:=by
 refine callType_new F.called_zip (by decide) (F.typeCall_zip_2 _ _) (F.newCall_zip_2 _ _) (fun obj=>F.args_object_init_3 obj _ _) F.entry_zip_new (yqs l1 l2 xs ys) ⟨hl1,hl2,?_⟩
 have z1:(zT1 s.heap l1).objs.size=s.heap.objs.size+1:=Heap.size_push ..
 have z2:(zT2 s.heap l1 l2).objs.size=s.heap.objs.size+2:=by rw [Heap.size_push,z1]
 have z3:(zT3 s.heap l1 l2).objs.size=s.heap.objs.size+3:=by rw [Heap.size_push,z2]
 have z4:(zT4 s.heap l1 l2).objs.size=s.heap.objs.size+4:=by rw [Heap.size_push,z3]
 have g5:(zT5 s.heap l1 l2).get? (zT4 s.heap l1 l2).objs.size=some _:=Heap.get?_push_size _ rfl
 have g4:(zT5 s.heap l1 l2).get? (zT3 s.heap l1 l2).objs.size=some _:=Heap.get?_push_of_some _ (Heap.get?_push_size _ rfl)
 have g3:(zT5 s.heap l1 l2).get? (zT2 s.heap l1 l2).objs.size=some _:=Heap.get?_push_of_some _ (Heap.get?_push_of_some _ (Heap.get?_push_size _ rfl))
 have g2:(zT5 s.heap l1 l2).get? (zT1 s.heap l1).objs.size=some _:=Heap.get?_push_of_some _ (Heap.get?_push_of_some _ (Heap.get?_push_of_some _ (Heap.get?_push_size _ rfl)))
 have g1:(zT5 s.heap l1 l2).get? s.heap.objs.size=some _:=(Heap.get?_push_of_some _ (Heap.get?_push_of_some _ (Heap.get?_push_of_some _ (Heap.get?_push_of_some _ (Heap.get?_push_size _ rfl)))))
 show _/\_
 rw [z2,z3,z4] at g5
 rw [z1,z2] at g3
 rw [z3] at g4
 rw [z1] at g2
 rw [z4]
 exact ⟨⟨_,g5,rfl⟩,h _ g5 g3 g4 ⟨_,g1,rfl,rfl⟩ ⟨_,g2,rfl,rfl⟩ fun c o x=>(Heap.get?_push_of_some _ (Heap.get?_push_of_some _ (Heap.get?_push_of_some _ (Heap.get?_push_of_some _ (Heap.get?_push_of_some _ x)))))⟩
end
def yzh (K:W.Frag) (a b:Addr):It :=
 ⟨fun i H=>∃ xs ys x y,SqT K H a xs/\SqT K H b ys/\xs[i]?=some x/\ys[i]?=some y,
  fun i H v H'=>∃ t x y,v=.ref t/\H t=none/\H'=upd H t (.tup [x,y])/\(∀ xs,SqT K H a xs->xs[i]?=some x)/\(∀ ys,SqT K H b ys->ys[i]?=some y),
  fun i H=>∃ xs ys,SqT K H a xs/\SqT K H b ys/\(xs.length <= i\/ys.length <= i)⟩
def vb0 (z TI TO i1 i2 l1 l2:Addr) (i:Nat) (h:Heap):Prop:=IsZip h z TI TO .none/\IsPair h TI (.ref i1) (.ref i2)/\(∃ a b,IsPair h TO a b)/\h.IsTupleIter i1 l1 i/\h.IsTupleIter i2 l2 i
theorem Zap.apartT {X:Cx} {H:Hp} {s:Shared} {z TI TO i1 i2 l1 l2:Addr} {i:Nat} {xs ys:List Value} {us vs:List V} (d:Zap z TI TO i1 i2) (st:vb0 z TI TO i1 i2 l1 l2 i s.heap) (p:s.heap.IsTuple l1 xs.toArray) (q:s.heap.IsTuple l2 ys.toArray) (hn:H TO=none) (hK:X.K.lookup TO=none)
  (hq:SqT X.K H l1 us) (hq':SqT X.K H l2 vs):ZipApart z TI TO i1 i2 l1 l2:=by
 obtain ⟨hz,hTI,⟨a,b,hTO⟩,⟨o1,e1,c1,_⟩,⟨o2,e2,c2,_⟩⟩:=st
 obtain ⟨ol,el,cl,_⟩:=p
 obtain ⟨om,em,cm,_⟩:=q
 have nTO:∀ {l:Addr} {ws:List V},SqT X.K H l ws->l≠TO:=fun {l ws} h=>by
  rintro rfl
  rcases h with (h | ⟨o,h⟩) | ⟨_,_,_,h,_⟩
  ·rw [hn] at h; cases h
  ·rw [hn] at h; cases h
  ·rw [hK] at h; cases h
 exact ⟨d.a1,d.a2,d.a3,d.a4,d.a5,d.a6,d.a7,d.a8,d.a9,d.b1,
  ux el hz (by rw [cl]; exact nT (by decide)),nTO hq,ux el e1 (by rw [cl,c1]; decide),ux el e2 (by rw [cl,c2]; decide),
  ux em hz (by rw [cm]; exact nT (by decide)),nTO hq',ux em e1 (by rw [cm,c1]; decide),ux em e2 (by rw [cm,c2]; decide)⟩
theorem yjp {P:Program} {w:World} {K:W.Frag} {elts:List Expr} {x1} {tpos:Pos} (l1 l2 z TI TO i1 i2:Addr) (d:Zap z TI TO i1 i2) (hKT:K.lookup TO=none) :
  yn8 P w K (.Tuple elts x1 tpos) (yzh K l1 l2) [z,TI,TO,i1,i2] z (vb0 z TI TO i1 i2 l1 l2) where
 mem:=by simp
 obj:=fun i h st b hb=>by
  obtain ⟨hz,hTI,⟨_,_,hTO⟩,⟨o1,e1,_,d1⟩,⟨o2,e2,_,d2⟩⟩:=st
  simp only [List.mem_cons,List.not_mem_nil,or_false] at hb
  rcases hb with rfl | rfl | rfl | rfl | rfl
  ·exact ⟨_,hz,fun v z=>by cases z⟩
  ·exact ⟨_,hTI,fun v z=>by cases z⟩
  ·exact ⟨_,hTO,fun v z=>by cases z⟩
  ·exact ⟨o1,e1,fun v z=>by rw [d1] at z; cases z⟩
  ·exact ⟨o2,e2,fun v z=>by rw [d2] at z; cases z⟩
 keep:=fun i h h' st k=>by
  obtain ⟨hz,hTI,⟨a,b,hTO⟩,h1,h2⟩:=st
  exact ⟨k z (by simp) _ hz,k TI (by simp) _ hTI,⟨a,b,k TO (by simp) _ hTO⟩,h1.at fun o e=>k i1 (by simp) o e,h2.at fun o e=>k i2 (by simp) o e⟩
 item:=by
  intro X hP hw hK hc i pins s σ H E I hf st hg
  subst hP hw hK
  obtain ⟨xs,ys,x,y,hq,hq',hx,hy⟩:=hg
  obtain ⟨its,rv,p0,hz0⟩:=I.tuple hq
  obtain ⟨its',rv',p0',hz0'⟩:=I.tuple hq'
  have p:s.heap.IsTuple l1 its.toArray:=p0
  have p':s.heap.IsTuple l2 its'.toArray:=p0'
  obtain ⟨u,hu,ru⟩:=rv.get hx
  obtain ⟨u',hu',ru'⟩:=rv'.get hy
  have D:=d.apartT st p p' (hf TO (by simp)).1 hKT hq hq'
  obtain ⟨hz,hTI,⟨va,vb,hTO⟩,hi1,hi2⟩:=st
  refine ym4 D hz hTI hTO hi1 hi2 p p' (x:=u) (y:=u') (by simpa using hu) (by simpa using hu') fun h' a1 a2 a3 a4 a5 a6 hk=>?_
  refine ⟨_,rfl,wpAny_letOwnedTupleGo_zip a1 fun h'' hz'' hs''=>?_⟩
  have hTn:H s.heap.objs.size=none:=I.hok.fresh (Nat.le_refl _)
  have lz:z < s.heap.objs.size:=Heap.lt_size hz
  have lo:TO < s.heap.objs.size:=Heap.lt_size hTO
  have lI:TI < s.heap.objs.size:=Heap.lt_size hTI
  have l1':i1 < s.heap.objs.size:=by obtain ⟨o,e,_⟩:=id hi1; exact Heap.lt_size e
  have l2':i2 < s.heap.objs.size:=by obtain ⟨o,e,_⟩:=id hi2; exact Heap.lt_size e
  have keep:∀ b o,b≠z->b≠TO->b≠i1->b≠i2->s.heap.get? b=some o->h''.get? b=some o:=fun b o n1 n2 n3 n4 e=>(hs''.2 b n1).trans (hk b o n1 n2 n3 n4 e)
  have htup:h''.get? s.heap.objs.size=some { cls:=.type "tuple",data:=.seq #[u,u'] }:=(hs''.2 _ (Nat.ne_of_gt lz)).trans a5
  have nt:∀ {b v},H b=some v->b≠z/\b≠TO/\b≠i1/\b≠i2:=fun {b v} e=>⟨ye e (hf z (by simp)).1,ye e (hf TO (by simp)).1,ye e (hf i1 (by simp)).1,ye e (hf i2 (by simp)).1⟩
  have hok:HOk X.prog X.w (upd H s.heap.objs.size (.tup [x,y])) h'':=fun b o e=>by
   by_cases hb:b=s.heap.objs.size
   ·subst hb
    rw [yd] at e
    cases e
    exact ⟨by show 2 <= sizeLine; decide,[u,u'],.cons ru (.cons ru' .nil),⟨_,htup,rfl,_,rfl⟩⟩
   ·rw [yu hb] at e
    refine (I.hok b o e).stay (fun c v hc' q=>?_) (fun c q=>by rw [yu (ye q hTn)]; exact q) fun c ys q=>by rw [yu (ye q hTn)]; exact q
    obtain ⟨n1,n2,n3,n4⟩:c≠z/\c≠TO/\c≠i1/\c≠i2:=by
     rcases hc' with rfl | hc'
     ·exact nt e
     ·exact nt hc'
    exact keep c v n1 n2 n3 n4 q
  have un:Un (frs X.stack) [z,TI,TO,i1,i2] H (upd H s.heap.objs.size (.tup [x,y])) s.heap h'':=by
   have kp:∀ {b o},b∉[z,TI,TO,i1,i2]->s.heap.get? b=some o->h''.get? b=some o:=fun {b o} hb e=>keep b o (fun q=>hb (by simp [q])) (fun q=>hb (by simp [q])) (fun q=>hb (by simp [q])) (fun q=>hb (by simp [q])) e
   refine ⟨fun b o e n _ hx=>kp hx e,fun b o e n _ hx=>⟨o.slots,kp hx e⟩,fun b o e n _=>by rw [yu (Nat.ne_of_lt (Heap.lt_size e))]; exact n,fun b o e hx=>⟨o,kp hx e⟩,
    fun b ys e=>by rw [yu (ye e hTn)]; exact e,fun b o v e=>by rw [yu (ye e hTn)]; exact e,fun b ps e=>⟨#[],by rw [yu (ye e hTn),e]; simp⟩⟩
  have I1:Inv X pins σ (upd H s.heap.objs.size (.tup [x,y])) { s with heap:=h'' }:=I.call' (s':={ s with heap:=h'' }) rfl un hok I.bare fun b hb=>by
   have f:=hf b hb
   exact ⟨f.2.2.2.1,f.2.1,f.2.2.2.2.1,f.2.2.2.2.2⟩
  refine ⟨.ref s.heap.objs.size,_,I1,rfl,⟨_,x,y,rfl,hTn,rfl,fun zs h=>by rw [I.tuple_inj h hq]; exact hx,fun zs h=>by rw [I.tuple_inj h hq']; exact hy⟩,?_,fun b hb=>?_⟩
  ·exact ⟨hz'',keep _ _ D.TIz D.TITO D.TIi1 D.TIi2 hTI,⟨u,u',(hs''.2 _ D.TOz).trans a2⟩,a3.at fun o e=>(hs''.2 _ D.i1z).trans e,a4.at fun o e=>(hs''.2 _ D.i2z).trans e⟩
  ·rw [yu (fun q=>?_)]
   ·exact (hf b hb).1
   ·have hq:b < s.heap.objs.size:=by
     simp only [List.mem_cons,List.not_mem_nil,or_false] at hb
     rcases hb with rfl | rfl | rfl | rfl | rfl <;> assumption
    exact absurd q (Nat.ne_of_lt hq)
 done:=by
  intro X hP hw hK hc i pins s σ H E I hf st hg
  subst hP hw hK
  obtain ⟨xs,ys,hq,hq',hx⟩:=hg
  obtain ⟨its,rv,p0,hz0⟩:=I.tuple hq
  obtain ⟨its',rv',p0',hz0'⟩:=I.tuple hq'
  have p:s.heap.IsTuple l1 its.toArray:=p0
  have p':s.heap.IsTuple l2 its'.toArray:=p0'
  have D:=d.apartT st p p' (hf TO (by simp)).1 hKT hq hq'
  obtain ⟨hz,hTI,⟨va,vb,hTO⟩,hi1,hi2⟩:=st
  have hl:=rv.length
  have hl':=rv'.length
  refine ynw (show X.A.handled=none from I.ok.hd hc) D hz hTI hTO hi1 hi2 p p' (by simp; omega) fun h' hk=>⟨rfl,?_⟩
  have nt:∀ {b v},H b=some v->b≠z/\b≠TO/\b≠i1/\b≠i2:=fun {b v} e=>⟨ye e (hf z (by simp)).1,ye e (hf TO (by simp)).1,ye e (hf i1 (by simp)).1,ye e (hf i2 (by simp)).1⟩
  have hok:HOk X.prog X.w H h':=fun b o e=>by
   refine (I.hok b o e).stay (fun c v hc' q=>?_) (fun c q=>q) fun c ys q=>q
   obtain ⟨n1,n2,n3,n4⟩:c≠z/\c≠TO/\c≠i1/\c≠i2:=by
    rcases hc' with rfl | hc'
    ·exact nt e
    ·exact nt hc'
   exact hk c v n1 n2 n3 n4 q
  have un:Un (frs X.stack) [z,TI,TO,i1,i2] H H s.heap h':=by
   have kp:∀ {b o},b∉[z,TI,TO,i1,i2]->s.heap.get? b=some o->h'.get? b=some o:=fun {b o} hb e=>hk b o (fun q=>hb (by simp [q])) (fun q=>hb (by simp [q])) (fun q=>hb (by simp [q])) (fun q=>hb (by simp [q])) e
   exact ⟨fun b o e n _ hx=>kp hx e,fun b o e n _ hx=>⟨o.slots,kp hx e⟩,fun b o e n _=>n,fun b o e hx=>⟨o,kp hx e⟩,fun b ys e=>e,fun b o v e=>e,fun b ps e=>⟨#[],by rw [e]; simp⟩⟩
  exact I.call' (s':={ s with heap:=h' }) rfl un hok I.bare fun b hb=>by
   have f:=hf b hb
   exact ⟨f.2.2.2.1,f.2.1,f.2.2.2.2.1,f.2.2.2.2.2⟩
 self:=fun _ _ _ _ _ st h=>wpAny_pyIter_zip st.1 h
section
variable {X:Cx}
def yyu (K:W.Frag) (ta:TA):TI:=fun σ H R=>ta σ H fun vs H1=>∃ a b,vs=[.ref a,.ref b]/\(∃ xs ys,SqT K H1 a xs/\SqT K H1 b ys)/\R (yzh K a b) H1
theorem yqo {elts:List Expr} {x1} {tpos:Pos} {l m:Expr} {ta:TA} {p pos:Pos} (hg:Gl X "zip") (hm:X.mg "zip"=none) (ha:PA X [l,m] ta) (hs:starEach [l,m] X.env=[(false,eval l X.env),(false,eval m X.env)]:=by rfl) (hs2:starEach [m] X.env=[(false,eval m X.env)]:=by rfl) :
  PI X (.Tuple elts x1 tpos) (.Call (.Name "zip" p) [l,m] [] pos) (yyu X.K ta):=by
 intro pins s σ H R I h
 refine Call_ (ybj I hg hm (show bootBuiltins "zip"=some (.type "zip") by decide +kernel) (PyProof.Rows.callWith_type1 (thn (ha pos pins s σ H _ I h) fun us s1 ⟨vs,H1,I1,r1,q1⟩=>?_) (by rw [hs,hs2]) (by rw [hs2]; rfl)))
 obtain ⟨a,b,e,⟨xs,ys,hq,hq'⟩,q⟩:=q1
 subst e
 cases r1 with
 | cons r rr =>
  cases rr with
  | cons r' rr =>
   cases rr
   cases r
   cases r'
   obtain ⟨its,rv,pl,hz⟩:=I1.tuple hq
   obtain ⟨its',rv',pl',hz'⟩:=I1.tuple hq'
   refine ymw (show s1.heap.IsTuple a its.toArray from pl) (show s1.heap.IsTuple b its'.toArray from pl') fun h' hz hTI hTO h1 h2 hk=>?_
   refine wpAny_pyIter_zip hz ?_
   have hKT:X.K.lookup (s1.heap.objs.size+3)=none:=by
    cases hl:X.K.lookup (s1.heap.objs.size+3) with
    | none=>rfl
    | some o=>exact absurd (Heap.lt_size (I1.kIn _ o hl)) (Nat.not_lt.mpr (Nat.le_add_right _ _))
   have zap:Zap (s1.heap.objs.size+4) (s1.heap.objs.size+2) (s1.heap.objs.size+3) s1.heap.objs.size (s1.heap.objs.size+1):=yo4 _
   refine ⟨s1.heap.objs.size+4,[s1.heap.objs.size+4,s1.heap.objs.size+2,s1.heap.objs.size+3,s1.heap.objs.size,s1.heap.objs.size+1],_,_,H1,rfl,I1.kept (t':=s1.toks) hk,yjp a b _ _ _ _ _ zap hKT,⟨hz,hTI,⟨_,_,hTO⟩,h1,h2⟩,fun b hb=>?_,q⟩
   have hb:s1.heap.objs.size <= b:=by
    simp only [List.mem_cons,List.not_mem_nil,or_false] at hb
    rcases hb with rfl | rfl | rfl | rfl | rfl <;> omega
   exact I1.fpOk hb (I1.hok.fresh hb)
theorem yr0 {K:W.Frag} {ta:TA} {σ:St} {H:Hp} {R:It->Hp->Prop} (h:ta σ H fun vs H1=>∃ a b,vs=[.ref a,.ref b]/\(∃ xs ys,SqT K H1 a xs/\SqT K H1 b ys)/\R (yzh K a b) H1):yyu K ta σ H R:=h
end
theorem yfe {K:W.Frag} {a b D:Addr} {xs ys:List V} {g:TG} {te:TE} {n m:Nat} {fr:St} {R:Hp->Prop} {H1:Hp} (f:Nat->V) (hq:SqT K H1 a xs) (hq':SqT K H1 b ys) (h1:m <= xs.length) (h2:m <= ys.length) (h3:xs.length <= m\/ys.length <= m) (hD:H1 D=none)
  (hs:∀ i x y H t pre,i < m->xs[i]?=some x->ys[i]?=some y->vh H1 H->H D=some (.lst ((List.range i).map f))->H t=none->List.length pre=n->g (.ref t) (pre++fr) (upd H t (.tup [x,y])) fun σ' H'=>(∃ pre',List.length pre'=n/\σ'=pre'++fr)/\te σ' H' (MpK H1 D f m i))
  (hd:∀ H,vh H1 H->H D=some (.lst ((List.range m).map f))->R H):je (yzh K a b) g te n fr D R H1:=by
 refine ⟨cW m (Mp H1 D f),⟨m,by simp,Nat.zero_le _,Mp.zero hD⟩,?_⟩
 rintro i j H ⟨rfl,hi,p⟩
 have q:=p.1.tup hq
 have q':=p.1.tup hq'
 by_cases hlt:i < m
 ·refine .inr ⟨⟨xs,ys,xs[i]'(by omega),ys[i]'(by omega),q,q',List.getElem?_eq_getElem _,List.getElem?_eq_getElem _⟩,fun y H' pre yl hp=>?_⟩
  obtain ⟨t,x,y,rfl,ht,rfl,hx,hy⟩:=yl
  exact hs i x y H t pre hlt (hx xs q) (hy ys q') p.1 p.2 ht hp
 ·have e:i=m:=by omega
  subst e
  exact .inl ⟨⟨xs,ys,q,q',h3⟩,hd H p.1 p.2⟩
end L2
namespace L2
open PySem PySem.Spec PyProof.Rows HT
section
variable {prog:Program} {w:World} {A:Around} {E:Value->Shared->Prop} {s:Shared}
theorem ye7 {t sl:Addr} {items:Array Value} {vl vu:Value} {lo hi:Option Int} {Q:Value->Shared->Prop} (ht:IsTup s.heap t items) (hs:s.heap.IsSliceOf sl vl vu .none) (pl:IsPart vl lo) (pu:IsPart vu hi)
  (hw:sIx items.size 0 lo=0/\sIx items.size items.size hi=items.size) (h:Q (.ref t) s):wpAny (model prog w) A (getItem (.ref t) (.ref sl)) Q E s:=by
 obtain ⟨os,hos,hcs,hds⟩:=id hs
 have hTs:s.TypeIs (.ref sl) "slice":=⟨os,hos,hcs⟩
 unfold getItem
 try with_reducible refine wpAny_holding ?_
 first | refine wpAny_bind (wpAny_pure ?_) | skip
 refine wpAny_bind (wpAny_sequenceKey ht.typeIs (by decide) ?_)
 refine wpAny_bind (wpAny_callSpecial?_slot (name:=Str.ofString "__getitem__") ht.typeIs PyProof.Rows.slot_tuple_getitem
  (wpAny_call_entry PyProof.Rows.slot_tuple_getitem ht.typeIs entry_tuple_getitem ?_ (args_tuple_getitem _ _)))
 show wpAny _ _ (Builtin.Tuple.tupleItemsOf (.ref t) >>= _) _ _ s
 refine wpAny_bind (tupleItemsOf_ ht ?_)
 refine wpAny_bind (wpAny_typeOf hTs ?_)
 rw [if_pos (by decide)]
 refine wpAny_bind (zi hs pl pu ?_)
 have hyes:(((sIx items.size 0 lo:Nat):Int) == 0 && (1:Int) == 1 && (sIx items.size items.size hi - sIx items.size 0 lo) == items.size)=true:=by
  rw [hw.1,hw.2]
  simp
 show wpAny _ _ (if (((sIx items.size 0 lo:Nat):Int) == 0 && (1:Int) == 1 && (sIx items.size items.size hi - sIx items.size 0 lo) == items.size)=true then _ else _) _ _ s
 rw [if_pos hyes]
 refine wpAny_bind (m:=Builtin.Tuple.tupleIsExact _) ?_
 unfold Builtin.Tuple.tupleIsExact
 refine wpAny_bind (wpAny_typeOf ht.typeIs (wpAny_pure ?_))
 show wpAny _ _ (if (Value.type "tuple" == Value.type "tuple")=true then _ else _) _ _ s
 rw [if_pos (by decide)]
 first
  | exact wpAny_bind (wpAny_rule (wpAny_pure ⟨_,rfl,wpAny_pure h⟩))
  | exact wpAny_bind (wpAny_rule (wpAny_bind (wpAny_pure (wpAny_pure ⟨_,rfl,wpAny_pure h⟩))))
  | exact wpAny_bind (wpAny_bind (wpAny_rule (wpAny_pure (wpAny_pure ⟨_,rfl,wpAny_pure h⟩))))
end
section
variable {X:Cx}
def vag (K:W.Frag):V->Option Int->Option Int->Hp->VK->Prop:=fun x lo hi H Q=>∃ a xs,x=.ref a/\SqT K H a xs/\(HT.sIx xs.length 0 lo=0/\HT.sIx xs.length xs.length hi=xs.length)/\Q (.ref a) H
theorem yq9:SlR X (vag X.K):=by
 intro pins s σ H x v vl vu lo hi sl Q I rx hs pl pu h
 obtain ⟨a,xs,rfl,hx,hw,q⟩:=h
 cases rx
 obtain ⟨its,r,ht,hz⟩:=I.tuple hx
 have hlen:its.toArray.size=xs.length:=by rw [List.size_toArray]; exact r.length.symm
 exact ⟨"tuple",_,PyProof.Rows.slot_tuple_getitem.lookup,ht.typeIs,ye7 ht hs pl pu (by rw [hlen]; exact hw) ⟨.ref a,H,I,rfl,q⟩⟩
end
end L2
namespace L2
open PySem PySem.Spec PyProof.Rows PySem.SeqAt
open AutoSeq1 (wpAny_loadPart')
section
variable {X:Cx}
end
end L2
namespace L2
open PySem PySem.Spec PyProof.Rows
section
variable {X:Cx} {a b:Expr} {ta tb:TE} {pos:Pos} {ts:TS} {st:Stmt}
end
end L2
namespace L2
open PySem PySem.Spec PyProof.Rows
theorem ykz {X:Cx} {K:W.Frag} {e:Expr} {f:Str} {pos:Pos} {ta:TE} (hK:X.K=K) (he:PE X e ta) (hb:attributeBase e f X.env (eval e X.env)=eval e X.env):PE X (.Attribute e f pos) (vbg K ta f):=hK ▸ yx he hb
end L2
namespace L2
open PySem PySem.Spec PyProof.Rows
section
variable {X:Cx} {iter elt cnd:Expr} {tc:TT} {x:Str} {px pos:Pos} {scope:Scope} {te:TE} {wi:TI} {pins:List (Addr × Obj)} {σ:St} {ys:List Str} {js:List Nat}
end
end L2
namespace L2
open PySem PySem.Spec PyProof.Rows
structure yau (K:W.Frag) (x qual:Str) (st:Stmt) (D:Addr) (f:Addr) (fd:FuncData):Prop where
 ex:∃ (oc:Value) (od:Option Addr) (kV doc pm:Value) (an:Option Addr) (cdv ct:Value) (osl:Array (Option Value)),
  fd=W.fnOf x qual (wk st) (vx st) (yi st) (.ref D) kV doc pm an cdv ct/\K.lookup f=some ⟨oc,od,.func fd,osl⟩/\W.codeIn K cdv qual=true
 kp:W.keepIn K (.ref f)=true
section
variable {P:Program} {w:World} {K:W.Frag} {mg:Str->Option Value} {base:Heap}
theorem yau.ok {x qual:Str} {st:Stmt} {f D:Addr} {fd:FuncData} {N ps:List Str} {k:Nat} {sp:Sp} (F:yau K x qual st D f fd) (S:yn N ps (yi st)) (len:∀ vs H Q E,sp vs H Q E->vs.length=ps.length)
  (hbody:∀ (cdv:Value) (A:Around) (outer:List Env) (s:Shared) (H:Hp) (vs:List V) (Q:VK) (E:XK),ja k (A.deeper (envOfC qual (yi st) s.heap.objs.size f cdv))->sp vs H Q E ->
   ∃ t,PSs (wa CX0 P w K mg base N qual (yi st) f cdv A outer s H E).nox (vx st) t/\t { nx:=fun _ H'=>Q .non H',rt:=Q } (yae N vs) H):wc P w K mg base CX0 (k+1) f fd ps sp:=by
 obtain ⟨oc,od,kV,doc,pm,an,cdv,ct,osl,rfl,lk,hcd⟩:=F.ex
 refine yn7 lk hcd S len fun A outer s H vs Q E hr hsp=>?_
 obtain ⟨t,h,q⟩:=hbody cdv A outer s H vs Q E hr hsp
 exact ⟨t,h.nox,q⟩
theorem yau.okE {x qual:Str} {st:Stmt} {f D:Addr} {fd:FuncData} {N ps:List Str} {k:Nat} {sp:Sp} (F:yau K x qual st D f fd) (S:yn N ps (yi st)) (len:∀ vs H Q E,sp vs H Q E->vs.length=ps.length)
  (hbody:∀ (cdv:Value) (A:Around) (outer:List Env) (s:Shared) (H:Hp) (vs:List V) (Q:VK) (E:XK),ja k (A.deeper (envOfC qual (yi st) s.heap.objs.size f cdv))->sp vs H Q E ->
   ∃ t,PSs (wa (CXe P w) P w K mg base N qual (yi st) f cdv A outer s H E) (vx st) t/\t { nx:=fun _ H'=>Q .non H',rt:=Q } (yae N vs) H):wc P w K mg base (CXe P w) (k+1) f fd ps sp:=by
 obtain ⟨oc,od,kV,doc,pm,an,cdv,ct,osl,rfl,lk,hcd⟩:=F.ex
 exact yn7 lk hcd S len fun A outer s H vs Q E hr hsp=>hbody cdv A outer s H vs Q E hr hsp
theorem yau.binds {x qual:Str} {st:Stmt} {f D:Addr} {fd:FuncData} {ps:List Str} {ds:List Value} {o:Obj} {its:Array Value} {n j:Nat} (hj:j+ds.length=ps.length) (F:yau K x qual st D f fd) (hD:K.lookup D=some o) (ho:o.data=.seq its n)
  (h:∀ (kV doc pm:Value) (an:Option Addr) (cdv ct:Value) (us:List Value),us.length=j ->
   ∃ k:Option (Array Value)->Sem (List (Str × Value)),bindArgs (W.fnOf x qual (wk st) (vx st) (yi st) (.ref D) kV doc pm an cdv ct) ⟨us,[]⟩=(seqItems? (.ref D) >>= k)/\k (some its)=pure (ps.zip (us++ds))):xq K fd ps ds:=by
 obtain ⟨oc,od,kV,doc,pm,an,cdv,ct,osl,rfl,lk,hcd⟩:=F.ex
 intro s us hK hl
 obtain ⟨k,h1,h2⟩:=h kV doc pm an cdv ct us (by rw [List.length_append] at hl; omega)
 exact BindsTo.of_defaults rfl (hK _ _ hD) ho h1 h2
theorem ybh {x qual:Str} {st:Stmt} {f D:Addr} {oc:Value} {od an:Option Addr} {osl:Array (Option Value)} {kV doc pm cdv ct:Value} (l:K.lookup f=some ⟨oc,od,.func (W.fnOf x qual (wk st) (vx st) (yi st) (.ref D) kV doc pm an cdv ct),osl⟩)
  (c:W.codeIn K cdv qual=true) (k:W.keepIn K (.ref f)=true):yau K x qual st D f (W.fnOf x qual (wk st) (vx st) (yi st) (.ref D) kV doc pm an cdv ct):=⟨⟨oc,od,kV,doc,pm,an,cdv,ct,osl,rfl,l,c⟩,k⟩
end
end L2
namespace L2
open PySem PySem.Spec PyProof.Rows
theorem yil {K:W.Frag} {a D:Addr} {xs:List V} {g:TG} {te:TE} {n:Nat} {fr:St} {R:Hp->Prop} {H1:Hp} (Pv:Nat->Hp->Prop) (h0:Pv 0 (upd H1 D (.lst []))) (hl:∀ i H,i <= xs.length->Pv i H->SqL K H a xs)
  (hs:∀ i x H pre,xs[i]?=some x->i < xs.length->Pv i H->List.length pre=n->g x (pre++fr) H fun σ' H'=>(∃ pre',List.length pre'=n/\σ'=pre'++fr)/\te σ' H' fun y H4=>∃ ys,H4 D=some (.lst ys)/\ys.length < sizeLine/\∃ m',m' < xs.length - i/\cW xs.length Pv (i+1) m' (upd H4 D (.lst (ys++[y]))))
  (hd:∀ H,Pv xs.length H->R H):je (Itl K a) g te n fr D R H1:=by
 refine ⟨cW xs.length Pv,⟨xs.length,by simp,Nat.zero_le _,h0⟩,?_⟩
 rintro i m H ⟨rfl,hi,p⟩
 have q:=hl i H hi p
 by_cases hlt:i < xs.length
 ·refine .inr ⟨⟨xs,xs[i],q,by simp [hlt]⟩,fun x H' pre y hp=>?_⟩
  obtain ⟨e,y⟩:=y
  subst e
  exact hs i x _ pre (y xs q) hlt p hp
 ·have e:i=xs.length:=by omega
  subst e
  exact .inl ⟨⟨xs,q,Nat.le_refl _⟩,hd H p⟩
def yrl (K:W.Frag):List V->Hp->VK->Prop:=fun xs H Q=>∃ p ys,xs=[.ref p]/\(SqL K H p ys\/SqT K H p ys)/\∀ l,H l=none->Q (.ref l) (upd H l (.lst ys))
theorem ynn {pre:List (Option V)} (h:List.length pre=3):∃ v1 v2 v3,pre=[v1,v2,v3]:=by
 match pre,h with
 | [v1,v2,v3],_=>exact ⟨v1,v2,v3,rfl⟩
end L2
namespace L2
open PySem PySem.Spec PyProof.Rows
end L2
namespace L2
open PySem PySem.Spec PyProof.Rows
section
variable {X:Cx} {body suite:List Stmt} {b₀:Stmt} {tx n:Str} {np hpos pos:Pos} {D:Addr} {i:Nat} {tb:(St->XK)->TS} {ts:TS}
abbrev THs:=yhk->St->Addr->Addr->Hp->Prop
end
section
variable {σ:St} {H:Hp} {nx:St->Hp->Prop} {rt:VK} {bk ct:St->Hp->Prop} {ts:TS}
end
end L2
namespace L2
open PySem PySem.Spec PyProof.Rows
section
variable {X:Cx} {pins:List (Addr × Obj)} {σ:St} {H:Hp} {s:Shared} {x T:Addr} {C:Value} {M:Model} {A:Around} {E:Value->Shared->Prop}
end
section
variable {X:Cx} {iter elt:Expr} {x:Str} {px pos:Pos} {scope:Scope} {te:TE} {wi:TI} {pins:List (Addr × Obj)} {σ:St}
end
section
variable {σ:St} {H:Hp} {Q:VK} {wi:TI} {te:(St->XK)->TE} {Ex:XK}
end
end L2
namespace L2
open PySem PySem.Spec PyProof.Rows
section
variable {M:Model} {h:Heap} {K:W.Frag}
end
section
variable {X:Cx} {suite:List Stmt} {b₀:Stmt} {tx n:Str} {np hpos pos:Pos} {D:Addr} {i:Nat} {ts:TS}
end
section
variable {σ:St} {H:Hp} {ts:TS} {K:W.Frag} {Ca D:Addr} {tr:THs} {En:yhk} {i:Nat} {cs:List Addr}
end
end L2
namespace L2
open PySem PySem.Spec PyProof.Rows
structure Dg (K:W.Frag) (x q:Str) (st:Stmt) (f:Addr) (fd:FuncData) (M:Prop):Prop where
 F:Fun K x q st f fd
 m:M
structure Df (K:W.Frag) (x q:Str) (st:Stmt) (ps:List Str) (f:Addr) (fd:FuncData) (M:Prop):Prop where
 F:Fun K x q st f fd
 B:xq K fd ps []
 m:M
abbrev Dgf (K:W.Frag) (mg:Str->Option Value) (x:Str) (st:Stmt) (f:Addr) (fd:FuncData):Prop:=Dg K x x st f fd (mg x=some (.ref f))
abbrev Dgm (K:W.Frag) (C:Addr) (x q:Str) (st:Stmt) (f:Addr) (fd:FuncData):Prop:=Dg K x q st f fd (yuk K C x f)
abbrev Dff (K:W.Frag) (mg:Str->Option Value) (x:Str) (st:Stmt) (ps:List Str) (f:Addr) (fd:FuncData):Prop:=Df K x x st ps f fd (mg x=some (.ref f))
abbrev Dfm (K:W.Frag) (C:Addr) (x q:Str) (st:Stmt) (ps:List Str) (f:Addr) (fd:FuncData):Prop:=Df K x q st ps f fd (yuk K C x f)
section
variable {K:W.Frag} {mg:Str->Option Value} {h:Heap} {x q:Str} {st:Stmt} {f C:Addr} {fd:FuncData} {M:Prop} {oc kV doc pm cdv ct:Value} {od an:Option Addr} {osl:Array (Option Value)}
theorem dgf_mk (X:K.In h) (G:h.Ns mainGlobals mg) (a:W.nsIn K mainGlobals x=some (some (.ref f))) (l:K.lookup f=some ⟨oc,od,.func (W.fnOf x x (wk st) (vx st) (yi st) .none kV doc pm an cdv ct),osl⟩)
  (c:W.codeIn K cdv x=true) (k:W.keepIn K (.ref f)=true):Dgf K mg x st f (W.fnOf x x (wk st) (vx st) (yi st) .none kV doc pm an cdv ct):=⟨ypt l c k,W.mg_of X G a⟩
theorem dgm_mk (a:W.findIn K (.ref C) x=some (some (.ref f))) (i:W.isFn K (.ref f)=true) (l:K.lookup f=some ⟨oc,od,.func (W.fnOf x q (wk st) (vx st) (yi st) .none kV doc pm an cdv ct),osl⟩)
  (c:W.codeIn K cdv q=true) (k:W.keepIn K (.ref f)=true):Dgm K C x q st f (W.fnOf x q (wk st) (vx st) (yi st) .none kV doc pm an cdv ct):=⟨ypt l c k,a,i,k⟩
theorem Dg.d0 (D:Dg K x q st f fd M) (h:∀ (kV doc pm:Value) (an:Option Addr) (cdv ct:Value),bindArgs (W.fnOf x q (wk st) (vx st) (yi st) .none kV doc pm an cdv ct) ⟨[],[]⟩=pure []):Df K x q st [] f fd M :=
 ⟨D.F,D.F.binds fun kV doc pm an cdv ct us hl=>match us,hl with | [],_=>h kV doc pm an cdv ct,D.m⟩
theorem Dg.d1 {p0:Str} (D:Dg K x q st f fd M) (h:∀ (kV doc pm:Value) (an:Option Addr) (cdv ct:Value) (u0:Value),bindArgs (W.fnOf x q (wk st) (vx st) (yi st) .none kV doc pm an cdv ct) ⟨[u0],[]⟩=pure [(p0,u0)]):Df K x q st [p0] f fd M :=
 ⟨D.F,D.F.binds fun kV doc pm an cdv ct us hl=>match us,hl with | [u0],_=>h kV doc pm an cdv ct u0,D.m⟩
theorem Dg.d2 {p0 p1:Str} (D:Dg K x q st f fd M) (h:∀ (kV doc pm:Value) (an:Option Addr) (cdv ct:Value) (u0 u1:Value),bindArgs (W.fnOf x q (wk st) (vx st) (yi st) .none kV doc pm an cdv ct) ⟨[u0,u1],[]⟩=pure [(p0,u0),(p1,u1)]):Df K x q st [p0,p1] f fd M :=
 ⟨D.F,D.F.binds fun kV doc pm an cdv ct us hl=>match us,hl with | [u0,u1],_=>h kV doc pm an cdv ct u0 u1,D.m⟩
theorem Dg.d3 {p0 p1 p2:Str} (D:Dg K x q st f fd M) (h:∀ (kV doc pm:Value) (an:Option Addr) (cdv ct:Value) (u0 u1 u2:Value),bindArgs (W.fnOf x q (wk st) (vx st) (yi st) .none kV doc pm an cdv ct) ⟨[u0,u1,u2],[]⟩=pure [(p0,u0),(p1,u1),(p2,u2)]):Df K x q st [p0,p1,p2] f fd M :=
 ⟨D.F,D.F.binds fun kV doc pm an cdv ct us hl=>match us,hl with | [u0,u1,u2],_=>h kV doc pm an cdv ct u0 u1 u2,D.m⟩
theorem Dg.d4 {p0 p1 p2 p3:Str} (D:Dg K x q st f fd M) (h:∀ (kV doc pm:Value) (an:Option Addr) (cdv ct:Value) (u0 u1 u2 u3:Value),bindArgs (W.fnOf x q (wk st) (vx st) (yi st) .none kV doc pm an cdv ct) ⟨[u0,u1,u2,u3],[]⟩=pure [(p0,u0),(p1,u1),(p2,u2),(p3,u3)]):Df K x q st [p0,p1,p2,p3] f fd M :=
 ⟨D.F,D.F.binds fun kV doc pm an cdv ct us hl=>match us,hl with | [u0,u1,u2,u3],_=>h kV doc pm an cdv ct u0 u1 u2 u3,D.m⟩
end
end L2
namespace MixI
def giv (c b:Int):Int:=if b=1 then c else 16777216 - c
def yn1 (x:Int):Nat:=if x == 0 then 0 else x.natAbs.log2+1
def shL (ws cs:List Int) (b:Int):List Int:=List.zipWith (fun w c=>w * giv c b) ws cs
def grL (sh:List Int):List Int:=sh.map fun s=>31 * (sh.length:Int) * s+sh.sum
def tOf (s:Int):Nat:=yn1 s - 48
def lrn (ws cs:List Int) (b:Int):List Int:=(grL (shL ws cs b)).map fun v=>v / 2 ^ tOf (grL (shL ws cs b)).sum
def vbs (ws cs:List Int):Int:=(List.zipWith (fun w c=>w * c) ws cs).sum
def yl9 (ws cs:List Int):Int:=vbs ws cs / ws.sum
structure WOk (k:Nat) (ws:List Int):Prop where
 len:ws.length=k
 one:∀ w∈ws,1 <= w
 top:∀ w∈ws,w < 281474976710656
structure COk (k:Nat) (cs:List Int):Prop where
 len:cs.length=k
 lo:∀ c∈cs,32768 <= c
 hi:∀ c∈cs,c <= 16744448
theorem yhi {c b:Int} (h1:32768 <= c) (h2:c <= 16744448):32768 <= giv c b:=by unfold giv; split <;> omega
theorem yli {c b:Int} (h1:32768 <= c) (h2:c <= 16744448):giv c b <= 16744448:=by unfold giv; split <;> omega
theorem yfy {ws cs:List Int} {b:Int} (h:ws.length=cs.length):(shL ws cs b).length=ws.length:=by
 unfold shL; rw [List.length_zipWith,<- h]; omega
theorem yk3 {sh:List Int}:(grL sh).length=sh.length:=by unfold grL; rw [List.length_map]
theorem yro {k:Nat} {ws cs:List Int} {b:Int} (hw:WOk k ws) (hc:COk k cs):(lrn ws cs b).length=k:=by
 unfold lrn; rw [List.length_map,yk3,yfy (by rw [hw.len,hc.len]),hw.len]
theorem ybz (m d:Int):∀ sh:List Int,(sh.map fun s=>m * s+d).sum=m * sh.sum+sh.length * d
 | []=>by simp
 | s :: r=>by
  simp only [List.map_cons,List.sum_cons,ybz m d r,List.length_cons,Int.natCast_add,Int.natCast_one,Int.mul_add,Int.add_mul]
  omega
theorem yr2 (sh:List Int):(grL sh).sum=32 * (sh.length:Int) * sh.sum:=by
 unfold grL
 rw [ybz,Int.mul_assoc,Int.mul_assoc]
 generalize (sh.length:Int) * sh.sum=x
 omega
theorem ylf:∀ {l:List Int},(∀ x∈l,0 <= x)->0 <= l.sum
 | [],_=>by simp
 | a :: r,h=>by
  have h1:=h a (by simp)
  have h2:=ylf (l:=r) fun x hx=>h x (by simp [hx])
  rw [List.sum_cons]; omega
theorem ypr:∀ {l:List Int} {y:Int},(∀ x∈l,0 <= x)->y∈l->y <= l.sum
 | a :: r,y,h,hy=>by
  have h1:=h a (by simp)
  have hr:∀ x∈r,0 <= x:=fun x hx=>h x (by simp [hx])
  have h2:=ylf hr
  rw [List.sum_cons]
  rcases List.mem_cons.mp hy with e | hy
  ·omega
  ·have:=ypr hr hy; omega
theorem ylg {c:Int}:∀ {l:List Int},(∀ x∈l,c <= x)->c * l.length <= l.sum
 | [],_=>by simp
 | a :: r,h=>by
  have h1:=h a (by simp)
  have h2:=ylg (l:=r) fun x hx=>h x (by simp [hx])
  rw [List.sum_cons,List.length_cons,Int.natCast_add,Int.natCast_one,Int.mul_add]; omega
theorem ypd {c:Int}:∀ {l:List Int},(∀ x∈l,x <= c)->l.sum <= c * l.length
 | [],_=>by simp
 | a :: r,h=>by
  have h1:=h a (by simp)
  have h2:=ypd (l:=r) fun x hx=>h x (by simp [hx])
  rw [List.sum_cons,List.length_cons,Int.natCast_add,Int.natCast_one,Int.mul_add]; omega
theorem ypf {f:Int->Int} {m:Int}:∀ {ws cs:List Int},ws.length=cs.length->(∀ w∈ws,0 <= w)->(∀ c∈cs,m <= f c)->m * ws.sum <= (List.zipWith (fun w c=>w * f c) ws cs).sum
 | [],[],_,_,_=>by simp
 | w :: r,c :: t,h,h1,h2=>by
  have i:=ypf (f:=f) (m:=m) (ws:=r) (cs:=t) (by simpa using h) (fun x hx=>h1 x (by simp [hx])) fun x hx=>h2 x (by simp [hx])
  have a:=Int.mul_le_mul_of_nonneg_left (h2 c (by simp)) (h1 w (by simp))
  rw [List.zipWith_cons_cons,List.sum_cons,List.sum_cons,Int.mul_add,Int.mul_comm m w]; omega
theorem yo0 {f:Int->Int} {m:Int}:∀ {ws cs:List Int},ws.length=cs.length->(∀ w∈ws,0 <= w)->(∀ c∈cs,f c <= m)->(List.zipWith (fun w c=>w * f c) ws cs).sum <= m * ws.sum
 | [],[],_,_,_=>by simp
 | w :: r,c :: t,h,h1,h2=>by
  have i:=yo0 (f:=f) (m:=m) (ws:=r) (cs:=t) (by simpa using h) (fun x hx=>h1 x (by simp [hx])) fun x hx=>h2 x (by simp [hx])
  have a:=Int.mul_le_mul_of_nonneg_left (h2 c (by simp)) (h1 w (by simp))
  rw [List.zipWith_cons_cons,List.sum_cons,List.sum_cons,Int.mul_add,Int.mul_comm m w]; omega
theorem WOk.pos {k:Nat} {ws:List Int} (h:WOk k ws) (hk:1 <= k):1 <= ws.sum:=by
 have:=ylg (c:=1) h.one
 rw [h.len] at this; omega
theorem WOk.small {k:Nat} {ws:List Int} (h:WOk k ws) (hk:k <= 6):ws.sum <= 1688849860263936:=by
 have:=ypd (c:=281474976710656) fun x hx=>Int.le_of_lt (h.top x hx)
 rw [h.len] at this; omega
theorem yhc {k:Nat} {ws cs:List Int} (hk:1 <= k) (hw:WOk k ws) (hc:COk k cs):32768 <= yl9 ws cs/\yl9 ws cs <= 16744448:=by
 have e:ws.length=cs.length:=by rw [hw.len,hc.len]
 have h0:∀ w∈ws,0 <= w:=fun w h=>by have:=hw.one w h; omega
 have p:=hw.pos hk
 have a:=ypf (f:=fun c=>c) e h0 hc.lo
 have b:=yo0 (f:=fun c=>c) e h0 hc.hi
 unfold yl9 vbs
 exact ⟨(Int.le_ediv_iff_mul_le (by omega)).mpr a,Int.le_of_lt_add_one ((Int.ediv_lt_iff_lt_mul (by omega)).mpr (by rw [Int.add_mul]; omega))⟩
theorem ygg (t:Nat):(2:Int) ^ t=((2 ^ t:Nat):Int):=by rw [Int.natCast_pow]; rfl
theorem yr9 (t:Nat):(0:Int) < 2 ^ t:=by rw [ygg]; exact Int.natCast_pos.mpr (Nat.pow_pos (by decide))
theorem yuo {s:Int} (h:1 <= s):s < 281474976710656 * 2 ^ tOf s/\(tOf s=0\/140737488355328 * 2 ^ tOf s <= s):=by
 have hn:s.natAbs≠0:=by omega
 have e:(s.natAbs:Int)=s:=by omega
 have a:=Nat.log2_self_le hn
 have b:=@Nat.lt_log2_self s.natAbs
 unfold tOf yn1
 rw [if_neg (by simp; omega)]
 generalize s.natAbs.log2=L at a b ⊢
 rcases Nat.lt_or_ge L 48 with q | q
 ·have z:L+1 - 48=0:=by omega
  rw [z]
  refine ⟨?_,.inl rfl⟩
  have:2 ^ (L+1) <= 2 ^ 48:=Nat.pow_le_pow_right (by decide) (by omega)
  have e48:(2:Nat) ^ 48=281474976710656:=by decide
  rw [e48] at this
  rw [<- e,Int.pow_zero,Int.mul_one]
  omega
 ·obtain ⟨t,rfl⟩:∃ t,L=47+t:=⟨L - 47,by omega⟩
  have z:47+t+1 - 48=t:=by omega
  rw [z,ygg]
  have e47:(2:Nat) ^ (47+t)=140737488355328 * 2 ^ t:=by rw [Nat.pow_add]
  have e48:(2:Nat) ^ (47+t+1)=281474976710656 * 2 ^ t:=by rw [show 47+t+1=48+t by omega,Nat.pow_add]
  rw [e47] at a
  rw [e48] at b
  generalize 2 ^ t=T at a b ⊢
  exact ⟨by omega,.inr (by omega)⟩
section
variable {k:Nat} {ws cs:List Int} {b:Int}
theorem yqf (hw:WOk k ws) (hc:COk k cs):∀ s∈shL ws cs b,1 <= s:=by
 intro s hs
 unfold shL at hs
 rw [List.mem_iff_getElem] at hs
 obtain ⟨i,hi,rfl⟩:=hs
 rw [List.length_zipWith] at hi
 rw [List.getElem_zipWith]
 have h1:=hw.one ws[i] (List.getElem_mem _)
 have h2:=yhi (b:=b) (hc.lo cs[i] (List.getElem_mem _)) (hc.hi cs[i] (List.getElem_mem _))
 have:=Int.mul_le_mul h1 h2 (by decide) (by omega)
 omega
theorem yx0 {sh:List Int} (h:∀ s∈sh,1 <= s):∀ v∈grL sh,sh.sum <= v/\v <= (grL sh).sum/\0 <= v:=by
 have hs:=ylf (l:=sh) fun x hx=>by have:=h x hx; omega
 have hv:∀ v∈grL sh,sh.sum <= v:=fun v hv=>by
  unfold grL at hv
  obtain ⟨s,hs',rfl⟩:=List.mem_map.mp hv
  have:=h s hs'
  have:0 <= 31 * (sh.length:Int) * s:=Int.mul_nonneg (Int.mul_nonneg (by decide) (Int.natCast_nonneg _)) (by omega)
  omega
 exact fun v h1=>⟨hv v h1,ypr (fun x hx=>by have:=hv x hx; omega) h1,by have:=hv v h1; omega⟩
theorem ypo (hk:1 <= k) (hk6:k <= 6) (hw:WOk k ws) (hc:COk k cs):WOk k (lrn ws cs b):=by
 have hl:(shL ws cs b).length=k:=by rw [yfy (by rw [hw.len,hc.len]),hw.len]
 have hp:=yqf (b:=b) hw hc
 have ha:1 <= (shL ws cs b).sum:=by
  have:=ylg (c:=1) hp
  rw [hl] at this; omega
 have hg:=yx0 hp
 have hs:=yr2 (shL ws cs b)
 rw [hl] at hs
 have h1:1 <= (grL (shL ws cs b)).sum:=by
  rw [hs]
  have:32 * (k:Int) * 1 <= 32 * (k:Int) * (shL ws cs b).sum:=Int.mul_le_mul_of_nonneg_left ha (by omega)
  omega
 have hsv:(grL (shL ws cs b)).sum <= 192 * (shL ws cs b).sum:=by
  rw [hs]; exact Int.mul_le_mul_of_nonneg_right (by omega) (by omega)
 obtain ⟨t1,t2⟩:=yuo h1
 have tp:=yr9 (tOf (grL (shL ws cs b)).sum)
 refine ⟨yro hw hc,fun w h=>?_,fun w h=>?_⟩
 ·obtain ⟨v,hv,rfl⟩:=List.mem_map.mp h
  obtain ⟨v1,v2,v3⟩:=hg v hv
  refine (Int.le_ediv_iff_mul_le tp).mpr ?_
  rcases t2 with t2 | t2
  ·rw [t2,Int.pow_zero]; omega
  ·generalize (2:Int) ^ tOf (grL (shL ws cs b)).sum=T at *
   omega
 ·obtain ⟨v,hv,rfl⟩:=List.mem_map.mp h
  obtain ⟨v1,v2,v3⟩:=hg v hv
  exact (Int.ediv_lt_iff_lt_mul tp).mpr (by omega)
theorem yj1 {g:Int->Int->Int} {ws cs:List Int} (h:cs.length=ws.length):(List.range ws.length).map (fun i=>g ((ws[i]?).getD 0) ((cs[i]?).getD 0))=List.zipWith g ws cs:=by
 apply List.ext_getElem
 ·rw [List.length_map,List.length_range,List.length_zipWith]; omega
 ·intro i h1 h2
  rw [List.length_map,List.length_range] at h1
  rw [List.getElem_map,List.getElem_range,List.getElem_zipWith,List.getElem?_eq_getElem h1,List.getElem?_eq_getElem (by omega)]
  rfl
end
end MixI
namespace SpanMath
def rn (d:List Int):Nat->Int
 | 0=>0
 | k+1=>rn d k * 256+(d[k]?).getD 0
def Byt (d:List Int):Prop:=∀ x∈d,0 <= x/\x <= 255
theorem yu0 {d:List Int} (h:Byt d) (k:Nat):0 <= (d[k]?).getD 0/\(d[k]?).getD 0 <= 255:=by
 cases e:d[k]? with
 | none=>exact ⟨by decide,by decide⟩
 | some x=>exact h x (List.mem_of_getElem? e)
theorem yl0 {d:List Int} (h:Byt d) (k:Nat):∀ r,∃ q,rn d (k+r)=rn d k * pw r+q/\0 <= q/\q < pw r
 | 0=>⟨0,by show rn d k=rn d k * 1+0; omega,by decide,by decide⟩
 | r+1=>by
  obtain ⟨q,e,h1,h2⟩:=yl0 h k r
  obtain ⟨h3,h4⟩:=yu0 h (k+r)
  refine ⟨q * 256+(d[k+r]?).getD 0,?_,by omega,?_⟩
  ·show rn d (k+r) * 256+(d[k+r]?).getD 0=rn d k * (pw r * 256)+_
   rw [e,<- Int.mul_assoc,Int.add_mul,Int.add_assoc]
  ·show _ < pw r * 256
   omega
theorem ym9 {d:List Int} (h:Byt d) (k r:Nat) (l w':Int):(l * pw r <= rn d (k+r)/\rn d (k+r) < l * pw r+w' * pw r) ↔ (l <= rn d k/\rn d k < l+w'):=by
 obtain ⟨q,e,h1,h2⟩:=yl0 h k r
 have hp:=xv r
 rw [e,<- Int.add_mul]
 generalize rn d k=v
 generalize pw r=p at hp h1 h2 ⊢
 constructor
 ·rintro ⟨a,b⟩
  constructor
  ·refine Int.le_of_lt_add_one (Int.lt_of_mul_lt_mul_right (a:=p) ?_ (Int.le_of_lt hp))
   rw [Int.add_mul,Int.one_mul]
   omega
  ·refine Int.lt_of_mul_lt_mul_right (a:=p) ?_ (Int.le_of_lt hp)
   omega
 ·rintro ⟨a,b⟩
  have a':=Int.mul_le_mul_of_nonneg_right a (Int.le_of_lt hp)
  have b':=Int.mul_le_mul_of_nonneg_right (show v+1 <= l+w' by omega) (Int.le_of_lt hp)
  rw [Int.add_mul v 1 p,Int.one_mul] at b'
  omega
structure InS (d:List Int) (x:Sn):Prop where
 lo:x.1 <= rn d (sz x)
 hi:rn d (sz x) < x.1+x.2.1
theorem yy5 (l w' s':Int):∃ r:Nat,ren l w' s'=(l * pw r,w' * pw r,s'+r):=by
 unfold ren
 split
 ·split
  ·exact ⟨2,rfl⟩
  ·exact ⟨1,rfl⟩
 ·refine ⟨0,?_⟩
  show (l,w',s')=(l * 1,w' * 1,s'+0)
  rw [Int.mul_one,Int.mul_one,Int.add_zero]
theorem yoq {d:List Int} (h:Byt d) {l w' s':Int} (hs:0 <= s'):InS d (ren l w' s') ↔ (l <= rn d s'.toNat/\rn d s'.toNat < l+w'):=by
 obtain ⟨r,e⟩:=yy5 l w' s'
 rw [e]
 have hz:sz (l * pw r,w' * pw r,s'+r)=s'.toNat+r:=by
  show (s'+(r:Int)).toNat=s'.toNat+r
  omega
 rw [<- ym9 h s'.toNat r l w']
 constructor
 ·rintro ⟨a,b⟩
  rw [hz] at a b
  exact ⟨a,b⟩
 ·rintro ⟨a,b⟩
  exact ⟨by rw [hz]; exact a,by rw [hz]; exact b⟩
def yap (d:List Int) (x:Sn) (c:Int):Int:=if rn d (sz x) < x.1+cut x.2.1 c then 1 else 0
theorem ydb (d:List Int) (x:Sn) (c:Int):yap d x c=0\/yap d x c=1:=by
 unfold yap
 split
 ·exact .inr rfl
 ·exact .inl rfl
theorem yqh {d:List Int} (hd:Byt d) {x:Sn} {c b:Int} (h:OkS x) (hc:Ch c) (hb:b=0\/b=1) (i:InS d (nar x c b)):InS d x/\b=yap d x c:=by
 have hz:=h.ok.z
 obtain ⟨a1,a2,a3⟩:=yep h.ok.w0 h.ok.w1 hc
 unfold nar at i
 rcases hb with rfl | rfl
 ·rw [if_neg (by decide)] at i
  obtain ⟨i1,i2⟩:=(yoq hd (by omega)).mp i
  have i1:x.1+cut x.2.1 c <= rn d (sz x):=i1
  have i2:rn d (sz x) < x.1+cut x.2.1 c+(x.2.1 - cut x.2.1 c):=i2
  refine ⟨⟨by omega,by omega⟩,?_⟩
  unfold yap
  rw [if_neg (by omega)]
 ·rw [if_pos rfl] at i
  obtain ⟨i1,i2⟩:=(yoq hd (by omega)).mp i
  have i1:x.1 <= rn d (sz x):=i1
  have i2:rn d (sz x) < x.1+cut x.2.1 c:=i2
  refine ⟨⟨by omega,by omega⟩,?_⟩
  unfold yap
  rw [if_pos i2]
theorem ypl:∀ (k:Nat) (d:List Int),k <= d.length->rn d k=val (d.take k)
 | 0,_,_=>rfl
 | k+1,d,h=>by
  have hk:k < d.length:=by omega
  have e:d.take (k+1)=d.take k++[d[k]]:=by rw [List.take_succ,List.getElem?_eq_getElem hk]; rfl
  rw [e,ygw,<- ypl k d (by omega)]
  show rn d k * 256+_=_
  rw [List.getElem?_eq_getElem hk]
  rfl
theorem yq3 {d:List Int} (hd:Byt d) {x:Sn} (h:OkS x) (hl:(tL x).length <= d.length) (hp:d.take (tL x).length=tL x):InS d x:=by
 have hk:=yn6 h
 have e1:rn d (sz x - tK x)=tCn x:=by
  rw [<- ylk x,ypl _ _ hl,hp,yu2 h]
 obtain ⟨q,e2,q0,q1⟩:=yl0 hd (sz x - tK x) (tK x)
 have e3:sz x - tK x+tK x=sz x:=by omega
 rw [e3,e1] at e2
 have hh:=yfq h.ok
 have hb:=(ylu x.1 (xv (tK x))).1
 unfold ycc at hh
 have hh:(tCn x+1) * pw (tK x) <= x.1+x.2.1:=hh
 have hb:x.1 <= tCn x * pw (tK x):=hb
 rw [Int.add_mul,Int.one_mul] at hh
 exact ⟨by rw [e2]; omega,by rw [e2]; omega⟩
end SpanMath
namespace Law
open PySem L2
local macro_rules | `(tactic| walk_at "side")=>`(tactic| first | exact ⟨by decide,by decide⟩ | (show (0:Int) < _; first | decide | omega) | exact Or.inl ⟨by omega,by omega⟩ | exact Or.inr ⟨by omega,by omega⟩ | exact ⟨by omega,by omega⟩ | exact ⟨by decide,by decide,by decide⟩)
local macro_rules | `(tactic| walk_at "len")=>`(tactic| first | decide | (simp only [List.length_cons,List.length_nil]; decide))
local macro_rules | `(tactic| walk_at "rd1")=>`(tactic| with_reducible first
 | refine vau ?_
 | (refine' yy7 ?rdv ?_; (case rdv=>with_unfolding_all rfl))
 | refine i_c ?_
 | refine vce ?_
 | refine vb6 ?_
 | refine ywt ?_
 | refine vca ?_
 | refine vb9 ?_
 | refine vcp ?_
 | refine vac ?_
 | refine vam ?_
 | refine yw6 ?_
 | refine yxk ?_
 | refine yxl ?_
 | refine yqn ?_
 | refine yde ?_
 | refine yrb ?_
 | refine ysb ?_
 | refine i_try ?_
 | refine ywu ?_
 | refine yz3 ?_
 | refine vcb ?_
 | refine yzr ?_
 | refine vaq ?_
 | refine yqb ?_
 | refine yvt ?_
 | refine i_orV ?_
 | refine ywq ?_
 | refine vap ?_
 | refine vcc ?_
 | refine vaa ?_
 | refine yz2 ?_
 | refine i_retN ?_
 | refine yzu ?_
 | refine vad ?_
 | refine yg1 ?_
 | refine yvy ?_
 | refine i_make0 ?_
 | refine vcq ?_
 | refine vax ?_
 | refine vah ?_
 | refine yun ?_
 | refine vco ?_
 | refine ymo ?_
 | refine yxz ?_
 | refine vat ?_
 | refine vcl ?_
 | refine i_U ?_
 | refine g0 ?_ | refine g1 ?_ | refine g2 ?_ | refine g3 ?_ | refine g4 ?_ | refine g5 ?_ | refine g6 ?_ | refine g7 ?_ | refine g8 ?_ | refine g9 ?_ | refine g10 ?_ | refine g11 ?_ | refine g12 ?_ | refine g13 ?_ | refine g14 ?_ | refine g15 ?_ | refine g16 ?_ | refine g17 ?_ | refine g18 ?_ | refine g19 ?_ | refine g20 ?_ | refine g21 ?_ | refine g22 ?_ | refine g23 ?_
 | refine yrt ?_
 | refine yv9 ?_
 | refine ymf ?_
 | refine ymc ?_
 | refine vaj ?_
 | refine yz0 ?_
 | refine yzv ?_
 | refine yrc ?_
 | refine ywf ?_
 | refine i_iEnum ?_
 | refine yr6 ?_
 | refine yq1 ?_
 | refine yql ?_
 | refine i_iRng3 ?_
 | refine i_iEnumT ?_
 | refine yxg ?_
 | refine yr0 ?_
 | refine i_gSub ?_
 | refine yvo ?_
 | refine yqc ?_
 | refine i_compI ?_
 | refine yxb ?_
 | refine i_dget1 ?_
 | refine i_dget2 ?_
 | refine i_din ?_
 | refine ynp ?_
 | refine yv7 ?_
 | refine yri ?_
 | refine yyh ?_
 | refine yp9 ?_
 | (refine' i_shlC ?rdp ?rdq ?_; (case rdp=>with_unfolding_all exact ⟨by decide,by decide,by decide⟩); (case rdq=>with_unfolding_all decide))
 | (refine' yye ?rdp ?rdq ?_; (case rdp=>with_unfolding_all exact ⟨by decide,by decide,by decide⟩); (case rdq=>with_unfolding_all decide))
 | refine yxr ?_
 | (refine i_I ?rdc ?_; (case rdc=>with_unfolding_all walk_at "side")))
local macro_rules | `(tactic| walk_at "rd")=>`(tactic| repeat walk_at "rd1")
def top (i:Nat):Stmt:=PySem.Challenge.pw_foretell_k90_whole_pressed.main.body.getD i (.Pass ⟨0,0,0,0⟩)
abbrev vba:Stmt:=top 15
abbrev vbb:Stmt:=top 16
abbrev va7:Stmt:=top 17
abbrev vay:Stmt:=top 18
abbrev vbd:Stmt:=top 19
abbrev va1:Stmt:=top 20
abbrev vbf:Stmt:=top 21
abbrev va6:Stmt:=top 22
abbrev va8:Stmt:=top 23
abbrev ysg:Stmt:=top 24
abbrev yt2:Stmt:=top 25
abbrev yty:Stmt:=top 28
abbrev ys4:Stmt:=top 29
abbrev ys5:Stmt:=vp (top 34) 0
abbrev yt9:Stmt:=vp (top 34) 1
abbrev ysf:Stmt:=vp (top 34) 2
abbrev ysv:Stmt:=vp (top 35) 0
abbrev ysd:Stmt:=vp (top 35) 1
abbrev ysu:Stmt:=vp (top 35) 2
abbrev ysh:Stmt:=vp (top 36) 0
abbrev ytl:Stmt:=vp (top 36) 1
abbrev ytd:Stmt:=vp (top 36) 2
abbrev yta:Stmt:=top 37
abbrev ytt:Stmt:=top 43
abbrev ysw:Stmt:=top 44
abbrev yt3:Stmt:=top 45
abbrev ysj:Stmt:=top 46
abbrev ytp:Stmt:=top 47
abbrev yt7:Stmt:=top 48
abbrev ysx:Stmt:=top 49
abbrev yse:Stmt:=vp (top 50) 0
abbrev yts:Stmt:=vp (top 50) 2
abbrev ysm:Stmt:=vp (top 55) 0
abbrev ytb:Stmt:=vp (top 55) 2
abbrev yt4:Stmt:=vp (top 55) 3
abbrev yss:Stmt:=vp (top 58) 0
abbrev yt1:Stmt:=vp (top 58) 1
abbrev ytk:Stmt:=vp (top 58) 2
abbrev yth:Stmt:=vp (top 58) 3
abbrev ysy:Stmt:=vp (top 58) 7
abbrev ysr:Stmt:=vp (top 58) 8
abbrev ysp:Stmt:=vp (top 58) 9
abbrev ysl:Stmt:=top 63
abbrev ysk:Stmt:=top 64
abbrev ytz:Stmt:=vp (top 65) 0
abbrev ys8:Stmt:=vp (top 65) 2
abbrev ytv:Stmt:=vp (top 65) 3
abbrev yte:Stmt:=vp (top 65) 5
abbrev ys7:Stmt:=vp (top 65) 6
abbrev ysq:Stmt:=vp (top 67) 0
abbrev yt5:Stmt:=vp (top 67) 1
abbrev ytc:Stmt:=vp (top 67) 2
abbrev yt0:Stmt:=vp (top 67) 3
abbrev yua:Stmt:=vp (top 67) 5
abbrev ys9:Stmt:=top 70
abbrev ysn:Stmt:=top 71
abbrev ysi:Stmt:=top 72
abbrev yiq:Stmt:=top 73
abbrev yio:Stmt:=top 74
abbrev ys0:Stmt:=top 76
abbrev yis:Stmt:=top 77
abbrev yto:Stmt:=top 78
abbrev yt8:Stmt:=top 79
abbrev ys3:Stmt:=top 80
abbrev ytm:Stmt:=top 81
abbrev yir:Stmt:=top 82
abbrev yit:Stmt:=top 83
abbrev ytu:Stmt:=top 85
abbrev yt6:Stmt:=top 86
abbrev ys1:Stmt:=top 87
abbrev ytf:Stmt:=top 88
abbrev ytx:Stmt:=top 89
abbrev ys2:Stmt:=top 90
abbrev ysz:Stmt:=top 91
abbrev ys6:Stmt:=top 92
abbrev yti:Stmt:=top 93
set_option genInjectivity false in
set_option genSizeOfSpec false in
structure Ads where
 f_q1:Addr
 d_q1:FuncData
 f_q2:Addr
 d_q2:FuncData
 f_q3:Addr
 d_q3:FuncData
 f_q4:Addr
 d_q4:FuncData
 f_q5:Addr
 d_q5:FuncData
 f_q6:Addr
 d_q6:FuncData
 f_q7:Addr
 d_q7:FuncData
 f_q8:Addr
 d_q8:FuncData
 f_q9:Addr
 d_q9:FuncData
 f_q10:Addr
 d_q10:FuncData
 f_q11:Addr
 d_q11:FuncData
 f_q12:Addr
 d_q12:FuncData
 f_q13:Addr
 d_q13:FuncData
 f_q14:Addr
 d_q14:FuncData
 f_q15:Addr
 d_q15:FuncData
 f_q16:Addr
 d_q16:FuncData
 f_q17:Addr
 d_q17:FuncData
 f_q18:Addr
 d_q18:FuncData
 f_q19:Addr
 d_q19:FuncData
 f_q20:Addr
 d_q20:FuncData
 f_q21:Addr
 d_q21:FuncData
 f_q22:Addr
 d_q22:FuncData
 f_q23:Addr
 d_q23:FuncData
 f_q24:Addr
 d_q24:FuncData
 f_q25:Addr
 d_q25:FuncData
 f_q26:Addr
 d_q26:FuncData
 f_q27:Addr
 d_q27:FuncData
 f_q28:Addr
 d_q28:FuncData
 f_q29:Addr
 d_q29:FuncData
 f_q30:Addr
 d_q30:FuncData
 f_q31:Addr
 d_q31:FuncData
 f_q32:Addr
 d_q32:FuncData
 f_q33:Addr
 d_q33:FuncData
 f_q34:Addr
 d_q34:FuncData
 f_q35:Addr
 d_q35:FuncData
 f_q36:Addr
 d_q36:FuncData
 f_q37:Addr
 d_q37:FuncData
 f_q38:Addr
 d_q38:FuncData
 f_q39:Addr
 d_q39:FuncData
 f_q40:Addr
 d_q40:FuncData
 f_q41:Addr
 d_q41:FuncData
 f_q42:Addr
 d_q42:FuncData
 f_q43:Addr
 d_q43:FuncData
 f_q44:Addr
 d_q44:FuncData
 f_q45:Addr
 d_q45:FuncData
 f_q46:Addr
 d_q46:FuncData
 f_q47:Addr
 d_q47:FuncData
 f_q48:Addr
 d_q48:FuncData
 f_q49:Addr
 d_q49:FuncData
 f_q50:Addr
 d_q50:FuncData
 f_q51:Addr
 d_q51:FuncData
 f_q52:Addr
 d_q52:FuncData
 f_q53:Addr
 d_q53:FuncData
 f_q54:Addr
 d_q54:FuncData
 f_q55:Addr
 d_q55:FuncData
 f_q56:Addr
 d_q56:FuncData
 f_q57:Addr
 d_q57:FuncData
 f_q58:Addr
 d_q58:FuncData
 D_q58:Addr
 f_q59:Addr
 d_q59:FuncData
 D_q59:Addr
 f_q60:Addr
 d_q60:FuncData
 f_q61:Addr
 d_q61:FuncData
 D_q61:Addr
 f_q62:Addr
 d_q62:FuncData
 f_q63:Addr
 d_q63:FuncData
 f_q64:Addr
 d_q64:FuncData
 f_q65:Addr
 d_q65:FuncData
 f_q66:Addr
 d_q66:FuncData
 D_q66:Addr
 Dt_q66_0:Tok
 f_q67:Addr
 d_q67:FuncData
 D_q67:Addr
 Dt_q67_0:Tok
 f_q68:Addr
 d_q68:FuncData
 f_q69:Addr
 d_q69:FuncData
 f_q70:Addr
 d_q70:FuncData
 f_q71:Addr
 d_q71:FuncData
 f_q72:Addr
 d_q72:FuncData
 f_q73:Addr
 d_q73:FuncData
 f_q74:Addr
 d_q74:FuncData
 f_q75:Addr
 d_q75:FuncData
 f_law:Addr
 d_law:FuncData
 C_Even:Addr
 C_Quick:Addr
 C_Run:Addr
 C_Mx:Addr
 C_Book:Addr
 C_Span:Addr
 C_Ft:Addr
 C_Sk:Addr
 C_NT:Addr
 C_NY:Addr
 C_NoMost:Addr
 C_NC:Addr
 C_NB:Addr
 C_NL:Addr
 C_NP:Addr
 t_LEAST:Tok
 t_ONE:Tok
 t_MOST_SIGNS:Tok
 t_MOST_BYTES:Tok
 t_MOST_COUNTED:Tok
 t_FARTHEST:Tok
 t_MOST_PLACES:Tok
 t_MOST_LOOKS:Tok
 t_NO_SIGN:Tok
 t_FIRST_WEIGHT:Tok
 t_OWN_PARTS:Tok
 t_MOST_FIGURES:Tok
 t_NODES_END:Tok
 t_FIRST_WIDTH:Tok
 t_FIRST_SIZE:Tok
 t_LEAST_WIDTH:Tok
 t_FIGURES:Tok
 W_WORTHS:Addr
 W_KINDS:Addr
structure Txt (K:W.Frag) (mg:Str->Option Value) (a:Ads):Prop where
 y_q1:Dff K mg "is_whole" vba ["thing"] a.f_q1 a.d_q1
 y_q2:Dff K mg "is_bit" vbb ["thing"] a.f_q2 a.d_q2
 y_q3:Dff K mg "is_chance" va7 ["thing"] a.f_q3 a.d_q3
 y_q4:Dff K mg "is_sign" vay ["thing"] a.f_q4 a.d_q4
 y_q5:Dff K mg "is_list_of_signs" vbd ["thing","most"] a.f_q5 a.d_q5
 y_q6:Dff K mg "checked_text" va1 ["thing"] a.f_q6 a.d_q6
 y_q7:Dff K mg "checked_bytes" vbf ["thing"] a.f_q7 a.d_q7
 y_q8:Dff K mg "check_most" va6 ["thing"] a.f_q8 a.d_q8
 y_q9:Dff K mg "check_chance" va8 ["thing"] a.f_q9 a.d_q9
 y_q10:Dff K mg "check_bit" ysg ["thing"] a.f_q10 a.d_q10
 y_q11:Dff K mg "gives" yt2 ["chance","bit"] a.f_q11 a.d_q11
 y_q12:Dff K mg "bits_of" yty ["sign"] a.f_q12 a.d_q12
 y_q13:Dff K mg "decisions_of" ys4 ["text"] a.f_q13 a.d_q13
 y_q14:Dfm K a.C_Even "__init__" "Even.__init__" ys5 ["self"] a.f_q14 a.d_q14
 y_q15:Dfm K a.C_Even "chance" "Even.chance" yt9 ["self"] a.f_q15 a.d_q15
 y_q16:Dfm K a.C_Even "seen" "Even.seen" ysf ["self","bit"] a.f_q16 a.d_q16
 y_q17:Dfm K a.C_Quick "__init__" "Quick.__init__" ysv ["self"] a.f_q17 a.d_q17
 y_q18:Dfm K a.C_Quick "chance" "Quick.chance" ysd ["self"] a.f_q18 a.d_q18
 y_q19:Dfm K a.C_Quick "seen" "Quick.seen" ysu ["self","bit"] a.f_q19 a.d_q19
 y_q20:Dfm K a.C_Run "__init__" "Run.__init__" ysh ["self"] a.f_q20 a.d_q20
 y_q21:Dfm K a.C_Run "chance" "Run.chance" ytl ["self"] a.f_q21 a.d_q21
 y_q22:Dfm K a.C_Run "seen" "Run.seen" ytd ["self","bit"] a.f_q22 a.d_q22
 y_q23:Dff K mg "slot_of" yta ["kind"] a.f_q23 a.d_q23
 y_q24:Dff K mg "is_kind" ytt ["thing"] a.f_q24 a.d_q24
 y_q25:Dff K mg "is_place" ysw ["thing"] a.f_q25 a.d_q25
 y_q26:Dff K mg "are_places" yt3 ["thing"] a.f_q26 a.d_q26
 y_q27:Dff K mg "is_look" ysj ["thing"] a.f_q27 a.d_q27
 y_q28:Dff K mg "checked_looks" ytp ["thing"] a.f_q28 a.d_q28
 y_q29:Dff K mg "sign_back" yt7 ["signs","place"] a.f_q29 a.d_q29
 y_q30:Dff K mg "context_of" ysx ["look","signs","node"] a.f_q30 a.d_q30
 y_q31:Dfm K a.C_Book "__init__" "Book.__init__" yse ["self","look"] a.f_q31 a.d_q31
 y_q32:Dfm K a.C_Book "slot_at" "Book.slot_at" yts ["self","signs","node"] a.f_q32 a.d_q32
 y_q33:Dfm K a.C_Mx "__init__" "Mixer.__init__" ysm ["self","many"] a.f_q33 a.d_q33
 y_q34:Dfm K a.C_Mx "mixed" "Mixer.mixed" ytb ["self","chances"] a.f_q34 a.d_q34
 y_q35:Dfm K a.C_Mx "learn" "Mixer.learn" yt4 ["self","chances","bit"] a.f_q35 a.d_q35
 y_q36:Dfm K a.C_Ft "__init__" "Foreteller.__init__" yss ["self","looks"] a.f_q36 a.d_q36
 y_q37:Dfm K a.C_Ft "arrive" "Foreteller.arrive" yt1 ["self"] a.f_q37 a.d_q37
 y_q38:Dfm K a.C_Ft "chances" "Foreteller.chances" ytk ["self"] a.f_q38 a.d_q38
 y_q39:Dfm K a.C_Ft "chance" "Foreteller.chance" yth ["self"] a.f_q39 a.d_q39
 y_q40:Dfm K a.C_Ft "see" "Foreteller.see" ysy ["self","bit"] a.f_q40 a.d_q40
 y_q41:Dfm K a.C_Ft "step" "Foreteller.step" ysr ["self","bit"] a.f_q41 a.d_q41
 y_q42:Dfm K a.C_Ft "step_in_sign" "Foreteller.step_in_sign" ysp ["self","bit"] a.f_q42 a.d_q42
 y_q43:Dff K mg "written" ysl ["number","size"] a.f_q43 a.d_q43
 y_q44:Dff K mg "first_block" ysk ["low","unit"] a.f_q44 a.d_q44
 y_q45:Dfm K a.C_Span "__init__" "Span.__init__" ytz ["self"] a.f_q45 a.d_q45
 y_q46:Dfm K a.C_Span "cut" "Span.cut" ys8 ["self","chance"] a.f_q46 a.d_q46
 y_q47:Dfm K a.C_Span "narrow" "Span.narrow" ytv ["self","chance","bit"] a.f_q47 a.d_q47
 y_q48:Dfm K a.C_Span "holds_block" "Span.holds_block" yte ["self","unit"] a.f_q48 a.d_q48
 y_q49:Dfm K a.C_Span "told" "Span.told" ys7 ["self"] a.f_q49 a.d_q49
 y_q50:Dfm K a.C_Sk "__init__" "Seeker.__init__" ysq ["self","data"] a.f_q50 a.d_q50
 y_q51:Dfm K a.C_Sk "follow" "Seeker.follow" yt5 ["self"] a.f_q51 a.d_q51
 y_q52:Dfm K a.C_Sk "byte_at" "Seeker.byte_at" ytc ["self","place"] a.f_q52 a.d_q52
 y_q53:Dfm K a.C_Sk "bit" "Seeker.bit" yt0 ["self","chance"] a.f_q53 a.d_q53
 y_q54:Dfm K a.C_Sk "told" "Seeker.told" yua ["self"] a.f_q54 a.d_q54
 y_q55:Dff K mg "checked_learned" ys9 ["thing"] a.f_q55 a.d_q55
 y_q56:Dff K mg "teach" ysn ["foreteller","texts"] a.f_q56 a.d_q56
 y_q57:Dff K mg "rows_of" ysi ["looks","text","learned"] a.f_q57 a.d_q57
 F_q58:yau K "foretold" "foretold" yiq a.D_q58 a.f_q58 a.d_q58
 B1_q58:xq K a.d_q58 ["looks","text","learned"] [.none]
 B_q58:xq K a.d_q58 ["looks","text","learned"] []
 m_q58:mg "foretold"=some (.ref a.f_q58)
 F_q59:yau K "cost" "cost" yio a.D_q59 a.f_q59 a.d_q59
 B1_q59:xq K a.d_q59 ["looks","text","learned"] [.none]
 B_q59:xq K a.d_q59 ["looks","text","learned"] []
 m_q59:mg "cost"=some (.ref a.f_q59)
 y_q60:Dff K mg "press_by" ys0 ["foreteller","text"] a.f_q60 a.d_q60
 F_q61:yau K "pressed" "pressed" yis a.D_q61 a.f_q61 a.d_q61
 B1_q61:xq K a.d_q61 ["looks","text","learned"] [.none]
 B_q61:xq K a.d_q61 ["looks","text","learned"] []
 m_q61:mg "pressed"=some (.ref a.f_q61)
 y_q62:Dff K mg "bit_by" yto ["foreteller","seeker"] a.f_q62 a.d_q62
 y_q63:Dff K mg "sign_by" yt8 ["foreteller","seeker"] a.f_q63 a.d_q63
 y_q64:Dff K mg "text_by" ys3 ["foreteller","seeker","most"] a.f_q64 a.d_q64
 y_q65:Dff K mg "read_by" ytm ["foreteller","data","most"] a.f_q65 a.d_q65
 F_q66:yau K "read_first" "read_first" yir a.D_q66 a.f_q66 a.d_q66
 B1_q66:xq K a.d_q66 ["looks","data","most","learned"] [.none]
 B2_q66:xq K a.d_q66 ["looks","data","most","learned"] [.int 1000 a.Dt_q66_0,.none]
 B_q66:xq K a.d_q66 ["looks","data","most","learned"] []
 m_q66:mg "read_first"=some (.ref a.f_q66)
 F_q67:yau K "read" "read" yit a.D_q67 a.f_q67 a.d_q67
 B1_q67:xq K a.d_q67 ["looks","data","most","learned"] [.none]
 B2_q67:xq K a.d_q67 ["looks","data","most","learned"] [.int 1000 a.Dt_q67_0,.none]
 B_q67:xq K a.d_q67 ["looks","data","most","learned"] []
 m_q67:mg "read"=some (.ref a.f_q67)
 y_q68:Dff K mg "_law_cell_at" ytu ["_law_script","_law_k"] a.f_q68 a.d_q68
 y_q69:Dff K mg "_law_bytes" yt6 ["_law_found"] a.f_q69 a.d_q69
 y_q70:Dff K mg "_law_looks" ys1 ["_law_cell","_law_most"] a.f_q70 a.d_q70
 y_q71:Dff K mg "_law_text" ytf ["_law_cells","_law_cell"] a.f_q71 a.d_q71
 y_q72:Dff K mg "_law_whole" ytx ["_law_found"] a.f_q72 a.d_q72
 y_q73:Dff K mg "_law_same" ys2 ["_law_found","_law_signs"] a.f_q73 a.d_q73
 y_q74:Dff K mg "_law_given" ysz ["_law_rows","_law_text_here"] a.f_q74 a.d_q74
 y_q75:Dff K mg "_law_cheap" ys6 ["_law_looks_here","_law_text_here","_law_learned","_law_data"] a.f_q75 a.d_q75
 y_law:Dff K mg "law" yti ["_law_script"] a.f_law a.d_law
 cl_Even:Cls K a.C_Even
 m_Even:mg "Even"=some (.ref a.C_Even)
 k_Even:Mk K a.C_Even a.f_q14
 n_Even_noughts:yt K a.C_Even "noughts"
 n_Even_ones:yt K a.C_Even "ones"
 cl_Quick:Cls K a.C_Quick
 m_Quick:mg "Quick"=some (.ref a.C_Quick)
 k_Quick:Mk K a.C_Quick a.f_q17
 n_Quick_held:yt K a.C_Quick "held"
 cl_Run:Cls K a.C_Run
 m_Run:mg "Run"=some (.ref a.C_Run)
 k_Run:Mk K a.C_Run a.f_q20
 n_Run_last:yt K a.C_Run "last"
 n_Run_length:yt K a.C_Run "length"
 cl_Mx:Cls K a.C_Mx
 m_Mx:mg "Mixer"=some (.ref a.C_Mx)
 k_Mx:Mk K a.C_Mx a.f_q33
 n_Mx_kept:yt K a.C_Mx "kept"
 cl_Book:Cls K a.C_Book
 m_Book:mg "Book"=some (.ref a.C_Book)
 k_Book:Mk K a.C_Book a.f_q31
 n_Book_look:yt K a.C_Book "look"
 n_Book_slots:yt K a.C_Book "slots"
 cl_Span:Cls K a.C_Span
 m_Span:mg "Span"=some (.ref a.C_Span)
 k_Span:Mk K a.C_Span a.f_q45
 n_Span_low:yt K a.C_Span "low"
 n_Span_width:yt K a.C_Span "width"
 n_Span_size:yt K a.C_Span "size"
 cl_Ft:Cls K a.C_Ft
 m_Ft:mg "Foreteller"=some (.ref a.C_Ft)
 k_Ft:Mk K a.C_Ft a.f_q36
 n_Ft_looks:yt K a.C_Ft "looks"
 n_Ft_books:yt K a.C_Ft "books"
 n_Ft_mixer:yt K a.C_Ft "mixer"
 n_Ft_ended:yt K a.C_Ft "ended"
 n_Ft_place:yt K a.C_Ft "place"
 n_Ft_present:yt K a.C_Ft "present"
 cl_Sk:Cls K a.C_Sk
 m_Sk:mg "Seeker"=some (.ref a.C_Sk)
 k_Sk:Mk K a.C_Sk a.f_q50
 n_Sk_data:yt K a.C_Sk "data"
 n_Sk_span:yt K a.C_Sk "span"
 n_Sk_number:yt K a.C_Sk "number"
 n_Sk_reached:yt K a.C_Sk "reached"
 m_NT:mg "NoText"=some (.ref a.C_NT)
 m_NY:mg "NoBytes"=some (.ref a.C_NY)
 m_NoMost:mg "NoMost"=some (.ref a.C_NoMost)
 m_NC:mg "NoChance"=some (.ref a.C_NC)
 m_NB:mg "NoBit"=some (.ref a.C_NB)
 m_NL:mg "NoLooks"=some (.ref a.C_NL)
 m_NP:mg "NoPress"=some (.ref a.C_NP)
 x_NT:XCls K a.C_NT
 r_NT:XMk K a.C_NT
 x_NY:XCls K a.C_NY
 r_NY:XMk K a.C_NY
 x_NoMost:XCls K a.C_NoMost
 r_NoMost:XMk K a.C_NoMost
 x_NC:XCls K a.C_NC
 r_NC:XMk K a.C_NC
 x_NB:XCls K a.C_NB
 r_NB:XMk K a.C_NB
 x_NL:XCls K a.C_NL
 r_NL:XMk K a.C_NL
 x_NP:XCls K a.C_NP
 r_NP:XMk K a.C_NP
 z_isinstance:mg "isinstance"=none
 z_int:mg "int"=none
 z_bool:mg "bool"=none
 z_list:mg "list"=none
 z_all:mg "all"=none
 z_len:mg "len"=none
 z_min:mg "min"=none
 z_max:mg "max"=none
 z_str:mg "str"=none
 z_tuple:mg "tuple"=none
 z_zip:mg "zip"=none
 z_sum:mg "sum"=none
 z_range:mg "range"=none
 c_LEAST:mg "LEAST"=some (.int 32768 a.t_LEAST)
 c_ONE:mg "ONE"=some (.int 16777216 a.t_ONE)
 c_MOST_SIGNS:mg "MOST_SIGNS"=some (.int 1000 a.t_MOST_SIGNS)
 c_MOST_BYTES:mg "MOST_BYTES"=some (.int 12000 a.t_MOST_BYTES)
 c_MOST_COUNTED:mg "MOST_COUNTED"=some (.int 255 a.t_MOST_COUNTED)
 c_FARTHEST:mg "FARTHEST"=some (.int 8 a.t_FARTHEST)
 c_MOST_PLACES:mg "MOST_PLACES"=some (.int 4 a.t_MOST_PLACES)
 c_MOST_LOOKS:mg "MOST_LOOKS"=some (.int 6 a.t_MOST_LOOKS)
 c_NO_SIGN:mg "NO_SIGN"=some (.int 256 a.t_NO_SIGN)
 c_FIRST_WEIGHT:mg "FIRST_WEIGHT"=some (.int 1099511627776 a.t_FIRST_WEIGHT)
 c_OWN_PARTS:mg "OWN_PARTS"=some (.int 31 a.t_OWN_PARTS)
 c_MOST_FIGURES:mg "MOST_FIGURES"=some (.int 48 a.t_MOST_FIGURES)
 c_NODES_END:mg "NODES_END"=some (.int 256 a.t_NODES_END)
 c_FIRST_WIDTH:mg "FIRST_WIDTH"=some (.int 1099511627776 a.t_FIRST_WIDTH)
 c_FIRST_SIZE:mg "FIRST_SIZE"=some (.int 5 a.t_FIRST_SIZE)
 c_LEAST_WIDTH:mg "LEAST_WIDTH"=some (.int 4294967296 a.t_LEAST_WIDTH)
 c_FIGURES:mg "FIGURES"=some (.int 24 a.t_FIGURES)
 m_WORTHS:mg "WORTHS"=some (.ref a.W_WORTHS)
 w_WORTHS:∀ H,SqT K H a.W_WORTHS [V.int 128,V.int 64,V.int 32,V.int 16,V.int 8,V.int 4,V.int 2,V.int 1]
 m_KINDS:mg "KINDS"=some (.ref a.W_KINDS)
 w_KINDS:∀ H,SqT K H a.W_KINDS [V.str "even",V.str "quick",V.str "run"]
section
variable {P:Program} {w:World} {K:W.Frag} {mg:Str->Option Value} {base:Heap} {a:Ads}
def xj (v0 v1:V):List (Str × V):=[("noughts",v0),("ones",v1)]
section
variable {H:Hp} {p dx:Addr} {v0 v1 v:V} {P:V->Prop} {R:Prop} {nx:St->Hp->Prop} {σ:St}
theorem yax (T:Txt K mg a) (hp:H p=some (.ins a.C_Even dx (xj v0 v1))) (h:P v0):∃ a' C dx fs v,V.ref p=.ref a'/\H a'=some (.ins C dx fs)/\Cls K C/\yt K C "noughts"/\fs.lookup ("noughts":Str)=some v/\P v:=⟨p,_,dx,_,_,rfl,hp,T.cl_Even,T.n_Even_noughts,u6,h⟩
theorem ya1 (T:Txt K mg a) (hp:H p=some (.ins a.C_Even dx (xj v0 v1))) (h:vm nx σ (upd H p (.ins a.C_Even dx (xj v v1)))):∃ a' C dx fs,V.ref p=.ref a'/\H a'=some (.ins C dx fs)/\Cls K C/\yt K C "noughts"/\fs.length < 1000/\vm nx σ (upd H a' (.ins C dx (wl "noughts" v fs))):=⟨p,_,dx,xj v0 v1,rfl,hp,T.cl_Even,T.n_Even_noughts,by show 2 < 1000; decide,by rw [show wl "noughts" v (xj v0 v1)=xj v v1 from jy]; exact h⟩
theorem ya2 (T:Txt K mg a) (hp:H p=some (.ins a.C_Even dx [])) (h:vm nx σ (upd H p (.ins a.C_Even dx (([("noughts",v)]:List (Str × V)))))):∃ a' C dx fs,V.ref p=.ref a'/\H a'=some (.ins C dx fs)/\Cls K C/\yt K C "noughts"/\fs.length < 1000/\vm nx σ (upd H a' (.ins C dx (wl "noughts" v fs))):=⟨p,_,dx,[],rfl,hp,T.cl_Even,T.n_Even_noughts,by show 0 < 1000; decide,by rw [show wl "noughts" v []=([("noughts",v)]:List (Str × V)) from xc]; exact h⟩
theorem ydz (T:Txt K mg a) (hp:H p=some (.ins a.C_Even dx (xj v0 v1))) (h:P v1):∃ a' C dx fs v,V.ref p=.ref a'/\H a'=some (.ins C dx fs)/\Cls K C/\yt K C "ones"/\fs.lookup ("ones":Str)=some v/\P v:=⟨p,_,dx,_,_,rfl,hp,T.cl_Even,T.n_Even_ones,(yy (by decide +kernel) u6),h⟩
theorem ydt (T:Txt K mg a) (hp:H p=some (.ins a.C_Even dx (xj v0 v1))) (h:vm nx σ (upd H p (.ins a.C_Even dx (xj v0 v)))):∃ a' C dx fs,V.ref p=.ref a'/\H a'=some (.ins C dx fs)/\Cls K C/\yt K C "ones"/\fs.length < 1000/\vm nx σ (upd H a' (.ins C dx (wl "ones" v fs))):=⟨p,_,dx,xj v0 v1,rfl,hp,T.cl_Even,T.n_Even_ones,by show 2 < 1000; decide,by rw [show wl "ones" v (xj v0 v1)=xj v0 v from (v9 (by decide +kernel) jy)]; exact h⟩
theorem ydw (T:Txt K mg a) (hp:H p=some (.ins a.C_Even dx [("noughts",v0)])) (h:vm nx σ (upd H p (.ins a.C_Even dx (xj v0 v)))):∃ a' C dx fs,V.ref p=.ref a'/\H a'=some (.ins C dx fs)/\Cls K C/\yt K C "ones"/\fs.length < 1000/\vm nx σ (upd H a' (.ins C dx (wl "ones" v fs))):=⟨p,_,dx,[("noughts",v0)],rfl,hp,T.cl_Even,T.n_Even_ones,by show 1 < 1000; decide,by rw [show wl "ones" v [("noughts",v0)]=xj v0 v from (v9 (by decide +kernel) xc)]; exact h⟩
theorem ybp:(xj v0 v1).lookup ("chance":Str)=none:=(yy (by decide +kernel) (yy (by decide +kernel) xi))
theorem yd0:(xj v0 v1).lookup ("seen":Str)=none:=(yy (by decide +kernel) (yy (by decide +kernel) xi))
end
local macro_rules | `(tactic| walk_at "rd1")=>`(tactic| first
 | (with_reducible refine' yax (by assumption) ?rdh ?_; (case rdh=>first | assumption | exact yd))
 | (with_reducible refine' ya1 (by assumption) ?rdh ?_; (case rdh=>first | assumption | exact yd))
 | (with_reducible refine' ya2 (by assumption) ?rdh ?_; (case rdh=>first | assumption | exact yd))
 | (with_reducible refine' ydz (by assumption) ?rdh ?_; (case rdh=>first | assumption | exact yd))
 | (with_reducible refine' ydt (by assumption) ?rdh ?_; (case rdh=>first | assumption | exact yd))
 | (with_reducible refine' ydw (by assumption) ?rdh ?_; (case rdh=>first | assumption | exact yd))
 | (with_reducible refine' mt_Even___init__ ?rdh ?_; (case rdh=>first | assumption | exact yd))
 | (with_reducible refine' mt_Even_chance ?rdh ?_; (case rdh=>first | assumption | exact yd))
 | (with_reducible refine' mt_Even_seen ?rdh ?_; (case rdh=>first | assumption | exact yd))
)
def xp (v0:V):List (Str × V):=[("held",v0)]
section
variable {H:Hp} {p dx:Addr} {v0 v:V} {P:V->Prop} {R:Prop} {nx:St->Hp->Prop} {σ:St}
theorem ycv (T:Txt K mg a) (hp:H p=some (.ins a.C_Quick dx (xp v0))) (h:P v0):∃ a' C dx fs v,V.ref p=.ref a'/\H a'=some (.ins C dx fs)/\Cls K C/\yt K C "held"/\fs.lookup ("held":Str)=some v/\P v:=⟨p,_,dx,_,_,rfl,hp,T.cl_Quick,T.n_Quick_held,u6,h⟩
theorem ych (T:Txt K mg a) (hp:H p=some (.ins a.C_Quick dx (xp v0))) (h:vm nx σ (upd H p (.ins a.C_Quick dx (xp v)))):∃ a' C dx fs,V.ref p=.ref a'/\H a'=some (.ins C dx fs)/\Cls K C/\yt K C "held"/\fs.length < 1000/\vm nx σ (upd H a' (.ins C dx (wl "held" v fs))):=⟨p,_,dx,xp v0,rfl,hp,T.cl_Quick,T.n_Quick_held,by show 1 < 1000; decide,by rw [show wl "held" v (xp v0)=xp v from jy]; exact h⟩
theorem ycs (T:Txt K mg a) (hp:H p=some (.ins a.C_Quick dx [])) (h:vm nx σ (upd H p (.ins a.C_Quick dx (xp v)))):∃ a' C dx fs,V.ref p=.ref a'/\H a'=some (.ins C dx fs)/\Cls K C/\yt K C "held"/\fs.length < 1000/\vm nx σ (upd H a' (.ins C dx (wl "held" v fs))):=⟨p,_,dx,[],rfl,hp,T.cl_Quick,T.n_Quick_held,by show 0 < 1000; decide,by rw [show wl "held" v []=xp v from xc]; exact h⟩
theorem ya3:(xp v0).lookup ("chance":Str)=none:=(yy (by decide +kernel) xi)
theorem yci:(xp v0).lookup ("seen":Str)=none:=(yy (by decide +kernel) xi)
end
local macro_rules | `(tactic| walk_at "rd1")=>`(tactic| first
 | (with_reducible refine' ycv (by assumption) ?rdh ?_; (case rdh=>first | assumption | exact yd))
 | (with_reducible refine' ych (by assumption) ?rdh ?_; (case rdh=>first | assumption | exact yd))
 | (with_reducible refine' ycs (by assumption) ?rdh ?_; (case rdh=>first | assumption | exact yd))
 | (with_reducible refine' mt_Quick___init__ ?rdh ?_; (case rdh=>first | assumption | exact yd))
 | (with_reducible refine' mt_Quick_chance ?rdh ?_; (case rdh=>first | assumption | exact yd))
 | (with_reducible refine' mt_Quick_seen ?rdh ?_; (case rdh=>first | assumption | exact yd))
)
def u7 (v0 v1:V):List (Str × V):=[("last",v0),("length",v1)]
section
variable {H:Hp} {p dx:Addr} {v0 v1 v:V} {P:V->Prop} {R:Prop} {nx:St->Hp->Prop} {σ:St}
theorem yff (T:Txt K mg a) (hp:H p=some (.ins a.C_Run dx (u7 v0 v1))) (h:P v0):∃ a' C dx fs v,V.ref p=.ref a'/\H a'=some (.ins C dx fs)/\Cls K C/\yt K C "last"/\fs.lookup ("last":Str)=some v/\P v:=⟨p,_,dx,_,_,rfl,hp,T.cl_Run,T.n_Run_last,u6,h⟩
theorem yfk (T:Txt K mg a) (hp:H p=some (.ins a.C_Run dx (u7 v0 v1))) (h:vm nx σ (upd H p (.ins a.C_Run dx (u7 v v1)))):∃ a' C dx fs,V.ref p=.ref a'/\H a'=some (.ins C dx fs)/\Cls K C/\yt K C "last"/\fs.length < 1000/\vm nx σ (upd H a' (.ins C dx (wl "last" v fs))):=⟨p,_,dx,u7 v0 v1,rfl,hp,T.cl_Run,T.n_Run_last,by show 2 < 1000; decide,by rw [show wl "last" v (u7 v0 v1)=u7 v v1 from jy]; exact h⟩
theorem yfa (T:Txt K mg a) (hp:H p=some (.ins a.C_Run dx [])) (h:vm nx σ (upd H p (.ins a.C_Run dx (([("last",v)]:List (Str × V)))))):∃ a' C dx fs,V.ref p=.ref a'/\H a'=some (.ins C dx fs)/\Cls K C/\yt K C "last"/\fs.length < 1000/\vm nx σ (upd H a' (.ins C dx (wl "last" v fs))):=⟨p,_,dx,[],rfl,hp,T.cl_Run,T.n_Run_last,by show 0 < 1000; decide,by rw [show wl "last" v []=([("last",v)]:List (Str × V)) from xc]; exact h⟩
theorem ycq (T:Txt K mg a) (hp:H p=some (.ins a.C_Run dx (u7 v0 v1))) (h:P v1):∃ a' C dx fs v,V.ref p=.ref a'/\H a'=some (.ins C dx fs)/\Cls K C/\yt K C "length"/\fs.lookup ("length":Str)=some v/\P v:=⟨p,_,dx,_,_,rfl,hp,T.cl_Run,T.n_Run_length,(yy (by decide +kernel) u6),h⟩
theorem ycy (T:Txt K mg a) (hp:H p=some (.ins a.C_Run dx (u7 v0 v1))) (h:vm nx σ (upd H p (.ins a.C_Run dx (u7 v0 v)))):∃ a' C dx fs,V.ref p=.ref a'/\H a'=some (.ins C dx fs)/\Cls K C/\yt K C "length"/\fs.length < 1000/\vm nx σ (upd H a' (.ins C dx (wl "length" v fs))):=⟨p,_,dx,u7 v0 v1,rfl,hp,T.cl_Run,T.n_Run_length,by show 2 < 1000; decide,by rw [show wl "length" v (u7 v0 v1)=u7 v0 v from (v9 (by decide +kernel) jy)]; exact h⟩
theorem ycl (T:Txt K mg a) (hp:H p=some (.ins a.C_Run dx [("last",v0)])) (h:vm nx σ (upd H p (.ins a.C_Run dx (u7 v0 v)))):∃ a' C dx fs,V.ref p=.ref a'/\H a'=some (.ins C dx fs)/\Cls K C/\yt K C "length"/\fs.length < 1000/\vm nx σ (upd H a' (.ins C dx (wl "length" v fs))):=⟨p,_,dx,[("last",v0)],rfl,hp,T.cl_Run,T.n_Run_length,by show 1 < 1000; decide,by rw [show wl "length" v [("last",v0)]=u7 v0 v from (v9 (by decide +kernel) xc)]; exact h⟩
theorem ycw:(u7 v0 v1).lookup ("chance":Str)=none:=(yy (by decide +kernel) (yy (by decide +kernel) xi))
theorem ye4:(u7 v0 v1).lookup ("seen":Str)=none:=(yy (by decide +kernel) (yy (by decide +kernel) xi))
end
local macro_rules | `(tactic| walk_at "rd1")=>`(tactic| first
 | (with_reducible refine' yff (by assumption) ?rdh ?_; (case rdh=>first | assumption | exact yd))
 | (with_reducible refine' yfk (by assumption) ?rdh ?_; (case rdh=>first | assumption | exact yd))
 | (with_reducible refine' yfa (by assumption) ?rdh ?_; (case rdh=>first | assumption | exact yd))
 | (with_reducible refine' ycq (by assumption) ?rdh ?_; (case rdh=>first | assumption | exact yd))
 | (with_reducible refine' ycy (by assumption) ?rdh ?_; (case rdh=>first | assumption | exact yd))
 | (with_reducible refine' ycl (by assumption) ?rdh ?_; (case rdh=>first | assumption | exact yd))
 | (with_reducible refine' mt_Run___init__ ?rdh ?_; (case rdh=>first | assumption | exact yd))
 | (with_reducible refine' mt_Run_chance ?rdh ?_; (case rdh=>first | assumption | exact yd))
 | (with_reducible refine' mt_Run_seen ?rdh ?_; (case rdh=>first | assumption | exact yd))
)
def yiu (v0:V):List (Str × V):=[("kept",v0)]
section
variable {H:Hp} {p dx:Addr} {v0 v:V} {P:V->Prop} {R:Prop} {nx:St->Hp->Prop} {σ:St}
theorem yib (T:Txt K mg a) (hp:H p=some (.ins a.C_Mx dx (yiu v0))) (h:P v0):∃ a' C dx fs v,V.ref p=.ref a'/\H a'=some (.ins C dx fs)/\Cls K C/\yt K C "kept"/\fs.lookup ("kept":Str)=some v/\P v:=⟨p,_,dx,_,_,rfl,hp,T.cl_Mx,T.n_Mx_kept,u6,h⟩
theorem yh1 (T:Txt K mg a) (hp:H p=some (.ins a.C_Mx dx (yiu v0))) (h:vm nx σ (upd H p (.ins a.C_Mx dx (yiu v)))):∃ a' C dx fs,V.ref p=.ref a'/\H a'=some (.ins C dx fs)/\Cls K C/\yt K C "kept"/\fs.length < 1000/\vm nx σ (upd H a' (.ins C dx (wl "kept" v fs))):=⟨p,_,dx,yiu v0,rfl,hp,T.cl_Mx,T.n_Mx_kept,by show 1 < 1000; decide,by rw [show wl "kept" v (yiu v0)=yiu v from jy]; exact h⟩
theorem yhq (T:Txt K mg a) (hp:H p=some (.ins a.C_Mx dx [])) (h:vm nx σ (upd H p (.ins a.C_Mx dx (yiu v)))):∃ a' C dx fs,V.ref p=.ref a'/\H a'=some (.ins C dx fs)/\Cls K C/\yt K C "kept"/\fs.length < 1000/\vm nx σ (upd H a' (.ins C dx (wl "kept" v fs))):=⟨p,_,dx,[],rfl,hp,T.cl_Mx,T.n_Mx_kept,by show 0 < 1000; decide,by rw [show wl "kept" v []=yiu v from xc]; exact h⟩
theorem ye6:(yiu v0).lookup ("mixed":Str)=none:=(yy (by decide +kernel) xi)
theorem yfb {C:Addr} (hp:H p=some (.ins C dx (yiu v0))) (h:R):∃ a dx fs,V.ref p=.ref a/\H a=some (.ins C dx fs)/\fs.lookup ("mixed":Str)=none/\R:=⟨p,dx,_,rfl,hp,ye6,h⟩
theorem yfn:(yiu v0).lookup ("learn":Str)=none:=(yy (by decide +kernel) xi)
theorem yfp {C:Addr} (hp:H p=some (.ins C dx (yiu v0))) (h:R):∃ a dx fs,V.ref p=.ref a/\H a=some (.ins C dx fs)/\fs.lookup ("learn":Str)=none/\R:=⟨p,dx,_,rfl,hp,yfn,h⟩
end
local macro_rules | `(tactic| walk_at "rd1")=>`(tactic| first
 | (with_reducible refine' yib (by assumption) ?rdh ?_; (case rdh=>first | assumption | exact yd))
 | (with_reducible refine' yh1 (by assumption) ?rdh ?_; (case rdh=>first | assumption | exact yd))
 | (with_reducible refine' yhq (by assumption) ?rdh ?_; (case rdh=>first | assumption | exact yd))
 | (with_reducible refine' mt_Mx___init__ ?rdh ?_; (case rdh=>first | assumption | exact yd))
 | (with_reducible refine' yfb ?rdh ?_; (case rdh=>first | assumption | exact yd))
 | (with_reducible refine' yfp ?rdh ?_; (case rdh=>first | assumption | exact yd))
)
def ybl (v0 v1:V):List (Str × V):=[("look",v0),("slots",v1)]
section
variable {H:Hp} {p dx:Addr} {v0 v1 v:V} {P:V->Prop} {R:Prop} {nx:St->Hp->Prop} {σ:St}
theorem ydv (T:Txt K mg a) (hp:H p=some (.ins a.C_Book dx (ybl v0 v1))) (h:P v0):∃ a' C dx fs v,V.ref p=.ref a'/\H a'=some (.ins C dx fs)/\Cls K C/\yt K C "look"/\fs.lookup ("look":Str)=some v/\P v:=⟨p,_,dx,_,_,rfl,hp,T.cl_Book,T.n_Book_look,u6,h⟩
theorem yds (T:Txt K mg a) (hp:H p=some (.ins a.C_Book dx [])) (h:vm nx σ (upd H p (.ins a.C_Book dx (([("look",v)]:List (Str × V)))))):∃ a' C dx fs,V.ref p=.ref a'/\H a'=some (.ins C dx fs)/\Cls K C/\yt K C "look"/\fs.length < 1000/\vm nx σ (upd H a' (.ins C dx (wl "look" v fs))):=⟨p,_,dx,[],rfl,hp,T.cl_Book,T.n_Book_look,by show 0 < 1000; decide,by rw [show wl "look" v []=([("look",v)]:List (Str × V)) from xc]; exact h⟩
theorem yco (T:Txt K mg a) (hp:H p=some (.ins a.C_Book dx (ybl v0 v1))) (h:P v1):∃ a' C dx fs v,V.ref p=.ref a'/\H a'=some (.ins C dx fs)/\Cls K C/\yt K C "slots"/\fs.lookup ("slots":Str)=some v/\P v:=⟨p,_,dx,_,_,rfl,hp,T.cl_Book,T.n_Book_slots,(yy (by decide +kernel) u6),h⟩
theorem ycd (T:Txt K mg a) (hp:H p=some (.ins a.C_Book dx [("look",v0)])) (h:vm nx σ (upd H p (.ins a.C_Book dx (ybl v0 v)))):∃ a' C dx fs,V.ref p=.ref a'/\H a'=some (.ins C dx fs)/\Cls K C/\yt K C "slots"/\fs.length < 1000/\vm nx σ (upd H a' (.ins C dx (wl "slots" v fs))):=⟨p,_,dx,[("look",v0)],rfl,hp,T.cl_Book,T.n_Book_slots,by show 1 < 1000; decide,by rw [show wl "slots" v [("look",v0)]=ybl v0 v from (v9 (by decide +kernel) xc)]; exact h⟩
theorem ya0:(ybl v0 v1).lookup ("slot_at":Str)=none:=(yy (by decide +kernel) (yy (by decide +kernel) xi))
theorem yaw {C:Addr} (hp:H p=some (.ins C dx (ybl v0 v1))) (h:R):∃ a dx fs,V.ref p=.ref a/\H a=some (.ins C dx fs)/\fs.lookup ("slot_at":Str)=none/\R:=⟨p,dx,_,rfl,hp,ya0,h⟩
end
local macro_rules | `(tactic| walk_at "rd1")=>`(tactic| first
 | (with_reducible refine' ydv (by assumption) ?rdh ?_; (case rdh=>first | assumption | exact yd))
 | (with_reducible refine' st_Book_look (by assumption) ?rdh ?_; (case rdh=>first | assumption | exact yd))
 | (with_reducible refine' yds (by assumption) ?rdh ?_; (case rdh=>first | assumption | exact yd))
 | (with_reducible refine' yco (by assumption) ?rdh ?_; (case rdh=>first | assumption | exact yd))
 | (with_reducible refine' st_Book_slots (by assumption) ?rdh ?_; (case rdh=>first | assumption | exact yd))
 | (with_reducible refine' ycd (by assumption) ?rdh ?_; (case rdh=>first | assumption | exact yd))
 | (with_reducible refine' mt_Book___init__ ?rdh ?_; (case rdh=>first | assumption | exact yd))
 | (with_reducible refine' yaw ?rdh ?_; (case rdh=>first | assumption | exact yd))
)
def x5 (v0 v1 v2 v3 v4 v5:V):List (Str × V):=[("looks",v0),("books",v1),("mixer",v2),("ended",v3),("place",v4),("present",v5)]
section
variable {H:Hp} {p dx:Addr} {v0 v1 v2 v3 v4 v5 v:V} {P:V->Prop} {R:Prop} {nx:St->Hp->Prop} {σ:St}
theorem yfc (T:Txt K mg a) (hp:H p=some (.ins a.C_Ft dx [])) (h:vm nx σ (upd H p (.ins a.C_Ft dx (([("looks",v)]:List (Str × V)))))):∃ a' C dx fs,V.ref p=.ref a'/\H a'=some (.ins C dx fs)/\Cls K C/\yt K C "looks"/\fs.length < 1000/\vm nx σ (upd H a' (.ins C dx (wl "looks" v fs))):=⟨p,_,dx,[],rfl,hp,T.cl_Ft,T.n_Ft_looks,by show 0 < 1000; decide,by rw [show wl "looks" v []=([("looks",v)]:List (Str × V)) from xc]; exact h⟩
theorem yfm (T:Txt K mg a) (hp:H p=some (.ins a.C_Ft dx (x5 v0 v1 v2 v3 v4 v5))) (h:P v1):∃ a' C dx fs v,V.ref p=.ref a'/\H a'=some (.ins C dx fs)/\Cls K C/\yt K C "books"/\fs.lookup ("books":Str)=some v/\P v:=⟨p,_,dx,_,_,rfl,hp,T.cl_Ft,T.n_Ft_books,(yy (by decide +kernel) u6),h⟩
theorem ye9 (T:Txt K mg a) (hp:H p=some (.ins a.C_Ft dx [("looks",v0)])) (h:vm nx σ (upd H p (.ins a.C_Ft dx (([("looks",v0),("books",v)]:List (Str × V)))))):∃ a' C dx fs,V.ref p=.ref a'/\H a'=some (.ins C dx fs)/\Cls K C/\yt K C "books"/\fs.length < 1000/\vm nx σ (upd H a' (.ins C dx (wl "books" v fs))):=⟨p,_,dx,[("looks",v0)],rfl,hp,T.cl_Ft,T.n_Ft_books,by show 1 < 1000; decide,by rw [show wl "books" v [("looks",v0)]=([("looks",v0),("books",v)]:List (Str × V)) from (v9 (by decide +kernel) xc)]; exact h⟩
theorem yfd (T:Txt K mg a) (hp:H p=some (.ins a.C_Ft dx (x5 v0 v1 v2 v3 v4 v5))) (h:P v2):∃ a' C dx fs v,V.ref p=.ref a'/\H a'=some (.ins C dx fs)/\Cls K C/\yt K C "mixer"/\fs.lookup ("mixer":Str)=some v/\P v:=⟨p,_,dx,_,_,rfl,hp,T.cl_Ft,T.n_Ft_mixer,(yy (by decide +kernel) (yy (by decide +kernel) u6)),h⟩
theorem ye1 (T:Txt K mg a) (hp:H p=some (.ins a.C_Ft dx [("looks",v0),("books",v1)])) (h:vm nx σ (upd H p (.ins a.C_Ft dx (([("looks",v0),("books",v1),("mixer",v)]:List (Str × V)))))):∃ a' C dx fs,V.ref p=.ref a'/\H a'=some (.ins C dx fs)/\Cls K C/\yt K C "mixer"/\fs.length < 1000/\vm nx σ (upd H a' (.ins C dx (wl "mixer" v fs))):=⟨p,_,dx,[("looks",v0),("books",v1)],rfl,hp,T.cl_Ft,T.n_Ft_mixer,by show 2 < 1000; decide,by rw [show wl "mixer" v [("looks",v0),("books",v1)]=([("looks",v0),("books",v1),("mixer",v)]:List (Str × V)) from (v9 (by decide +kernel) (v9 (by decide +kernel) xc))]; exact h⟩
theorem yfg (T:Txt K mg a) (hp:H p=some (.ins a.C_Ft dx (x5 v0 v1 v2 v3 v4 v5))) (h:P v3):∃ a' C dx fs v,V.ref p=.ref a'/\H a'=some (.ins C dx fs)/\Cls K C/\yt K C "ended"/\fs.lookup ("ended":Str)=some v/\P v:=⟨p,_,dx,_,_,rfl,hp,T.cl_Ft,T.n_Ft_ended,(yy (by decide +kernel) (yy (by decide +kernel) (yy (by decide +kernel) u6))),h⟩
theorem yfo (T:Txt K mg a) (hp:H p=some (.ins a.C_Ft dx (x5 v0 v1 v2 v3 v4 v5))) (h:vm nx σ (upd H p (.ins a.C_Ft dx (x5 v0 v1 v2 v v4 v5)))):∃ a' C dx fs,V.ref p=.ref a'/\H a'=some (.ins C dx fs)/\Cls K C/\yt K C "ended"/\fs.length < 1000/\vm nx σ (upd H a' (.ins C dx (wl "ended" v fs))):=⟨p,_,dx,x5 v0 v1 v2 v3 v4 v5,rfl,hp,T.cl_Ft,T.n_Ft_ended,by show 6 < 1000; decide,by rw [show wl "ended" v (x5 v0 v1 v2 v3 v4 v5)=x5 v0 v1 v2 v v4 v5 from (v9 (by decide +kernel) (v9 (by decide +kernel) (v9 (by decide +kernel) jy)))]; exact h⟩
theorem ye2 (T:Txt K mg a) (hp:H p=some (.ins a.C_Ft dx [("looks",v0),("books",v1),("mixer",v2)])) (h:vm nx σ (upd H p (.ins a.C_Ft dx (([("looks",v0),("books",v1),("mixer",v2),("ended",v)]:List (Str × V)))))):∃ a' C dx fs,V.ref p=.ref a'/\H a'=some (.ins C dx fs)/\Cls K C/\yt K C "ended"/\fs.length < 1000/\vm nx σ (upd H a' (.ins C dx (wl "ended" v fs))):=⟨p,_,dx,[("looks",v0),("books",v1),("mixer",v2)],rfl,hp,T.cl_Ft,T.n_Ft_ended,by show 3 < 1000; decide,by rw [show wl "ended" v [("looks",v0),("books",v1),("mixer",v2)]=([("looks",v0),("books",v1),("mixer",v2),("ended",v)]:List (Str × V)) from (v9 (by decide +kernel) (v9 (by decide +kernel) (v9 (by decide +kernel) xc)))]; exact h⟩
theorem ye5 (T:Txt K mg a) (hp:H p=some (.ins a.C_Ft dx (x5 v0 v1 v2 v3 v4 v5))) (h:P v4):∃ a' C dx fs v,V.ref p=.ref a'/\H a'=some (.ins C dx fs)/\Cls K C/\yt K C "place"/\fs.lookup ("place":Str)=some v/\P v:=⟨p,_,dx,_,_,rfl,hp,T.cl_Ft,T.n_Ft_place,(yy (by decide +kernel) (yy (by decide +kernel) (yy (by decide +kernel) (yy (by decide +kernel) u6)))),h⟩
theorem ye3 (T:Txt K mg a) (hp:H p=some (.ins a.C_Ft dx (x5 v0 v1 v2 v3 v4 v5))) (h:vm nx σ (upd H p (.ins a.C_Ft dx (x5 v0 v1 v2 v3 v v5)))):∃ a' C dx fs,V.ref p=.ref a'/\H a'=some (.ins C dx fs)/\Cls K C/\yt K C "place"/\fs.length < 1000/\vm nx σ (upd H a' (.ins C dx (wl "place" v fs))):=⟨p,_,dx,x5 v0 v1 v2 v3 v4 v5,rfl,hp,T.cl_Ft,T.n_Ft_place,by show 6 < 1000; decide,by rw [show wl "place" v (x5 v0 v1 v2 v3 v4 v5)=x5 v0 v1 v2 v3 v v5 from (v9 (by decide +kernel) (v9 (by decide +kernel) (v9 (by decide +kernel) (v9 (by decide +kernel) jy))))]; exact h⟩
theorem yez (T:Txt K mg a) (hp:H p=some (.ins a.C_Ft dx [("looks",v0),("books",v1),("mixer",v2),("ended",v3)])) (h:vm nx σ (upd H p (.ins a.C_Ft dx (([("looks",v0),("books",v1),("mixer",v2),("ended",v3),("place",v)]:List (Str × V)))))):∃ a' C dx fs,V.ref p=.ref a'/\H a'=some (.ins C dx fs)/\Cls K C/\yt K C "place"/\fs.length < 1000/\vm nx σ (upd H a' (.ins C dx (wl "place" v fs))):=⟨p,_,dx,[("looks",v0),("books",v1),("mixer",v2),("ended",v3)],rfl,hp,T.cl_Ft,T.n_Ft_place,by show 4 < 1000; decide,by rw [show wl "place" v [("looks",v0),("books",v1),("mixer",v2),("ended",v3)]=([("looks",v0),("books",v1),("mixer",v2),("ended",v3),("place",v)]:List (Str × V)) from (v9 (by decide +kernel) (v9 (by decide +kernel) (v9 (by decide +kernel) (v9 (by decide +kernel) xc))))]; exact h⟩
theorem ycf (T:Txt K mg a) (hp:H p=some (.ins a.C_Ft dx (x5 v0 v1 v2 v3 v4 v5))) (h:P v5):∃ a' C dx fs v,V.ref p=.ref a'/\H a'=some (.ins C dx fs)/\Cls K C/\yt K C "present"/\fs.lookup ("present":Str)=some v/\P v:=⟨p,_,dx,_,_,rfl,hp,T.cl_Ft,T.n_Ft_present,(yy (by decide +kernel) (yy (by decide +kernel) (yy (by decide +kernel) (yy (by decide +kernel) (yy (by decide +kernel) u6))))),h⟩
theorem ycm (T:Txt K mg a) (hp:H p=some (.ins a.C_Ft dx (x5 v0 v1 v2 v3 v4 v5))) (h:vm nx σ (upd H p (.ins a.C_Ft dx (x5 v0 v1 v2 v3 v4 v)))):∃ a' C dx fs,V.ref p=.ref a'/\H a'=some (.ins C dx fs)/\Cls K C/\yt K C "present"/\fs.length < 1000/\vm nx σ (upd H a' (.ins C dx (wl "present" v fs))):=⟨p,_,dx,x5 v0 v1 v2 v3 v4 v5,rfl,hp,T.cl_Ft,T.n_Ft_present,by show 6 < 1000; decide,by rw [show wl "present" v (x5 v0 v1 v2 v3 v4 v5)=x5 v0 v1 v2 v3 v4 v from (v9 (by decide +kernel) (v9 (by decide +kernel) (v9 (by decide +kernel) (v9 (by decide +kernel) (v9 (by decide +kernel) jy)))))]; exact h⟩
theorem yct (T:Txt K mg a) (hp:H p=some (.ins a.C_Ft dx [("looks",v0),("books",v1),("mixer",v2),("ended",v3),("place",v4)])) (h:vm nx σ (upd H p (.ins a.C_Ft dx (x5 v0 v1 v2 v3 v4 v)))):∃ a' C dx fs,V.ref p=.ref a'/\H a'=some (.ins C dx fs)/\Cls K C/\yt K C "present"/\fs.length < 1000/\vm nx σ (upd H a' (.ins C dx (wl "present" v fs))):=⟨p,_,dx,[("looks",v0),("books",v1),("mixer",v2),("ended",v3),("place",v4)],rfl,hp,T.cl_Ft,T.n_Ft_present,by show 5 < 1000; decide,by rw [show wl "present" v [("looks",v0),("books",v1),("mixer",v2),("ended",v3),("place",v4)]=x5 v0 v1 v2 v3 v4 v from (v9 (by decide +kernel) (v9 (by decide +kernel) (v9 (by decide +kernel) (v9 (by decide +kernel) (v9 (by decide +kernel) xc)))))]; exact h⟩
theorem ydx:(x5 v0 v1 v2 v3 v4 v5).lookup ("arrive":Str)=none:=(yy (by decide +kernel) (yy (by decide +kernel) (yy (by decide +kernel) (yy (by decide +kernel) (yy (by decide +kernel) (yy (by decide +kernel) xi))))))
theorem ydq {C:Addr} (hp:H p=some (.ins C dx (x5 v0 v1 v2 v3 v4 v5))) (h:R):∃ a dx fs,V.ref p=.ref a/\H a=some (.ins C dx fs)/\fs.lookup ("arrive":Str)=none/\R:=⟨p,dx,_,rfl,hp,ydx,h⟩
theorem ycn:(x5 v0 v1 v2 v3 v4 v5).lookup ("chances":Str)=none:=(yy (by decide +kernel) (yy (by decide +kernel) (yy (by decide +kernel) (yy (by decide +kernel) (yy (by decide +kernel) (yy (by decide +kernel) xi))))))
theorem yck {C:Addr} (hp:H p=some (.ins C dx (x5 v0 v1 v2 v3 v4 v5))) (h:R):∃ a dx fs,V.ref p=.ref a/\H a=some (.ins C dx fs)/\fs.lookup ("chances":Str)=none/\R:=⟨p,dx,_,rfl,hp,ycn,h⟩
theorem yd1:(x5 v0 v1 v2 v3 v4 v5).lookup ("chance":Str)=none:=(yy (by decide +kernel) (yy (by decide +kernel) (yy (by decide +kernel) (yy (by decide +kernel) (yy (by decide +kernel) (yy (by decide +kernel) xi))))))
theorem ydy {C:Addr} (hp:H p=some (.ins C dx (x5 v0 v1 v2 v3 v4 v5))) (h:R):∃ a dx fs,V.ref p=.ref a/\H a=some (.ins C dx fs)/\fs.lookup ("chance":Str)=none/\R:=⟨p,dx,_,rfl,hp,yd1,h⟩
theorem yi1:(x5 v0 v1 v2 v3 v4 v5).lookup ("see":Str)=none:=(yy (by decide +kernel) (yy (by decide +kernel) (yy (by decide +kernel) (yy (by decide +kernel) (yy (by decide +kernel) (yy (by decide +kernel) xi))))))
theorem ykg {C:Addr} (hp:H p=some (.ins C dx (x5 v0 v1 v2 v3 v4 v5))) (h:R):∃ a dx fs,V.ref p=.ref a/\H a=some (.ins C dx fs)/\fs.lookup ("see":Str)=none/\R:=⟨p,dx,_,rfl,hp,yi1,h⟩
theorem yhu:(x5 v0 v1 v2 v3 v4 v5).lookup ("step":Str)=none:=(yy (by decide +kernel) (yy (by decide +kernel) (yy (by decide +kernel) (yy (by decide +kernel) (yy (by decide +kernel) (yy (by decide +kernel) xi))))))
theorem yhr {C:Addr} (hp:H p=some (.ins C dx (x5 v0 v1 v2 v3 v4 v5))) (h:R):∃ a dx fs,V.ref p=.ref a/\H a=some (.ins C dx fs)/\fs.lookup ("step":Str)=none/\R:=⟨p,dx,_,rfl,hp,yhu,h⟩
theorem ji:(x5 v0 v1 v2 v3 v4 v5).lookup ("step_in_sign":Str)=none:=(yy (by decide +kernel) (yy (by decide +kernel) (yy (by decide +kernel) (yy (by decide +kernel) (yy (by decide +kernel) (yy (by decide +kernel) xi))))))
theorem jh {C:Addr} (hp:H p=some (.ins C dx (x5 v0 v1 v2 v3 v4 v5))) (h:R):∃ a dx fs,V.ref p=.ref a/\H a=some (.ins C dx fs)/\fs.lookup ("step_in_sign":Str)=none/\R:=⟨p,dx,_,rfl,hp,ji,h⟩
end
local macro_rules | `(tactic| walk_at "rd1")=>`(tactic| first
 | (with_reducible refine' rd_Ft_looks (by assumption) ?rdh ?_; (case rdh=>first | assumption | exact yd))
 | (with_reducible refine' st_Ft_looks (by assumption) ?rdh ?_; (case rdh=>first | assumption | exact yd))
 | (with_reducible refine' yfc (by assumption) ?rdh ?_; (case rdh=>first | assumption | exact yd))
 | (with_reducible refine' yfm (by assumption) ?rdh ?_; (case rdh=>first | assumption | exact yd))
 | (with_reducible refine' st_Ft_books (by assumption) ?rdh ?_; (case rdh=>first | assumption | exact yd))
 | (with_reducible refine' ye9 (by assumption) ?rdh ?_; (case rdh=>first | assumption | exact yd))
 | (with_reducible refine' yfd (by assumption) ?rdh ?_; (case rdh=>first | assumption | exact yd))
 | (with_reducible refine' st_Ft_mixer (by assumption) ?rdh ?_; (case rdh=>first | assumption | exact yd))
 | (with_reducible refine' ye1 (by assumption) ?rdh ?_; (case rdh=>first | assumption | exact yd))
 | (with_reducible refine' yfg (by assumption) ?rdh ?_; (case rdh=>first | assumption | exact yd))
 | (with_reducible refine' yfo (by assumption) ?rdh ?_; (case rdh=>first | assumption | exact yd))
 | (with_reducible refine' ye2 (by assumption) ?rdh ?_; (case rdh=>first | assumption | exact yd))
 | (with_reducible refine' ye5 (by assumption) ?rdh ?_; (case rdh=>first | assumption | exact yd))
 | (with_reducible refine' ye3 (by assumption) ?rdh ?_; (case rdh=>first | assumption | exact yd))
 | (with_reducible refine' yez (by assumption) ?rdh ?_; (case rdh=>first | assumption | exact yd))
 | (with_reducible refine' ycf (by assumption) ?rdh ?_; (case rdh=>first | assumption | exact yd))
 | (with_reducible refine' ycm (by assumption) ?rdh ?_; (case rdh=>first | assumption | exact yd))
 | (with_reducible refine' yct (by assumption) ?rdh ?_; (case rdh=>first | assumption | exact yd))
 | (with_reducible refine' mt_Ft___init__ ?rdh ?_; (case rdh=>first | assumption | exact yd))
 | (with_reducible refine' ydq ?rdh ?_; (case rdh=>first | assumption | exact yd))
 | (with_reducible refine' yck ?rdh ?_; (case rdh=>first | assumption | exact yd))
 | (with_reducible refine' ydy ?rdh ?_; (case rdh=>first | assumption | exact yd))
 | (with_reducible refine' ykg ?rdh ?_; (case rdh=>first | assumption | exact yd))
 | (with_reducible refine' yhr ?rdh ?_; (case rdh=>first | assumption | exact yd))
 | (with_reducible refine' jh ?rdh ?_; (case rdh=>first | assumption | exact yd))
)
def jf (v0 v1 v2 v3:V):List (Str × V):=[("data",v0),("span",v1),("number",v2),("reached",v3)]
section
variable {H:Hp} {p dx:Addr} {v0 v1 v2 v3 v:V} {P:V->Prop} {R:Prop} {nx:St->Hp->Prop} {σ:St}
theorem yim (T:Txt K mg a) (hp:H p=some (.ins a.C_Sk dx (jf v0 v1 v2 v3))) (h:P v0):∃ a' C dx fs v,V.ref p=.ref a'/\H a'=some (.ins C dx fs)/\Cls K C/\yt K C "data"/\fs.lookup ("data":Str)=some v/\P v:=⟨p,_,dx,_,_,rfl,hp,T.cl_Sk,T.n_Sk_data,u6,h⟩
theorem yia (T:Txt K mg a) (hp:H p=some (.ins a.C_Sk dx [])) (h:vm nx σ (upd H p (.ins a.C_Sk dx (([("data",v)]:List (Str × V)))))):∃ a' C dx fs,V.ref p=.ref a'/\H a'=some (.ins C dx fs)/\Cls K C/\yt K C "data"/\fs.length < 1000/\vm nx σ (upd H a' (.ins C dx (wl "data" v fs))):=⟨p,_,dx,[],rfl,hp,T.cl_Sk,T.n_Sk_data,by show 0 < 1000; decide,by rw [show wl "data" v []=([("data",v)]:List (Str × V)) from xc]; exact h⟩
theorem yho (T:Txt K mg a) (hp:H p=some (.ins a.C_Sk dx (jf v0 v1 v2 v3))) (h:P v1):∃ a' C dx fs v,V.ref p=.ref a'/\H a'=some (.ins C dx fs)/\Cls K C/\yt K C "span"/\fs.lookup ("span":Str)=some v/\P v:=⟨p,_,dx,_,_,rfl,hp,T.cl_Sk,T.n_Sk_span,(yy (by decide +kernel) u6),h⟩
theorem yhv (T:Txt K mg a) (hp:H p=some (.ins a.C_Sk dx [("data",v0)])) (h:vm nx σ (upd H p (.ins a.C_Sk dx (([("data",v0),("span",v)]:List (Str × V)))))):∃ a' C dx fs,V.ref p=.ref a'/\H a'=some (.ins C dx fs)/\Cls K C/\yt K C "span"/\fs.length < 1000/\vm nx σ (upd H a' (.ins C dx (wl "span" v fs))):=⟨p,_,dx,[("data",v0)],rfl,hp,T.cl_Sk,T.n_Sk_span,by show 1 < 1000; decide,by rw [show wl "span" v [("data",v0)]=([("data",v0),("span",v)]:List (Str × V)) from (v9 (by decide +kernel) xc)]; exact h⟩
theorem ydo (T:Txt K mg a) (hp:H p=some (.ins a.C_Sk dx (jf v0 v1 v2 v3))) (h:P v2):∃ a' C dx fs v,V.ref p=.ref a'/\H a'=some (.ins C dx fs)/\Cls K C/\yt K C "number"/\fs.lookup ("number":Str)=some v/\P v:=⟨p,_,dx,_,_,rfl,hp,T.cl_Sk,T.n_Sk_number,(yy (by decide +kernel) (yy (by decide +kernel) u6)),h⟩
theorem ydu (T:Txt K mg a) (hp:H p=some (.ins a.C_Sk dx (jf v0 v1 v2 v3))) (h:vm nx σ (upd H p (.ins a.C_Sk dx (jf v0 v1 v v3)))):∃ a' C dx fs,V.ref p=.ref a'/\H a'=some (.ins C dx fs)/\Cls K C/\yt K C "number"/\fs.length < 1000/\vm nx σ (upd H a' (.ins C dx (wl "number" v fs))):=⟨p,_,dx,jf v0 v1 v2 v3,rfl,hp,T.cl_Sk,T.n_Sk_number,by show 4 < 1000; decide,by rw [show wl "number" v (jf v0 v1 v2 v3)=jf v0 v1 v v3 from (v9 (by decide +kernel) (v9 (by decide +kernel) jy))]; exact h⟩
theorem ydp (T:Txt K mg a) (hp:H p=some (.ins a.C_Sk dx [("data",v0),("span",v1)])) (h:vm nx σ (upd H p (.ins a.C_Sk dx (([("data",v0),("span",v1),("number",v)]:List (Str × V)))))):∃ a' C dx fs,V.ref p=.ref a'/\H a'=some (.ins C dx fs)/\Cls K C/\yt K C "number"/\fs.length < 1000/\vm nx σ (upd H a' (.ins C dx (wl "number" v fs))):=⟨p,_,dx,[("data",v0),("span",v1)],rfl,hp,T.cl_Sk,T.n_Sk_number,by show 2 < 1000; decide,by rw [show wl "number" v [("data",v0),("span",v1)]=([("data",v0),("span",v1),("number",v)]:List (Str × V)) from (v9 (by decide +kernel) (v9 (by decide +kernel) xc))]; exact h⟩
theorem ycr (T:Txt K mg a) (hp:H p=some (.ins a.C_Sk dx (jf v0 v1 v2 v3))) (h:P v3):∃ a' C dx fs v,V.ref p=.ref a'/\H a'=some (.ins C dx fs)/\Cls K C/\yt K C "reached"/\fs.lookup ("reached":Str)=some v/\P v:=⟨p,_,dx,_,_,rfl,hp,T.cl_Sk,T.n_Sk_reached,(yy (by decide +kernel) (yy (by decide +kernel) (yy (by decide +kernel) u6))),h⟩
theorem yce (T:Txt K mg a) (hp:H p=some (.ins a.C_Sk dx (jf v0 v1 v2 v3))) (h:vm nx σ (upd H p (.ins a.C_Sk dx (jf v0 v1 v2 v)))):∃ a' C dx fs,V.ref p=.ref a'/\H a'=some (.ins C dx fs)/\Cls K C/\yt K C "reached"/\fs.length < 1000/\vm nx σ (upd H a' (.ins C dx (wl "reached" v fs))):=⟨p,_,dx,jf v0 v1 v2 v3,rfl,hp,T.cl_Sk,T.n_Sk_reached,by show 4 < 1000; decide,by rw [show wl "reached" v (jf v0 v1 v2 v3)=jf v0 v1 v2 v from (v9 (by decide +kernel) (v9 (by decide +kernel) (v9 (by decide +kernel) jy)))]; exact h⟩
theorem ycu (T:Txt K mg a) (hp:H p=some (.ins a.C_Sk dx [("data",v0),("span",v1),("number",v2)])) (h:vm nx σ (upd H p (.ins a.C_Sk dx (jf v0 v1 v2 v)))):∃ a' C dx fs,V.ref p=.ref a'/\H a'=some (.ins C dx fs)/\Cls K C/\yt K C "reached"/\fs.length < 1000/\vm nx σ (upd H a' (.ins C dx (wl "reached" v fs))):=⟨p,_,dx,[("data",v0),("span",v1),("number",v2)],rfl,hp,T.cl_Sk,T.n_Sk_reached,by show 3 < 1000; decide,by rw [show wl "reached" v [("data",v0),("span",v1),("number",v2)]=jf v0 v1 v2 v from (v9 (by decide +kernel) (v9 (by decide +kernel) (v9 (by decide +kernel) xc)))]; exact h⟩
theorem ydl:(jf v0 v1 v2 v3).lookup ("follow":Str)=none:=(yy (by decide +kernel) (yy (by decide +kernel) (yy (by decide +kernel) (yy (by decide +kernel) xi))))
theorem ydr {C:Addr} (hp:H p=some (.ins C dx (jf v0 v1 v2 v3))) (h:R):∃ a dx fs,V.ref p=.ref a/\H a=some (.ins C dx fs)/\fs.lookup ("follow":Str)=none/\R:=⟨p,dx,_,rfl,hp,ydl,h⟩
theorem ycj:(jf v0 v1 v2 v3).lookup ("byte_at":Str)=none:=(yy (by decide +kernel) (yy (by decide +kernel) (yy (by decide +kernel) (yy (by decide +kernel) xi))))
theorem ycp {C:Addr} (hp:H p=some (.ins C dx (jf v0 v1 v2 v3))) (h:R):∃ a dx fs,V.ref p=.ref a/\H a=some (.ins C dx fs)/\fs.lookup ("byte_at":Str)=none/\R:=⟨p,dx,_,rfl,hp,ycj,h⟩
theorem yi9:(jf v0 v1 v2 v3).lookup ("bit":Str)=none:=(yy (by decide +kernel) (yy (by decide +kernel) (yy (by decide +kernel) (yy (by decide +kernel) xi))))
theorem yj2 {C:Addr} (hp:H p=some (.ins C dx (jf v0 v1 v2 v3))) (h:R):∃ a dx fs,V.ref p=.ref a/\H a=some (.ins C dx fs)/\fs.lookup ("bit":Str)=none/\R:=⟨p,dx,_,rfl,hp,yi9,h⟩
theorem yie:(jf v0 v1 v2 v3).lookup ("told":Str)=none:=(yy (by decide +kernel) (yy (by decide +kernel) (yy (by decide +kernel) (yy (by decide +kernel) xi))))
theorem yh5 {C:Addr} (hp:H p=some (.ins C dx (jf v0 v1 v2 v3))) (h:R):∃ a dx fs,V.ref p=.ref a/\H a=some (.ins C dx fs)/\fs.lookup ("told":Str)=none/\R:=⟨p,dx,_,rfl,hp,yie,h⟩
end
local macro_rules | `(tactic| walk_at "rd1")=>`(tactic| first
 | (with_reducible refine' yim (by assumption) ?rdh ?_; (case rdh=>first | assumption | exact yd))
 | (with_reducible refine' st_Sk_data (by assumption) ?rdh ?_; (case rdh=>first | assumption | exact yd))
 | (with_reducible refine' yia (by assumption) ?rdh ?_; (case rdh=>first | assumption | exact yd))
 | (with_reducible refine' yho (by assumption) ?rdh ?_; (case rdh=>first | assumption | exact yd))
 | (with_reducible refine' st_Sk_span (by assumption) ?rdh ?_; (case rdh=>first | assumption | exact yd))
 | (with_reducible refine' yhv (by assumption) ?rdh ?_; (case rdh=>first | assumption | exact yd))
 | (with_reducible refine' ydo (by assumption) ?rdh ?_; (case rdh=>first | assumption | exact yd))
 | (with_reducible refine' ydu (by assumption) ?rdh ?_; (case rdh=>first | assumption | exact yd))
 | (with_reducible refine' ydp (by assumption) ?rdh ?_; (case rdh=>first | assumption | exact yd))
 | (with_reducible refine' ycr (by assumption) ?rdh ?_; (case rdh=>first | assumption | exact yd))
 | (with_reducible refine' yce (by assumption) ?rdh ?_; (case rdh=>first | assumption | exact yd))
 | (with_reducible refine' ycu (by assumption) ?rdh ?_; (case rdh=>first | assumption | exact yd))
 | (with_reducible refine' mt_Sk___init__ ?rdh ?_; (case rdh=>first | assumption | exact yd))
 | (with_reducible refine' ydr ?rdh ?_; (case rdh=>first | assumption | exact yd))
 | (with_reducible refine' ycp ?rdh ?_; (case rdh=>first | assumption | exact yd))
 | (with_reducible refine' yj2 ?rdh ?_; (case rdh=>first | assumption | exact yd))
 | (with_reducible refine' yh5 ?rdh ?_; (case rdh=>first | assumption | exact yd))
)
open SpanMath
def But (p:Addr) (H H':Hp):Prop:=∀ b o,H b=some o->b≠p->H' b=some o
theorem But.refl {p:Addr} {H:Hp}:But p H H:=fun _ _ h _=>h
theorem But.of {p:Addr} {H H':Hp} (s:vh H H'):But p H H':=fun b o h _=>s b o h
theorem But.trans {p:Addr} {H H1 H2:Hp} (x:But p H H1) (y:But p H1 H2):But p H H2:=fun b o h n=>y b o (x b o h n) n
theorem But.upd {p:Addr} {H:Hp} {o:HO}:But p H (L2.upd H p o):=fun b u h n=>by rw [yu n]; exact h
theorem But.lst {p l C dx:Addr} {fs:List (Str × V)} {H H':Hp} {xs:List V} (e:But p H H') (hp:H p=some (.ins C dx fs)) (h:H l=some (.lst xs)):H' l=some (.lst xs):=e _ _ h (xf h hp (by intro z; cases z))
theorem uz {x:V} (h:zk x=true):∃ i,x=.int i:=by
 cases x with
 | int i=>exact ⟨i,rfl⟩
 | _=>cases h
def yao:V->Bool
 | .int i=>decide (0 <= i) && decide (i <= 1)
 | _=>false
def chV:V->Bool
 | .int i=>decide (32768 <= i) && decide (i <= 16744448)
 | _=>false
def yd4 (K:W.Frag):Sp:=fun vs H Q _=>∃ x n,vs=[x]/\x6 K H x (.type n)/\Q (.bl (zk x)) H
theorem yg5 {K:W.Frag} {i:Int} {H:Hp} {Q:VK} {E:XK} (h:Q (.bl true) H):yd4 K [.int i] H Q E:=⟨_,_,rfl,.int i,h⟩
def zz (x:Sn):List (Str × V):=[("low",.int x.1),("width",.int x.2.1),("size",.int x.2.2)]
theorem nWL:¬ (("width":Str)="low"):=by decide +kernel
theorem nLW:¬ (("low":Str)="width"):=by decide +kernel
theorem nSL:¬ (("size":Str)="low"):=by decide +kernel
theorem nLS:¬ (("low":Str)="size"):=by decide +kernel
theorem nSW:¬ (("size":Str)="width"):=by decide +kernel
theorem nWS:¬ (("width":Str)="size"):=by decide +kernel
theorem lkL (x:Sn):(zz x).lookup ("low":Str)=some (.int x.1):=u6
theorem lkW (x:Sn):(zz x).lookup ("width":Str)=some (.int x.2.1):=yy nWL u6
theorem lkS (x:Sn):(zz x).lookup ("size":Str)=some (.int x.2.2):=yy nSL (yy nSW u6)
theorem lkN (x:Sn) {m:Str} (h1:¬ m="low") (h2:¬ m="width") (h3:¬ m="size"):(zz x).lookup m=none:=yy h1 (yy h2 (yy h3 xi))
theorem pfL (x:Sn) (v:Int):wl "low" (.int v) (zz x)=zz (v,x.2.1,x.2.2):=jy
theorem pfW (x:Sn) (v:Int):wl "width" (.int v) (zz x)=zz (x.1,v,x.2.2):=v9 nLW jy
theorem pfS (x:Sn) (v:Int):wl "size" (.int v) (zz x)=zz (x.1,x.2.1,v):=v9 nLS (v9 nWS jy)
section
variable {H:Hp} {p dx:Addr} {x:Sn} {P:V->Prop} {nx:St->Hp->Prop} {σ:St} {v:Int}
theorem rdL (T:Txt K mg a) (hp:H p=some (.ins a.C_Span dx (zz x))) (h:P (.int x.1)) :
  ∃ a' C dx fs v,V.ref p=.ref a'/\H a'=some (.ins C dx fs)/\Cls K C/\yt K C "low"/\fs.lookup ("low":Str)=some v/\P v:=⟨p,_,dx,_,_,rfl,hp,T.cl_Span,T.n_Span_low,lkL x,h⟩
theorem rdW (T:Txt K mg a) (hp:H p=some (.ins a.C_Span dx (zz x))) (h:P (.int x.2.1)) :
  ∃ a' C dx fs v,V.ref p=.ref a'/\H a'=some (.ins C dx fs)/\Cls K C/\yt K C "width"/\fs.lookup ("width":Str)=some v/\P v:=⟨p,_,dx,_,_,rfl,hp,T.cl_Span,T.n_Span_width,lkW x,h⟩
theorem rdS (T:Txt K mg a) (hp:H p=some (.ins a.C_Span dx (zz x))) (h:P (.int x.2.2)) :
  ∃ a' C dx fs v,V.ref p=.ref a'/\H a'=some (.ins C dx fs)/\Cls K C/\yt K C "size"/\fs.lookup ("size":Str)=some v/\P v:=⟨p,_,dx,_,_,rfl,hp,T.cl_Span,T.n_Span_size,lkS x,h⟩
theorem vcr (T:Txt K mg a) (hp:H p=some (.ins a.C_Span dx (zz x))) (h:vm nx σ (upd H p (.ins a.C_Span dx (zz (v,x.2.1,x.2.2))))) :
  ∃ a' C dx fs,V.ref p=.ref a'/\H a'=some (.ins C dx fs)/\Cls K C/\yt K C "low"/\fs.length < 1000/\vm nx σ (upd H a' (.ins C dx (wl "low" (.int v) fs))):=⟨p,_,dx,zz x,rfl,hp,T.cl_Span,T.n_Span_low,by show 3 < 1000; decide,by rw [pfL]; exact h⟩
theorem vcm (T:Txt K mg a) (hp:H p=some (.ins a.C_Span dx (zz x))) (h:vm nx σ (upd H p (.ins a.C_Span dx (zz (x.1,v,x.2.2))))) :
  ∃ a' C dx fs,V.ref p=.ref a'/\H a'=some (.ins C dx fs)/\Cls K C/\yt K C "width"/\fs.length < 1000/\vm nx σ (upd H a' (.ins C dx (wl "width" (.int v) fs))):=⟨p,_,dx,zz x,rfl,hp,T.cl_Span,T.n_Span_width,by show 3 < 1000; decide,by rw [pfW]; exact h⟩
theorem vb5 (T:Txt K mg a) (hp:H p=some (.ins a.C_Span dx (zz x))) (h:vm nx σ (upd H p (.ins a.C_Span dx (zz (x.1,x.2.1,v))))) :
  ∃ a' C dx fs,V.ref p=.ref a'/\H a'=some (.ins C dx fs)/\Cls K C/\yt K C "size"/\fs.length < 1000/\vm nx σ (upd H a' (.ins C dx (wl "size" (.int v) fs))):=⟨p,_,dx,zz x,rfl,hp,T.cl_Span,T.n_Span_size,by show 3 < 1000; decide,by rw [pfS]; exact h⟩
end
local macro_rules | `(tactic| walk_at "rd1")=>`(tactic| first
 | (with_reducible refine' rdL (by assumption) ?rdh ?_; (case rdh=>first | assumption | exact yd))
 | (with_reducible refine' rdW (by assumption) ?rdh ?_; (case rdh=>first | assumption | exact yd))
 | (with_reducible refine' rdS (by assumption) ?rdh ?_; (case rdh=>first | assumption | exact yd))
 | (with_reducible refine' vcr (by assumption) ?rdh ?_; (case rdh=>first | assumption | exact yd))
 | (with_reducible refine' vcm (by assumption) ?rdh ?_; (case rdh=>first | assumption | exact yd))
 | (with_reducible refine' vb5 (by assumption) ?rdh ?_; (case rdh=>first | assumption | exact yd)))
inductive Slt where
 | ev (n o:Int)
 | qk (h:Int)
 | rn (l n:Int)
def Slt.ok:Slt->Prop
 | .ev n o=>0 <= n/\0 <= o/\n+o <= 255
 | .qk h=>32768 <= h/\h <= 16744448
 | .rn l n=>0 <= l/\l <= 1/\0 <= n/\n <= 255
def yaj (n:Int):Int:=(2 * n+1) * 16777216 / (2 * n+2)
def Slt.due:Slt->Int
 | .ev n o=>(2 * o+1) * 16777216 / (2 * (n+o)+2)
 | .qk h=>h
 | .rn l n=>if l=1 then yaj n else 16777216 - yaj n
def yf6 (n o:Int):Slt:=if 255 < n+o then .ev ((n+1) / 2) ((o+1) / 2) else .ev n o
def yhd (m:Int):Int:=if 16744448 < (if 32768 > m then 32768 else m) then 16744448 else (if 32768 > m then 32768 else m)
def Slt.see:Slt->Int->Slt
 | .ev n o,b=>if b=1 then yf6 n (o+1) else yf6 (n+1) o
 | .qk h,b=>.qk (yhd (if b=1 then h+(16777216 - h) / 16 else h - h / 16))
 | .rn l n,b=>if b=l then .rn l (if 255 < n+1 then 255 else n+1) else .rn b 1
def oS (a:Ads) (dx:Addr):Slt->HO
 | .ev n o=>.ins a.C_Even dx (xj (.int n) (.int o))
 | .qk h=>.ins a.C_Quick dx (xp (.int h))
 | .rn l n=>.ins a.C_Run dx (u7 (.int l) (.int n))
theorem ygd {n o:Int} (h1:0 <= n) (h2:0 <= o) (h3:n+o <= 256):(yf6 n o).ok:=by
 unfold yf6
 split
 ·exact ⟨by omega,by omega,by omega⟩
 ·exact ⟨h1,h2,by omega⟩
theorem yjx (m:Int):32768 <= yhd m/\yhd m <= 16744448:=by
 unfold yhd
 split <;> split <;> omega
theorem Slt.see_ok {s:Slt} {b:Int} (h:s.ok) (b0:0 <= b) (b1:b <= 1):(s.see b).ok:=by
 cases s with
 | ev n o =>
  obtain ⟨h1,h2,h3⟩:=h
  unfold Slt.see
  dsimp only
  split
  ·exact ygd h1 (by omega) (by omega)
  ·exact ygd (by omega) h2 (by omega)
 | qk h0=>exact yjx _
 | rn l n =>
  obtain ⟨h1,h2,h3,h4⟩:=h
  unfold Slt.see
  dsimp only
  split
  ·refine ⟨h1,h2,?_,?_⟩ <;> split <;> omega
  ·exact ⟨b0,b1,by decide,by decide⟩
def kdS:Fin 3->Str
 | 0=>"even"
 | 1=>"quick"
 | 2=>"run"
def kd0:Fin 3->Slt
 | 0=>.ev 0 0
 | 1=>.qk 8388608
 | 2=>.rn 1 0
theorem yon (k:Fin 3):(kd0 k).ok:=by
 match k with
 | 0=>exact ⟨by decide,by decide,by decide⟩
 | 1=>exact ⟨by decide,by decide⟩
 | 2=>exact ⟨by decide,by decide,by decide,by decide⟩
theorem yx7 {b:Int} (b0:0 <= b) (b1:b <= 1):yao (.int b)=true:=by
 simp only [yao,Bool.and_eq_true,decide_eq_true_eq]
 omega
theorem yhe {x:V} (h:yao x=true):∃ b:Int,x=.int b/\0 <= b/\b <= 1:=by
 cases x with
 | int i =>
  simp only [yao,Bool.and_eq_true,decide_eq_true_eq] at h
  exact ⟨i,rfl,h.1,h.2⟩
 | _=>cases h
def yc9 (C:Addr) (F:List (Str × V)):Sp:=fun vs H Q _=>∃ (p dx:Addr),vs=[.ref p]/\H p=some (.ins C dx [])/\∀ H',H' p=some (.ins C dx F)->But p H H'->Q .non H'
def ud (o:Addr->Slt->HO) (g:Slt->Prop):Sp:=fun vs H Q _=>∃ (p dx:Addr) (s:Slt),vs=[.ref p]/\g s/\s.ok/\H p=some (o dx s)/\Q (.int s.due) H
def z9 (K:W.Frag) (o:Addr->Slt->HO) (g:Slt->Prop) (C:Addr):Sp:=fun vs H Q E=>∃ (p dx:Addr) (s:Slt) (x:V) (n:String),vs=[.ref p,x]/\g s/\s.ok/\H p=some (o dx s)/\x6 K H x (.type n) /\
 (∀ b:Int,x=.int b->0 <= b->b <= 1->∀ H',H' p=some (o dx (s.see b))->But p H H'->Q .non H')/\(yao x=false->E (.ref C) none H)
def yzk:Slt->Prop
 | .ev _ _=>True
 | _=>False
def yzp:Slt->Prop
 | .qk _=>True
 | _=>False
def yzo:Slt->Prop
 | .rn _ _=>True
 | _=>False
def yiv (bs:List Int):Prop:=∀ b∈bs,0 <= b/\b <= 1
theorem ybg {n:Nat} (h:n <= 16000000):n <= sizeLine:=Nat.le_trans h (by decide)
theorem vq {n:Nat} (h:n <= 16000000):n < sizeLine:=Nat.lt_of_le_of_lt h (by decide)
theorem ykp (ns:List Int) (lo hi:Option Int):∃ ms:List Int,yeu (ns.map V.int) lo hi=ms.map V.int/\ms.length <= ns.length/\∀ m∈ms,m∈ns:=by
 refine ⟨(ns.drop (HT.sIx (ns.map V.int).length 0 lo)).take (HT.sIx (ns.map V.int).length (ns.map V.int).length hi - HT.sIx (ns.map V.int).length 0 lo),?_,?_,?_⟩
 ·unfold yeu
  rw [List.map_take,List.map_drop]
 ·rw [List.length_take,List.length_drop]
  omega
 ·intro m hm
  exact List.mem_of_mem_drop (List.mem_of_mem_take hm)
theorem x8 {ns:List Int} {i:Nat} {x:V} (h:(ns.map V.int)[i]?=some x):∃ n,x=.int n/\n∈ns/\ns[i]?=some n/\i < ns.length:=by
 rw [List.getElem?_map] at h
 cases e:ns[i]? with
 | none=>rw [e] at h; cases h
 | some n =>
  rw [e] at h
  have hi:i < ns.length:=by
   rcases Nat.lt_or_ge i ns.length with q | q
   ·exact q
   ·rw [List.getElem?_eq_none q] at e; cases e
  exact ⟨n,(Option.some.inj h).symm,List.mem_of_getElem? e,rfl,hi⟩
theorem z0 {l:List Int} {i:Nat} {q:Int} (h:l[i]?=some q):l.take (i+1)=l.take i++[q]:=by
 rw [List.take_add_one,h]
 rfl
theorem ygk {xs ys:List Int} (h1:yiv xs) (h2:yiv ys):yiv (xs++ys):=fun b hb=>by
 rcases List.mem_append.mp hb with h | h
 ·exact h1 b h
 ·exact h2 b h
theorem ykb (c:Int) (n:Nat):(List.replicate n [V.int c]).flatten=(List.replicate n c).map V.int:=by
 induction n with
 | zero=>rfl
 | succ n ih=>rw [List.replicate_succ,List.flatten_cons,ih,List.replicate_succ]; rfl
def yp5 (sg:List Int) (p:Int):Int:=if p <= sg.length then (atI sg (-p)).getD 256 else 256
theorem yrs {α β:Type} (f:α->β) (xs:List α) (i:Int):atI (xs.map f) i=(atI xs i).map f:=by
 unfold atI
 rw [List.length_map]
 cases ixN xs.length i with
 | none=>rfl
 | some j =>
  show (xs.map f)[j]?=(xs[j]?).map f
  rw [List.getElem?_map]
theorem ymn {sg:List Int} {p:Int} (h1:1 <= p) (h2:p <= sg.length):∃ c,atI sg (-p)=some c/\c∈sg:=by
 unfold atI ixN
 rw [if_neg (by omega)]
 by_cases h:-(sg.length:Int) <= -p
 ·rw [if_pos (by omega)]
  have hj:((-p+(sg.length:Int)).toNat) < sg.length:=by omega
  exact ⟨_,List.getElem?_eq_getElem hj,List.getElem_mem hj⟩
 ·omega
def Slt.kind:Slt->Fin 3
 | .ev _ _=>0
 | .qk _=>1
 | .rn _ _=>2
theorem ymh (s:Slt) (b:Int):(s.see b).kind=s.kind:=by
 cases s with
 | ev n o =>
  unfold Slt.see yf6
  dsimp only
  split <;> split <;> rfl
 | qk h=>rfl
 | rn l n =>
  unfold Slt.see
  dsimp only
  split <;> rfl
theorem ym1 (k:Fin 3):(kd0 k).kind=k:=by
 match k with
 | 0=>rfl
 | 1=>rfl
 | 2=>rfl
theorem yb5 (a:Ads) (dx:Addr) (s:Slt):∃ C fs,oS a dx s=.ins C dx fs:=by
 cases s <;> exact ⟨_,_,rfl⟩
theorem yhb {s:Slt} (h:s.ok):32768 <= s.due/\s.due <= 16744448:=by
 cases s with
 | ev n o =>
  obtain ⟨h1,h2,h3⟩:=h
  unfold Slt.due
  dsimp only
  have hd:(0:Int) < 2 * (n+o)+2:=by omega
  constructor
  ·rw [Int.le_ediv_iff_mul_le hd]
   omega
  ·have:(2 * o+1) * 16777216 / (2 * (n+o)+2) < 16744449:=by
    rw [Int.ediv_lt_iff_lt_mul hd]
    omega
   omega
 | qk h0=>exact h
 | rn l n =>
  obtain ⟨h1,h2,h3,h4⟩:=h
  have hd:(0:Int) < 2 * n+2:=by omega
  have g1:8388608 <= yaj n:=by
   unfold yaj
   rw [Int.le_ediv_iff_mul_le hd]
   omega
  have g2:yaj n < 16744449:=by
   unfold yaj
   rw [Int.ediv_lt_iff_lt_mul hd]
   omega
  unfold Slt.due
  dsimp only
  split <;> omega
theorem ykc {p dx:Addr} {s:Slt} {ta:TE} {σ:St} {H:Hp} {Q:VK} {E1 E2 E3:XK} (hta:∀ Q':VK,Q' (.ref p) H->ta σ H Q') (hp:H p=some (oS a dx s)) (ok:s.ok) (h:Q (.int s.due) H) :
  yug (yf7 a.C_Even "chance" (ud (oS a) yzk) [] E1 ta yuc) (yug (yf7 a.C_Quick "chance" (ud (oS a) yzp) [] E2 ta yuc) (yf7 a.C_Run "chance" (ud (oS a) yzo) [] E3 ta yuc)) σ H Q:=by
 cases s with
 | ev n o=>exact yg8 (yg1 (hta _ ⟨p,dx,_,rfl,hp,ybp,p,dx,.ev n o,rfl,trivial,ok,hp,h⟩))
 | qk h0=>exact ycb (yg8 (yg1 (hta _ ⟨p,dx,_,rfl,hp,ya3,p,dx,.qk h0,rfl,trivial,ok,hp,h⟩)))
 | rn l n=>exact ycb (ycb (yg1 (hta _ ⟨p,dx,_,rfl,hp,ycw,p,dx,.rn l n,rfl,trivial,ok,hp,h⟩)))
theorem yr1 {p dx:Addr} {s:Slt} {ta:TE} {t:TA} {σ:St} {H:Hp} {Q:VK} {E1 E2 E3:St->XK} {x:V} {n:String} (hta:∀ Q':VK,Q' (.ref p) H->ta σ H Q') (ht:∀ Q':List V->Hp->Prop,Q' [x] H->t σ H Q') (hp:H p=some (oS a dx s)) (ok:s.ok) (ty:x6 K H x (.type n))
  (h:∀ b:Int,x=.int b->0 <= b->b <= 1->∀ H',H' p=some (oS a dx (s.see b))->But p H H'->Q .non H') (h1:yao x=false->E1 σ (.ref a.C_NB) none H) (h2:yao x=false->E2 σ (.ref a.C_NB) none H) (h3:yao x=false->E3 σ (.ref a.C_NB) none H) :
  yug (yek a.C_Even "seen" (z9 K (oS a) yzk a.C_NB) [] E1 ta t) (yug (yek a.C_Quick "seen" (z9 K (oS a) yzp a.C_NB) [] E2 ta t) (yek a.C_Run "seen" (z9 K (oS a) yzo a.C_NB) [] E3 ta t)) σ H Q:=by
 cases s with
 | ev n o=>exact yg8 (yde (hta _ ⟨p,dx,_,rfl,hp,yd0,ht _ ⟨p,dx,.ev n o,x,_,rfl,trivial,ok,hp,ty,h,h1⟩⟩))
 | qk h0=>exact ycb (yg8 (yde (hta _ ⟨p,dx,_,rfl,hp,yci,ht _ ⟨p,dx,.qk h0,x,_,rfl,trivial,ok,hp,ty,h,h2⟩⟩)))
 | rn l n=>exact ycb (ycb (yde (hta _ ⟨p,dx,_,rfl,hp,ye4,ht _ ⟨p,dx,.rn l n,x,_,rfl,trivial,ok,hp,ty,h,h3⟩⟩)))
theorem yyf {x:Sn} {c b:Int} (h:Ok x):(nar x c b).2.2 <= x.2.2+2:=by
 unfold nar ren
 have:=h.z
 (repeat' split) <;> (dsimp only; omega)
abbrev tMx:Nat:=100000
theorem ygh {k:Nat} (h:k <= 6):pw k <= 281474976710656:=Int.le_trans (ykv h) (by decide)
theorem ymv (xs:List Int) (y:Int):xs.map V.int++[V.int y]=(xs++[y]).map V.int:=by simp
theorem yqx (xs:List Int):(xs.map V.int).reverse=xs.reverse.map V.int:=by simp
def gvv (c b:Int):Int:=if b=1 then c else 16777216 - c
theorem yf1 {x:V} (h:chV x=true):∃ c,x=.int c/\32768 <= c/\c <= 16744448:=by
 cases x with
 | int i =>
  simp only [chV,Bool.and_eq_true,decide_eq_true_eq] at h
  exact ⟨i,rfl,h.1,h.2⟩
 | _=>cases h
theorem ygl {x:V} (h:yao x=true):∃ b,x=.int b/\0 <= b/\b <= 1:=by
 cases x with
 | int i =>
  simp only [yao,Bool.and_eq_true,decide_eq_true_eq] at h
  exact ⟨i,rfl,h.1,h.2⟩
 | _=>cases h
theorem yeo {c:Int} (h:Ch c):chV (.int c)=true:=by
 obtain ⟨h1,h2⟩:=h
 simp only [chV,Bool.and_eq_true,decide_eq_true_eq]
 omega
theorem ydd {b:Int} (h1:0 <= b) (h2:b <= 1):yao (.int b)=true:=by
 simp only [yao,Bool.and_eq_true,decide_eq_true_eq]
 omega
theorem ydg {xs:List V} {i:Int} (h0:0 <= i) (h1:i < xs.length):∃ v,v∈xs/\atI xs i=some v:=by
 obtain ⟨j,rfl⟩:∃ j:Nat,i=(j:Int):=⟨i.toNat,by omega⟩
 have hj:j < xs.length:=by omega
 exact ⟨xs[j],List.getElem_mem hj,vv (List.getElem?_eq_getElem hj)⟩
theorem yb7 {K:W.Frag} {H H':Hp} {v:V} {n:String} (S:vh H H') (t:x6 K H v (.type n)):x6 K H' v (.type n):=by
 cases t with
 | non=>exact .non
 | bl b=>exact .bl b
 | int i=>exact .int i
 | str x=>exact .str x
 | flt x=>exact .flt x
 | lst e=>exact .lst (S _ _ e)
 | frz e=>exact .frz (S _ _ e)
 | tup e=>exact .tup (S _ _ e)
 | dK e=>exact .dK (S _ _ e)
 | dT e=>exact .dT (S _ _ e)
def sgV:V->Bool
 | .int i=>decide (0 <= i) && decide (i <= 255)
 | _=>false
def yn0 (K:W.Frag) (H:Hp) (xs:List V):Prop:=∀ y∈xs,∃ k:String,x6 K H y (.type k)
theorem ybs {K:W.Frag} {H:Hp} (ns:List Int):yn0 K H (ns.map V.int):=fun y hy=>by
 obtain ⟨i,_,rfl⟩:=List.mem_map.mp hy
 exact ⟨_,.int i⟩
def Bad (K:W.Frag) (H:Hp) (x:V) (n:String) (m:Int):Prop:=n≠"list"\/∃ p xs,x=.ref p/\H p=some (.lst xs)/\yn0 K H xs/\xs.length <= 100000/\(decide ((xs.length:Int) <= m) && xs.all sgV)=false
def yzj (K:W.Frag) (H:Hp) (x:V) (xs:List V) (m:Int):Prop:=∃ p,x=.ref p/\H p=some (.lst xs)/\yn0 K H xs/\xs.length <= 100000/\(decide ((xs.length:Int) <= m) && xs.all sgV)=true
theorem yra {K:W.Frag} {H:Hp} {x:V} {n:String} (ty:x6 K H x (.type n)):W.kitOne K (.type n) (.type "list")=some (decide (n="list")):=by
 cases ty <;> rfl
theorem ymm {n:Nat} (h:n <= 100000):n < sizeLine:=Nat.lt_of_le_of_lt h (by decide)
theorem yk5 {ns:List Int} (h:∀ i∈ns,0 <= i/\i <= 255):(ns.map V.int).all sgV=true:=by
 rw [List.all_map,List.all_eq_true]
 intro i hi
 obtain ⟨h1,h2⟩:=h i hi
 simp [sgV,h1,h2]
def yby (K:W.Frag) (C:Addr) (m:Int):Sp:=fun vs H Q E=>∃ x n,vs=[x]/\x6 K H x (.type n)/\((Bad K H x n m/\∀ H',vh H H'->E (.ref C) none H')\/∃ xs,yzj K H x xs m/\∀ r H',H r=none->H' r=some (.lst xs)->vh H H'->Q (.ref r) H')
def yme (p q:Addr) (H H':Hp):Prop:=∀ b o,H b=some o->b≠p->b≠q->H' b=some o
theorem But.two {p q:Addr} {H H':Hp} (h:But p H H'):yme p q H H':=fun b o e n _=>h b o e n
theorem But.two' {p q:Addr} {H H':Hp} (h:But q H H'):yme p q H H':=fun b o e _ n=>h b o e n
theorem yme.trans {p q:Addr} {H H1 H2:Hp} (x:yme p q H H1) (y:yme p q H1 H2):yme p q H H2:=fun b o h n m=>y b o (x b o h n m) n m
structure yiy (a:Ads) (H:Hp) (p dx pd ps ds:Addr) (d:List Int) (x:Sn):Prop where
 me:H p=some (.ins a.C_Sk dx (jf (.ref pd) (.ref ps) (.int (rn d (sz x))) (.int x.2.2)))
 dt:H pd=some (.lst (d.map V.int))
 sp:H ps=some (.ins a.C_Span ds (zz x))
 ne:p≠ps
theorem yiy.same {a:Ads} {H H':Hp} {p dx pd ps ds:Addr} {d:List Int} {x:Sn} (h:yiy a H p dx pd ps ds d x) (S:vh H H'):yiy a H' p dx pd ps ds d x:=⟨S _ _ h.me,S _ _ h.dt,S _ _ h.sp,h.ne⟩
section
variable {a:Ads} {H H':Hp} {p dx pd ps ds:Addr} {d:List Int} {x:Sn}
theorem yiy.lst (h:yiy a H p dx pd ps ds d x) (B:yme p ps H H') {l:Addr} {xs:List V} (e:H l=some (.lst xs)):H' l=some (.lst xs):=B _ _ e (xf e h.me (by intro z; cases z)) (xf e h.sp (by intro z; cases z))
theorem yiy.tup (h:yiy a H p dx pd ps ds d x) (B:yme p ps H H') {l:Addr} {xs:List V} (e:H l=some (.tup xs)):H' l=some (.tup xs):=B _ _ e (xf e h.me (by intro z; cases z)) (xf e h.sp (by intro z; cases z))
end
theorem ygo {K:W.Frag} {H:Hp} {p:Addr} {d:List Int} (h:H p=some (.lst (d.map V.int))) (hb:Byt d) (hz:d.length <= 12000):yzj K H (.ref p) (d.map V.int) 12000 :=
 ⟨p,rfl,h,ybs d,by rw [List.length_map]; omega,by rw [yk5 hb,List.length_map,decide_eq_true (by omega)]; rfl⟩
def Sgs (ns:List Int):Prop:=∀ i∈ns,0 <= i/\i <= 255
def wth:List Int:=[128,64,32,16,8,4,2,1]
def b8 (s:Int):List Int:=wth.map (fun w=>s / w % 2)
def dec:List Int->List Int
 | []=>[0]
 | s :: r=>(1 :: b8 s)++dec r
def nds:Int->List Int->List Int
 | _,[]=>[]
 | n,b :: r=>n :: nds (2 * n+b) r
def yak:List Int->List Int
 | []=>[]
 | s :: r=>(1 :: b8 s)++yak r
theorem yl7:∀ ns,dec ns=yak ns++[0]
 | []=>rfl
 | s :: r=>by simp [dec,yak,yl7 r]
theorem ybc (s:Int):∀ ns,yak (ns++[s])=yak ns++(1 :: b8 s)
 | []=>by simp [yak]
 | t :: r=>by simp [yak,ybc s r]
theorem yok (s:Int):(b8 s).length=8:=rfl
theorem uq:∀ ns:List Int,(yak ns).length=9 * ns.length
 | []=>rfl
 | s :: r=>by
  show ((1 :: b8 s)++yak r).length=9 * (r.length+1)
  rw [List.length_append,uq r]
  show 9+_=_
  omega
theorem yp8 (s:Int):yiv (b8 s):=fun b hb=>by
 obtain ⟨w,_,rfl⟩:=List.mem_map.mp hb
 have h0:0 <= s / w % 2:=Int.emod_nonneg _ (by decide)
 have h1:s / w % 2 < 2:=Int.emod_lt_of_pos _ (by decide)
 exact ⟨h0,by omega⟩
theorem zd:∀ ns,yiv (dec ns)
 | []=>fun b hb=>by rw [List.mem_singleton.mp hb]; decide
 | s :: r=>by
  refine ygk (fun b hb=>?_) (zd r)
  rcases List.mem_cons.mp hb with rfl | hb
  ·decide
  ·exact yp8 s b hb
theorem vav {s:Int} (h0:0 <= s) (h1:s <= 255):128 * (s / 128 % 2)+(64 * (s / 64 % 2)+(32 * (s / 32 % 2)+(16 * (s / 16 % 2)+(8 * (s / 8 % 2)+(4 * (s / 4 % 2)+(2 * (s / 2 % 2)+(1 * (s / 1 % 2)+0)))))))=s:=by omega
def wV (s:Int):V->V
 | .int w=>.int (s / w % 2)
 | _=>.non
theorem yc0 {K:W.Frag} {H:Hp} {p:Addr} {d:List Int} (h:H p=some (.lst (d.map V.int))) (hb:Sgs d) (hz:d.length <= 1000):yzj K H (.ref p) (d.map V.int) 1000 :=
 ⟨p,rfl,h,ybs d,by rw [List.length_map]; omega,by rw [yk5 hb,List.length_map,decide_eq_true (by omega)]; rfl⟩
theorem ymq (xs ys:List Int):xs.map V.int++ys.map V.int=(xs++ys).map V.int:=by simp
theorem ug (ns:List Int):(dec ns).length=9 * ns.length+1:=by rw [yl7,List.length_append,uq]; rfl
def ydk (f:List Int->Option Slt) (k:List Int) (s:Slt):List Int->Option Slt:=fun j=>if j=k then some s else f j
def yzf:HO->Bool
 | .ins _ _ _=>true
 | .dT _=>true
 | _=>false
def kI (k:List Int):List Key:=k.map Sum.inl
theorem yxo (k:List Int):(kI k).map kV=k.map V.int:=by
 unfold kI
 rw [List.map_map]
 rfl
theorem ypg {j k:List Int} (h:kI j=kI k):j=k:=by
 unfold kI at h
 induction j generalizing k with
 | nil =>
  cases k with
  | nil=>rfl
  | cons _ _=>cases h
 | cons x r ih =>
  cases k with
  | nil=>cases h
  | cons y s =>
   injection h with h1 h2
   injection h1 with h1
   rw [h1,ih h2]
structure yam (a:Ads) (H:Hp) (p dx lk d:Addr) (kd:Fin 3) (f:List Int->Option Slt) (O:Addr->Prop) (m:Nat):Prop where
 me:H p=some (.ins a.C_Book dx (ybl (.ref lk) (.ref d)))
 own:∀ b,O b->∃ o,H b=some o/\yzf o=true
 np:¬ O p
 dO:O d
 tb:∃ (kvs:List (List Key × V)) (loc:List Int->Addr × Addr),H d=some (.dT kvs)/\kvs.length <= m/\(∀ k,f k=none->yan kvs (kI k)=none) /\
  (∀ k s,f k=some s->yan kvs (kI k)=some (.ref (loc k).1)/\H (loc k).1=some (oS a (loc k).2 s)/\s.ok/\s.kind=kd/\O (loc k).1)/\(∀ k j s t,f k=some s->f j=some t->(loc k).1=(loc j).1->k=j)
def yod (O:Addr->Prop) (H H':Hp):Prop:=∀ b o,H b=some o->¬ O b->H' b=some o
section
variable {a:Ads} {H H':Hp} {p dx lk d:Addr} {kd:Fin 3} {f:List Int->Option Slt} {O:Addr->Prop} {m:Nat}
theorem yam.frame (h:yam a H p dx lk d kd f O m) {O2:Addr->Prop} (B:yod O2 H H') (dj:∀ b,O b->¬ O2 b) (hp:¬ O2 p):yam a H' p dx lk d kd f O m:=by
 obtain ⟨kvs,loc,h1,h2,h3,h4,h5⟩:=h.tb
 refine ⟨B _ _ h.me hp,fun b hb=>?_,h.np,h.dO,kvs,loc,B _ _ h1 (dj _ h.dO),h2,h3,fun k s hk=>?_,h5⟩
 ·obtain ⟨o,ho,hi⟩:=h.own b hb
  exact ⟨o,B _ _ ho (dj b hb),hi⟩
 ·obtain ⟨q1,q2,q3,q4,q5⟩:=h4 k s hk
  exact ⟨q1,B _ _ q2 (dj _ q5),q3,q4,q5⟩
theorem yam.same (h:yam a H p dx lk d kd f O m) (S:vh H H'):yam a H' p dx lk d kd f O m:=h.frame (O2:=fun _=>False) (fun b o e _=>S b o e) (fun _ _ z=>z) (fun z=>z)
end
open MixI
structure yn9 (a:Ads) (p dx l:Addr) (ws:List Int) (H:Hp):Prop where
 o:H p=some (.ins a.C_Mx dx (yiu (.ref l)))
 l:H l=some (.lst (ws.map V.int))
theorem yn9.same {a:Ads} {p dx l:Addr} {ws:List Int} {H H':Hp} (m:yn9 a p dx l ws H) (S:vh H H'):yn9 a p dx l ws H':=⟨S _ _ m.o,S _ _ m.l⟩
theorem yv2 {k:Nat} {cs:List Int} (h:COk k cs) {c:Int} (hm:c∈cs):Ch c:=⟨h.lo c hm,h.hi c hm⟩
theorem yph {g:Int->Int->Int} {ws cs:List Int} (h:cs.length=ws.length):(List.range (ws.map V.int).length).map (fun i=>V.int (g ((ws[i]?).getD 0) ((cs[i]?).getD 0)))=(List.zipWith g ws cs).map V.int:=by
 rw [List.length_map,<- yj1 h,List.map_map]
 rfl
theorem ygf {H:Hp} {D:Addr} {xs ys:List V} (h:H D=some (.lst xs)) (e:xs=ys):H D=some (.lst ys):=e ▸ h
def yju (K:W.Frag) (a:Ads):Sp:=fun vs H Q _=>∃ (p dx l c:Addr) (ws cs:List Int) (k:Nat),vs=[.ref p,.ref c]/\1 <= k/\k <= 6/\WOk k ws/\COk k cs/\yn9 a p dx l ws H/\SqL K H c (cs.map V.int)/\∀ H',vh H H'->Q (.int (yl9 ws cs)) H'
def yja (K:W.Frag) (a:Ads) (C:Addr):Sp:=fun vs H Q E=>∃ (p dx l c:Addr) (ws cs:List Int) (k:Nat) (x:V) (n:String),vs=[.ref p,.ref c,x]/\1 <= k/\k <= 6/\WOk k ws/\COk k cs/\yn9 a p dx l ws H/\SqL K H c (cs.map V.int)/\x6 K H x (.type n) /\
 (∀ b:Int,x=.int b->0 <= b->b <= 1->∀ l' H',H l'=none->yn9 a p dx l' (lrn ws cs b) H'->But p H H'->Q .non H')/\(yao x=false->E (.ref C) none H)
def ym5 (a:Ads):Sp:=fun vs H Q _=>∃ (p dx:Addr) (k:Nat),vs=[.ref p,.int k]/\1 <= k/\k <= 6/\H p=some (.ins a.C_Mx dx [])/\∀ l H',H l=none->yn9 a p dx l (List.replicate k 1099511627776) H'->But p H H'->Q .non H'
def yl6:V->Bool
 | .str s=>inV (.str s) [V.str "even",V.str "quick",V.str "run"]
 | _=>false
def plV:V->Bool
 | .int i=>decide (1 <= i) && decide (i <= 8)
 | _=>false
def ltV:V->V->Bool
 | .int i,.int j=>decide (i < j)
 | _,_=>false
def vaz (xs:List V):Bool:=(List.zipWith ltV xs xs.tail).all id
def zv (xs:List V):Bool:=decide (xs.length <= 4) && xs.all plV && vaz xs
def PlB (K:W.Frag) (H:Hp) (x:V) (b:Bool):Prop:=(∃ n,x6 K H x (.type n)/\n≠"tuple"/\b=false)\/∃ t xs,x=.ref t/\H t=some (.tup xs)/\xs.length <= 1000/\(∀ y∈xs,∃ n:String,x6 K H y (.type n))/\b=zv xs
def LkB (K:W.Frag) (H:Hp) (x:V) (b:Bool):Prop:=(∃ n,x6 K H x (.type n)/\n≠"tuple"/\b=false) \/
 ∃ t xs,x=.ref t/\H t=some (.tup xs)/\((xs.length≠2/\b=false)\/∃ y z n,xs=[y,z]/\x6 K H y (.type n)/\((yl6 y=false/\b=false)\/(yl6 y=true/\PlB K H z b)))
theorem PlB.same {K:W.Frag} {H H':Hp} {x:V} {b:Bool} (h:PlB K H x b) (S:vh H H'):PlB K H' x b:=by
 rcases h with ⟨n,t,hn,e⟩ | ⟨t,xs,e,ht,hl,hy,hb⟩
 ·exact .inl ⟨n,yb7 S t,hn,e⟩
 ·exact .inr ⟨t,xs,e,S _ _ ht,hl,fun y hm=>let ⟨n,z⟩:=hy y hm; ⟨n,yb7 S z⟩,hb⟩
theorem LkB.same {K:W.Frag} {H H':Hp} {x:V} {b:Bool} (h:LkB K H x b) (S:vh H H'):LkB K H' x b:=by
 rcases h with ⟨n,t,hn,e⟩ | ⟨t,xs,e,ht,h⟩
 ·exact .inl ⟨n,yb7 S t,hn,e⟩
 ·refine .inr ⟨t,xs,e,S _ _ ht,?_⟩
  rcases h with h | ⟨y,z,n,e2,ty,h⟩
  ·exact .inl h
  ·refine .inr ⟨y,z,n,e2,yb7 S ty,?_⟩
   rcases h with h | ⟨h1,h2⟩
   ·exact .inl h
   ·exact .inr ⟨h1,h2.same S⟩
theorem yas {K:W.Frag} {H:Hp} {x:V} {n:String} (ty:x6 K H x (.type n)):W.kitOne K (.type n) (.type "tuple")=some (decide (n="tuple")):=by cases ty <;> rfl
theorem ymj {K:W.Frag} {H:Hp} {x:V} {n:String} (ty:x6 K H x (.type n)):W.kitOne K (.type n) (.type "str")=some (decide (n="str")):=by cases ty <;> rfl
theorem ygs {K:W.Frag} {H:Hp} {x:V} {n:String} (ty:x6 K H x (.type n)):W.kitOne K (.type n) (.type "list")=some (decide (n="list")):=by cases ty <;> rfl
theorem yqm {xs:List V} {i:Nat} {y:V} (h:xs.tail[i]?=some y):xs[i+1]?=some y:=by
 cases xs with
 | nil=>simp at h
 | cons x r=>simpa using h
theorem yj6 (xs:List V):(List.range xs.tail.length).map (fun i=>V.bl (ltV ((xs[i]?).getD .non) ((xs.tail[i]?).getD .non)))=(List.zipWith ltV xs xs.tail).map V.bl:=by
 apply List.ext_getElem
 ·rw [List.length_map,List.length_range,List.length_map,List.length_zipWith,List.length_tail]; omega
 ·intro i h1 h2
  rw [List.length_map,List.length_range] at h1
  have hx:i < xs.length:=by rw [List.length_tail] at h1; omega
  rw [List.getElem_map,List.getElem_range,List.getElem_map,List.getElem_zipWith,List.getElem?_eq_getElem h1,List.getElem?_eq_getElem hx]
  rfl
theorem ykj {K:W.Frag} {t u D:Addr} {xs:List V} {te:TE} {fr:St} {R:Hp->Prop} {H1:Hp} (hint:∀ y∈xs,∃ i:Int,y=.int i) (hl:xs.length <= 1000) (ht:SqT K H1 t xs) (hu:SqT K H1 u xs.tail) (hD:H1 D=none)
  (hte:∀ (i j:Int) (σ':St) (H':Hp) (Q':VK),Q' (.bl (decide (i < j))) H'->te (some (.int i) :: some (.int j) :: σ') H' Q') (hR:∀ H,vh H1 H->H D=some (.lst ((List.zipWith ltV xs xs.tail).map V.bl))->R H) :
  je (yzh K t u) (yub K 2 (ul (wy 0) (ul (wy 1) ymb))) te 2 fr D R H1:=by
 refine yfe (m:=xs.tail.length) (fun i=>V.bl (ltV ((xs[i]?).getD .non) ((xs.tail[i]?).getD .non))) ht hu (by rw [List.length_tail]; omega) (Nat.le_refl _) (.inr (Nat.le_refl _)) hD (fun i x y H2 tt pre hi hx hy S2 hD2 htt hpre=>?_) (fun H2 S2 hD2=>?_)
 ·obtain ⟨v1,v2,rfl⟩:=ylq hpre
  obtain ⟨c,rfl⟩:=hint x (List.mem_of_getElem? hx)
  obtain ⟨d,rfl⟩:=hint y (List.mem_of_getElem? (yqm hy))
  have S3:=S2.trans (vj (o:=HO.tup [V.int c,V.int d]) htt)
  have hD3:=xo (o':=HO.tup [V.int c,V.int d]) htt hD2
  have ht3:upd H2 tt (HO.tup [V.int c,V.int d]) tt=some (.tup [V.int c,V.int d]):=yd
  generalize upd H2 tt (HO.tup [V.int c,V.int d])=H3 at S3 hD3 ht3
  refine yb6 (SqT.of ht3) rfl ?_
  show ul (wy 0) (ul (wy 1) ymb) [V.int c,V.int d] (v1 :: v2 :: fr) H3 _
  walk_at "rd"
  refine ⟨⟨[some (.int c),some (.int d)],rfl,rfl⟩,?_⟩
  refine hte c d fr H3 _ ?_
  refine Mp.doneR hD (vq (by rw [List.length_tail]; omega)) hi S3 hD3 ?_
  rw [hx,hy]
  rfl
 ·exact hR H2 S2 (by rw [<- yj6]; exact hD2)
theorem yqz (xs:List V):yeu xs (some 1) none=xs.tail:=by
 unfold yeu
 have e:HT.sIx xs.length 0 (some 1)=min 1 xs.length:=by
  have:=HT.sIx_nat xs.length 0 1
  simpa using this
 rw [HT.sIx_none,e]
 cases xs with
 | nil=>rfl
 | cons x r=>simp
theorem ymk {n:Nat} (bs:List Bool) (h:n=bs.length):(List.range n).map (fun i=>V.bl ((bs[i]?).getD false))=bs.map V.bl:=by
 subst h
 apply List.ext_getElem
 ·rw [List.length_map,List.length_range,List.length_map]
 ·intro i h1 h2
  rw [List.length_map,List.length_range] at h1
  rw [List.getElem_map,List.getElem_range,List.getElem_map,List.getElem?_eq_getElem h1]
  rfl
def va9 (K:W.Frag) (H:Hp) (xs:List V) (bs:List Bool):Prop:=xs.length=bs.length/\∀ (i:Nat) (y:V) (b:Bool),xs[i]?=some y->bs[i]?=some b->LkB K H y b
def LkG (H:Hp) (v:V) (kd:Fin 3) (tp:Addr) (ps:List Int):Prop:=∃ lk,v=.ref lk/\H lk=some (.tup [.str (kdS kd),.ref tp])/\H tp=some (.tup (ps.map V.int))/\zv (ps.map V.int)=true
theorem LkG.same {H H':Hp} {v:V} {kd:Fin 3} {tp:Addr} {ps:List Int} (h:LkG H v kd tp ps) (S:vh H H'):LkG H' v kd tp ps:=by
 obtain ⟨lk,e,h1,h2,h3⟩:=h
 exact ⟨lk,e,S _ _ h1,S _ _ h2,h3⟩
theorem yr3 (kd:Fin 3):yl6 (.str (kdS kd))=true:=by
 match kd with
 | 0=>rfl
 | 1=>rfl
 | 2=>rfl
theorem yh7 {xs:List V} (h:zv xs=true):xs.length <= 4:=by
 unfold zv at h
 rw [Bool.and_eq_true,Bool.and_eq_true] at h
 exact of_decide_eq_true h.1.1
theorem LkG.tells {K:W.Frag} {H:Hp} {v:V} {kd:Fin 3} {tp:Addr} {ps:List Int} (h:LkG H v kd tp ps):LkB K H v true:=by
 obtain ⟨lk,e,h1,h2,h3⟩:=h
 have:=yh7 h3
 refine .inr ⟨lk,_,e,h1,.inr ⟨_,_,"str",rfl,.str _,.inr ⟨yr3 kd,.inr ⟨tp,_,rfl,h2,by omega,fun y hy=>?_,h3.symm⟩⟩⟩⟩
 obtain ⟨i,_,rfl⟩:=List.mem_map.mp hy
 exact ⟨_,.int i⟩
theorem yo1:∀ {ps:List Int},ps.Pairwise (· < ·)->vaz (ps.map V.int)=true
 | [],_=>rfl
 | [_],_=>rfl
 | p :: q :: r,h=>by
  have h1:p < q:=(List.pairwise_cons.mp h).1 q (by simp)
  have ih:=yo1 (List.pairwise_cons.mp h).2
  unfold vaz at ih ⊢
  simp only [List.map_cons,List.tail_cons,List.zipWith_cons_cons,List.all_cons] at ih ⊢
  rw [show ltV (V.int p) (V.int q)=true from decide_eq_true h1]
  simpa using ih
theorem yjs {ps:List Int} (h1:ps.length <= 4) (h2:∀ p∈ps,1 <= p/\p <= 8) (h3:ps.Pairwise (· < ·)):zv (ps.map V.int)=true:=by
 unfold zv
 rw [List.length_map,decide_eq_true h1,yo1 h3,Bool.true_and,Bool.and_true,List.all_eq_true]
 intro y hy
 obtain ⟨i,hi,rfl⟩:=List.mem_map.mp hy
 have:=h2 i hi
 show (decide (1 <= i) && decide (i <= 8))=true
 rw [decide_eq_true this.1,decide_eq_true this.2]
 rfl
def Lks (H:Hp) (xs:List V):Prop:=∀ y∈xs,∃ kd tp ps,LkG H y kd tp ps
def dLk (kd:Fin 3) (ps:List Int):PyData:=.tuple [.str (kdS kd),.tuple (ps.map PyData.int)]
theorem LkG.rd {K:W.Frag} {H:Hp} {v:V} {kd:Fin 3} {tp:Addr} {ps:List Int} (h:LkG H v kd tp ps):RdV K H v (dLk kd ps):=by
 obtain ⟨lk,rfl,h1,h2,_⟩:=h
 exact .tup (SqT.of h1) (.cons (.str _) (.cons (.tup (SqT.of h2) (zq ps)) .nil))
theorem yrh (kd:Fin 3) (ps:List Int):(dLk kd ps).canLay0=true:=by
 have e:PyData.strOk (kdS kd)=true:=by
  match kd with
  | 0=>decide +kernel
  | 1=>decide +kernel
  | 2=>decide +kernel
 simp [dLk,PyData.canLay0,PyData.canLayAll0,u9,e]
theorem yjb (kd:Fin 3) (ps:List Int):(dLk kd ps).depth <= 2:=by
 simp [dLk,PyData.depth,PyData.depthAll,z6]
theorem yqu (kd:Fin 3) (ps:List Int):PyData.eqv (dLk kd ps) (dLk kd ps)=true:=by
 simp [dLk,PyData.eqv,PyData.eqvAll,u8]
theorem Lks.bs {K:W.Frag} {H:Hp} {xs:List V} (h:Lks H xs):va9 K H xs (List.replicate xs.length true):=by
 refine ⟨by rw [List.length_replicate],fun i y b h1 h2=>?_⟩
 have hb:b=true:=List.eq_of_mem_replicate (List.mem_of_getElem? h2)
 obtain ⟨kd,tp,ps,z⟩:=h y (List.mem_of_getElem? h1)
 rw [hb]
 exact z.tells
theorem yr7 (n:Nat):(List.replicate n true).all id=true:=by simp
def vcn (K:W.Frag) (H:Hp) (x:V):Prop:=(∃ n,x6 K H x (.type n)/\n≠"list")\/∃ l xs bs,x=.ref l/\H l=some (.lst xs)/\xs.length <= 1000/\va9 K H xs bs/\¬ (1 <= xs.length/\xs.length <= 6/\bs.all id=true)
theorem LkG.upd {H:Hp} {v:V} {kd:Fin 3} {tp l:Addr} {ps:List Int} {xs ys:List V} (h:LkG H v kd tp ps) (hl:H l=some (.lst xs)):LkG (L2.upd H l (.lst ys)) v kd tp ps:=by
 obtain ⟨lk,e,h1,h2,h3⟩:=h
 exact ⟨lk,e,ym (xf h1 hl (by intro z; cases z)) h1,ym (xf h2 hl (by intro z; cases z)) h2,h3⟩
def upN {α:Type} (g:Nat->α) (n:Nat) (x:α):Nat->α:=fun j=>if j=n then x else g j
theorem wg {α:Type} {g:Nat->α} {n:Nat} {x:α}:upN g n x n=x:=if_pos rfl
theorem wb {α:Type} {g:Nat->α} {n j:Nat} {x:α} (h:j < n):upN g n x j=g j:=if_neg (by omega)
theorem yqa (c:Int):∃ kk:Fin 3,atI [V.str "even",V.str "quick",V.str "run"] (c % 3)=some (V.str (kdS kk)):=by
 have h0:0 <= c % 3:=Int.emod_nonneg _ (by decide)
 have h1:c % 3 < 3:=Int.emod_lt_of_pos _ (by decide)
 generalize c % 3=z at h0 h1
 obtain rfl | rfl | rfl:z=0\/z=1\/z=2:=by omega
 ·exact ⟨0,rfl⟩
 ·exact ⟨1,rfl⟩
 ·exact ⟨2,rfl⟩
def jz (H:Hp) (n:Nat) (lk:Nat->Addr) (kd:Nat->Fin 3) (tp:Nat->Addr) (ps:Nat->List Int):Prop:=∀ i,i < n->LkG H (.ref (lk i)) (kd i) (tp i) (ps i)
theorem jz.same {H H':Hp} {n:Nat} {lk:Nat->Addr} {kd:Nat->Fin 3} {tp:Nat->Addr} {ps:Nat->List Int} (h:jz H n lk kd tp ps) (S:vh H H'):jz H' n lk kd tp ps:=fun i hi=>(h i hi).same S
structure Sd (K:W.Frag) (H:Hp) (v:V) (d:PyData) (k:Nat):Prop where
 rd:RdV K H v d
 lay:d.canLay0=true
 dep:d.depth <= k
 eq:PyData.eqv d d=true
structure Sds (K:W.Frag) (H:Hp) (xs:List V) (ds:List PyData) (k:Nat):Prop where
 rd:yix K H xs ds
 lay:PyData.canLayAll0 ds=true
 dep:PyData.depthAll ds <= k
 eq:PyData.eqvAll ds ds=true
theorem Sds.nil {K:W.Frag} {H:Hp} {k:Nat}:Sds K H [] [] k:=⟨.nil,rfl,Nat.zero_le _,by simp [PyData.eqvAll]⟩
theorem Sds.cons {K:W.Frag} {H:Hp} {v:V} {d:PyData} {xs:List V} {ds:List PyData} {k:Nat} (h:Sd K H v d k) (r:Sds K H xs ds k):Sds K H (v :: xs) (d :: ds) k:=by
 refine ⟨.cons h.rd r.rd,by simp [PyData.canLayAll0,h.lay,r.lay],?_,by simp [PyData.eqvAll,h.eq,r.eq]⟩
 have h1:=h.dep
 have h2:=r.dep
 simp only [PyData.depthAll]
 omega
theorem Sds.ints {K:W.Frag} {H:Hp} (ns:List Int) {k:Nat}:Sds K H (ns.map V.int) (ns.map PyData.int) k:=⟨zq ns,u9 ns,by rw [z6]; exact Nat.zero_le _,by rw [u8,decide_eq_true rfl]⟩
theorem Sd.lst {K:W.Frag} {H:Hp} {p:Addr} {xs:List V} {ds:List PyData} {k:Nat} (h:SqL K H p xs) (r:Sds K H xs ds k):Sd K H (.ref p) (.list ds) (k+1):=by
 refine ⟨.lst h r.rd,by simp [PyData.canLay0,r.lay],?_,by simp [PyData.eqv,r.eq]⟩
 have h2:=r.dep
 simp only [PyData.depth]
 omega
theorem Sd.up {K:W.Frag} {H:Hp} {v:V} {d:PyData} {k k':Nat} (h:Sd K H v d k) (hk:k <= k'):Sd K H v d k':=⟨h.rd,h.lay,Nat.le_trans h.dep hk,h.eq⟩
theorem vab {K:W.Frag} {g:Bool->Bool} {H:Hp} {Q:VK} {x y:V} {d:PyData} {k:Nat} (h1:Sd K H x d k) (h2:Sd K H y d k) (hk:k <= 60) (h:Q (.bl (g true)) H):yzn K g x y H Q:=by
 have hsh:SeqAt.shaped d=true:=by
  unfold SeqAt.shaped
  rw [Bool.and_eq_true]
  exact ⟨h1.lay,decide_eq_true (by have:=h1.dep; omega)⟩
 exact ⟨d,d,h1.rd,h2.rd,hsh,hsh,by rw [h1.eq]; exact h⟩
theorem vae:yn ["thing"] ["thing"] (yi vba):=⟨rfl,rfl,rfl,by decide +kernel,rfl,by decide +kernel,by decide +kernel⟩
def yfl (K:W.Frag):Sp:=fun vs H Q _=>∃ x n,vs=[x]/\x6 K H x (.type n)/\Q (.bl (zk x)) H
theorem yl5 (T:Txt K mg a):wc P w K mg base CX0 1 a.f_q1 a.d_q1 ["thing"] (yfl K):=by
 refine T.y_q1.F.ok vae (fun vs H Q E h=>?_) (fun cdv A outer s H vs Q E hr h=>?_)
 ·obtain ⟨x,n,rfl,_⟩:=h
  rfl
 ·obtain ⟨x,n,rfl,ty,k⟩:=h
  refine ⟨_,(yh (yw (ut (yp vg rfl T.z_isinstance (by decide +kernel) (yc (pv 0) (yc (xu (T:="int") rfl T.z_int (by decide +kernel)) yf (ya rfl)) (ya rfl))) (zy (yp3 (yp vg rfl T.z_isinstance (by decide +kernel) (yc (pv 0) (yc (xu (T:="bool") rfl T.z_bool (by decide +kernel)) yf (ya rfl)) (ya rfl)))))))),?_⟩
  try dsimp only [wa]
  refine yo (σ':=[some _]) rfl ?_
  walk_at "rd"
  refine zg ty (yk2 ty) ?_
  walk_at "rd"
  cases hx:ylp x with
  | false =>
   have e:zk x=false:=by
    cases x <;> first | rfl | cases hx
   rw [e] at k
   exact ymc k
  | true =>
   have e:zk x=!yf2 x:=by
    cases x <;> first | rfl | cases hx
   rw [e] at k
   refine ymf ?_
   walk_at "rd"
   refine zg ty (ygu ty) ?_
   walk_at "rd"
   exact k
theorem yzt:yn ["thing"] ["thing"] (yi vbb):=⟨rfl,rfl,rfl,by decide +kernel,rfl,by decide +kernel,by decide +kernel⟩
def yjv (K:W.Frag):Sp:=fun vs H Q _=>∃ x n,vs=[x]/\x6 K H x (.type n)/\Q (.bl (yao x)) H
theorem vai (T:Txt K mg a):wc P w K mg base CX0 2 a.f_q2 a.d_q2 ["thing"] (yjv K):=by
 refine T.y_q2.F.ok yzt (fun vs H Q E h=>?_) (fun cdv A outer s H vs Q E hr h=>?_)
 ·obtain ⟨x,n,rfl,_⟩:=h
  rfl
 ·obtain ⟨x,n,rfl,ty,k⟩:=h
  refine ⟨_,(yh (yw (ut (yv (yl5 T) (hr.mono (by decide)) rfl T.y_q1.m T.y_q1.F.kp T.y_q1.B .nil y7 (yc (pv 0) yf (ya rfl))) (zy (yaq uo uo yg (pv 0) yg))))),?_⟩
  try dsimp only [wa]
  refine yo (σ':=[some _]) rfl ?_
  walk_at "rd"
  refine ⟨x,n,rfl,ty,?_⟩
  walk_at "rd"
  cases hx:zk x with
  | false =>
   have e:yao x=false:=by
    cases x <;> first | rfl | cases hx
   rw [e] at k
   exact ymc k
  | true =>
   obtain ⟨i,rfl⟩:=uz hx
   refine ymf ?_
   walk_at "rd"
   refine zn (fun h0=>?_) (fun h0=>?_)
   ·walk_at "rd"
    have e:yao (.int i)=decide (i <= 1):=by simp [yao,h0]
    rw [e] at k
    exact k
   ·have e:yao (.int i)=false:=by simp [yao,h0]
    rw [e] at k
    exact k
theorem yzy:yn ["thing"] ["thing"] (yi va7):=⟨rfl,rfl,rfl,by decide +kernel,rfl,by decide +kernel,by decide +kernel⟩
def ydm (K:W.Frag):Sp:=fun vs H Q _=>∃ x n,vs=[x]/\x6 K H x (.type n)/\Q (.bl (chV x)) H
theorem yzw (T:Txt K mg a):wc P w K mg base CX0 2 a.f_q3 a.d_q3 ["thing"] (ydm K):=by
 refine T.y_q3.F.ok yzy (fun vs H Q E h=>?_) (fun cdv A outer s H vs Q E hr h=>?_)
 ·obtain ⟨x,n,rfl,_⟩:=h
  rfl
 ·obtain ⟨x,n,rfl,ty,k⟩:=h
  refine ⟨_,(yh (yw (ut (yv (yl5 T) (hr.mono (by decide)) rfl T.y_q1.m T.y_q1.F.kp T.y_q1.B .nil y7 (yc (pv 0) yf (ya rfl))) (zy (yaq uo uo (vn rfl T.c_LEAST) (pv 0) (yq uw (vn rfl T.c_ONE) (vn rfl T.c_LEAST))))))),?_⟩
  try dsimp only [wa]
  refine yo (σ':=[some _]) rfl ?_
  walk_at "rd"
  refine ⟨x,n,rfl,ty,?_⟩
  walk_at "rd"
  cases hx:zk x with
  | false =>
   have e:chV x=false:=by
    cases x <;> first | rfl | cases hx
   rw [e] at k
   exact ymc k
  | true =>
   obtain ⟨i,rfl⟩:=uz hx
   refine ymf ?_
   walk_at "rd"
   refine zn (fun h0=>?_) (fun h0=>?_)
   ·walk_at "rd"
    have e:chV (.int i)=decide (i <= 16777216 - 32768):=by simp [chV,h0]
    rw [e] at k
    exact k
   ·have e:chV (.int i)=false:=by simp [chV,h0]
    rw [e] at k
    exact k
theorem yzx:yn ["thing"] ["thing"] (yi vay):=⟨rfl,rfl,rfl,by decide +kernel,rfl,by decide +kernel,by decide +kernel⟩
def yh0 (K:W.Frag):Sp:=fun vs H Q _=>∃ x n,vs=[x]/\x6 K H x (.type n)/\Q (.bl (sgV x)) H
theorem yz7 (T:Txt K mg a):wc P w K mg base CX0 2 a.f_q4 a.d_q4 ["thing"] (yh0 K):=by
 refine T.y_q4.F.ok yzx (fun vs H Q E h=>?_) (fun cdv A outer s H vs Q E hr h=>?_)
 ·obtain ⟨x,n,rfl,_⟩:=h
  rfl
 ·obtain ⟨x,n,rfl,ty,k⟩:=h
  refine ⟨_,(yh (yw (ut (yv (yl5 T) (hr.mono (by decide)) rfl T.y_q1.m T.y_q1.F.kp T.y_q1.B .nil y7 (yc (pv 0) yf (ya rfl))) (zy (yaq uo uo yg (pv 0) yg))))),?_⟩
  try dsimp only [wa]
  refine yo (σ':=[some _]) rfl ?_
  walk_at "rd"
  refine ⟨x,n,rfl,ty,?_⟩
  walk_at "rd"
  cases hx:zk x with
  | false =>
   have e:sgV x=false:=by
    cases x <;> first | rfl | cases hx
   rw [e] at k
   exact ymc k
  | true =>
   obtain ⟨i,rfl⟩:=uz hx
   refine ymf ?_
   walk_at "rd"
   refine zn (fun h0=>?_) (fun h0=>?_)
   ·walk_at "rd"
    have e:sgV (.int i)=decide (i <= 255):=by simp [sgV,h0]
    rw [e] at k
    exact k
   ·have e:sgV (.int i)=false:=by simp [sgV,h0]
    rw [e] at k
    exact k
theorem yzs:yn ["thing","most"] ["thing","most"] (yi vbd):=⟨rfl,rfl,rfl,by decide +kernel,rfl,by decide +kernel,by decide +kernel⟩
def yxi (K:W.Frag):Sp:=fun vs H Q _=>∃ x n m,vs=[x,.int m]/\x6 K H x (.type n)/\((Bad K H x n m/\∀ H',vh H H'->Q (.bl false) H')\/∃ xs,yzj K H x xs m/\∀ H',vh H H'->Q (.bl true) H')
theorem yyv (T:Txt K mg a):wc P w K mg base CX0 3 a.f_q5 a.d_q5 ["thing","most"] (yxi K):=by
 refine T.y_q5.F.ok yzs (fun vs H Q E h=>?_) (fun cdv A outer s H vs Q E hr h=>?_)
 ·obtain ⟨x,n,m,rfl,_⟩:=h
  rfl
 ·obtain ⟨x,n,m,rfl,ty,h⟩:=h
  have key:(n≠"list"/\∀ H',vh H H'->Q (.bl false) H')\/∃ p xs,x=.ref p/\H p=some (.lst xs)/\yn0 K H xs/\xs.length <= 100000/\∀ H',vh H H'->Q (.bl (decide ((xs.length:Int) <= m) && xs.all sgV)) H':=by
   rcases h with ⟨h | ⟨p,xs,e,hp,t,hz,hb⟩,k⟩ | ⟨xs,⟨p,e,hp,t,hz,hb⟩,k⟩
   ·exact .inl ⟨h,k⟩
   ·exact .inr ⟨p,xs,e,hp,t,hz,fun H' S=>by rw [hb]; exact k H' S⟩
   ·exact .inr ⟨p,xs,e,hp,t,hz,fun H' S=>by rw [hb]; exact k H' S⟩
  refine ⟨_,(yh (yw (ut (yp vg rfl T.z_isinstance (by decide +kernel) (yc (pv 0) (yc (xu (T:="list") rfl T.z_list (by decide +kernel)) yf (ya rfl)) (ya rfl))) (ut (zw uo (yp yr rfl T.z_len (by decide +kernel) (yc (pv 0) yf (ya rfl))) (pv 1) (vd _)) (zy (yp (jo rfl) rfl T.z_all (by decide +kernel) (yc (uh rfl (v8 (pv 0)) (fun C s2 H2 fp=>(yv (yz7 T) (hr.mono (by decide)) rfl T.y_q4.m T.y_q4.F.kp T.y_q4.B .nil y7 (yc (pv 0) yf (ya rfl))))) yf (ya rfl)))))))),?_⟩
  try dsimp only [wa]
  refine yo (σ':=[some _,some _]) rfl ?_
  walk_at "rd"
  refine zg ty (yra ty) ?_
  walk_at "rd"
  rcases key with ⟨hn,k⟩ | ⟨p,xs,rfl,hp,tx,hz,k⟩
  ·refine ydj hn ?_
   walk_at "rd"
   exact k _ (vh.refl _)
  ·have hn:n="list":=by
    cases ty with
    | lst e=>rfl
    | frz e=>rfl
    | tup e=>rw [hp] at e; cases e
    | dK e=>rw [hp] at e; cases e
    | dT e=>rw [hp] at e; cases e
   refine ybn hn ?_
   walk_at "rd"
   refine uc (SqL.of hp) ?_
   walk_at "rd"
   refine zn (fun hm=>?_) (fun hm=>?_)
   ·rw [decide_eq_true hm,Bool.true_and] at k
    walk_at "rd"
    refine ⟨p,rfl,⟨_,SqL.of hp⟩,fun D hD=>?_⟩
    have nD:p≠D:=ye hp hD
    refine uf (K:=K) (a:=p) (xs:=xs) (fun i H5=>H5 D=some (.lst (((xs.take i).map sgV).map V.bl))/\vh H H5)
     ⟨yd,vj hD⟩ (fun i H5 _ q=>SqL.of (q.2 _ _ hp)) ?_ ?_
    ·rintro i y H5 hi hlt ⟨hD5,S5⟩
     walk_at "rd"
     obtain ⟨ky,ty5⟩:=tx y (List.mem_of_getElem? hi)
     refine ⟨y,ky,rfl,yb7 S5 ty5,?_⟩
     refine w9 hD5 (by rw [List.length_map,List.length_map,List.length_take]; exact ymm (by omega)) hlt ⟨yd.trans ?_,fun b o e=>ym (fun z=>?_) (S5 _ _ e)⟩
     ·rw [List.take_succ,hi]
      simp
     ·subst z
      rw [hD] at e
      cases e
    ·rintro H5 ⟨hD5,S5⟩
     walk_at "rd"
     refine ⟨D,_,rfl,SqL.of hD5,?_⟩
     rw [List.take_of_length_le (Nat.le_refl _),List.all_map]
     exact k _ S5
   ·rw [decide_eq_false hm,Bool.false_and] at k
    walk_at "rd"
    exact k _ (vh.refl _)
theorem yz9:yn ["thing"] ["thing"] (yi va1):=⟨rfl,rfl,rfl,by decide +kernel,rfl,by decide +kernel,by decide +kernel⟩
theorem yn3 (T:Txt K mg a):wc P w K mg base (CXe P w) 4 a.f_q6 a.d_q6 ["thing"] (yby K a.C_NT 1000):=by
 refine T.y_q6.F.okE yz9 (fun vs H Q E h=>?_) (fun cdv A outer s H vs Q E hr h=>?_)
 ·obtain ⟨x,n,rfl,_⟩:=h
  rfl
 ·obtain ⟨x,n,rfl,ty,h⟩:=h
  refine ⟨_,(yj (wo (wd (wq (yv (yyv T) (hr.mono (by decide)) rfl T.y_q5.m T.y_q5.F.kp T.y_q5.B .nil y7 (yc (pv 0) (yc (vn rfl T.c_MOST_SIGNS) yf (ya rfl)) (ya rfl))))) (yh (x3 rfl T.m_NT T.r_NT (yc x9 yf (ya rfl)))) ve) (yh (yw (xa ww rfl T.z_list (by decide +kernel) (yc (pv 0) yf (ya rfl)))))),?_⟩
  try dsimp only [wa]
  refine yo (σ':=[some _]) rfl ?_
  walk_at "rd"
  refine ⟨x,n,_,rfl,ty,?_⟩
  rcases h with ⟨hb,k⟩ | ⟨xs,hg,k⟩
  ·refine .inl ⟨hb,fun H1 S1=>?_⟩
   walk_at "rd"
   exact ⟨by walk_at "len",k _ S1⟩
  ·refine .inr ⟨xs,hg,fun H1 S1=>?_⟩
   obtain ⟨p,rfl,hp,_⟩:=hg
   walk_at "rd"
   refine ⟨p,xs,rfl,.inl (SqL.of (S1 _ _ hp)),fun r hr0=>?_⟩
   exact k r _ (S1.free hr0) yd (S1.trans (vj hr0))
theorem yzq:yn ["thing"] ["thing"] (yi vbf):=⟨rfl,rfl,rfl,by decide +kernel,rfl,by decide +kernel,by decide +kernel⟩
theorem yzd (T:Txt K mg a):wc P w K mg base (CXe P w) 4 a.f_q7 a.d_q7 ["thing"] (yby K a.C_NY 12000):=by
 refine T.y_q7.F.okE yzq (fun vs H Q E h=>?_) (fun cdv A outer s H vs Q E hr h=>?_)
 ·obtain ⟨x,n,rfl,_⟩:=h
  rfl
 ·obtain ⟨x,n,rfl,ty,h⟩:=h
  refine ⟨_,(yj (wo (wd (wq (yv (yyv T) (hr.mono (by decide)) rfl T.y_q5.m T.y_q5.F.kp T.y_q5.B .nil y7 (yc (pv 0) (yc (vn rfl T.c_MOST_BYTES) yf (ya rfl)) (ya rfl))))) (yh (x3 rfl T.m_NY T.r_NY (yc x9 yf (ya rfl)))) ve) (yh (yw (xa ww rfl T.z_list (by decide +kernel) (yc (pv 0) yf (ya rfl)))))),?_⟩
  try dsimp only [wa]
  refine yo (σ':=[some _]) rfl ?_
  walk_at "rd"
  refine ⟨x,n,_,rfl,ty,?_⟩
  rcases h with ⟨hb,k⟩ | ⟨xs,hg,k⟩
  ·refine .inl ⟨hb,fun H1 S1=>?_⟩
   walk_at "rd"
   exact ⟨by walk_at "len",k _ S1⟩
  ·refine .inr ⟨xs,hg,fun H1 S1=>?_⟩
   obtain ⟨p,rfl,hp,_⟩:=hg
   walk_at "rd"
   refine ⟨p,xs,rfl,.inl (SqL.of (S1 _ _ hp)),fun r hr0=>?_⟩
   exact k r _ (S1.free hr0) yd (S1.trans (vj hr0))
theorem yz8:yn ["thing"] ["thing"] (yi va6):=⟨rfl,rfl,rfl,by decide +kernel,rfl,by decide +kernel,by decide +kernel⟩
def yue:V->Bool
 | .int i=>decide (0 <= i) && decide (i <= 1000)
 | _=>false
def ynu (K:W.Frag) (C:Addr):Sp:=fun vs H Q E=>∃ x n,vs=[x]/\x6 K H x (.type n)/\(yue x=true->Q .non H)/\(yue x=false->E (.ref C) none H)
theorem vaf (T:Txt K mg a):wc P w K mg base (CXe P w) 2 a.f_q8 a.d_q8 ["thing"] (ynu K a.C_NoMost):=by
 refine T.y_q8.F.okE yz8 (fun vs H Q E h=>?_) (fun cdv A outer s H vs Q E hr h=>?_)
 ·obtain ⟨x,n,rfl,_⟩:=h
  rfl
 ·obtain ⟨x,n,rfl,ty,k1,k2⟩:=h
  refine ⟨_,(yh (wo (PW.pt (uk (wd (wq (yv (yl5 T) (hr.mono (by decide)) rfl T.y_q1.m T.y_q1.F.kp T.y_q1.B .nil y7 (yc (pv 0) yf (ya rfl))))) (u5 (wd (jv uo uo yg (pv 0) (vn rfl T.c_MOST_SIGNS)))))) (yh (x3 rfl T.m_NoMost T.r_NoMost (yc x9 yf (ya rfl)))) ve)),?_⟩
  try dsimp only [wa]
  refine yo (σ':=[some _]) rfl ?_
  walk_at "rd"
  refine ⟨x,n,rfl,ty,?_⟩
  walk_at "rd"
  cases hx:zk x with
  | false =>
   have e:yue x=false:=by
    cases x <;> first | rfl | cases hx
   walk_at "rd"
   exact ⟨by walk_at "len",k2 e⟩
  | true =>
   obtain ⟨i,rfl⟩:=uz hx
   walk_at "rd"
   refine zn (fun h0=>?_) (fun h0=>?_)
   ·walk_at "rd"
    refine vb1 (fun h1=>?_) (fun h1=>?_)
    ·walk_at "rd"
     exact k1 (by simp [yue,h0,h1])
    ·walk_at "rd"
     exact ⟨by walk_at "len",k2 (by simp [yue,h1])⟩
   ·walk_at "rd"
    exact ⟨by walk_at "len",k2 (by simp [yue,h0])⟩
theorem yz4:yn ["thing"] ["thing"] (yi va8):=⟨rfl,rfl,rfl,by decide +kernel,rfl,by decide +kernel,by decide +kernel⟩
def yaz (K:W.Frag) (C:Addr):Sp:=fun vs H Q E=>∃ x n,vs=[x]/\x6 K H x (.type n)/\(chV x=true->Q .non H)/\(chV x=false->E (.ref C) none H)
theorem ytw (T:Txt K mg a):wc P w K mg base (CXe P w) 3 a.f_q9 a.d_q9 ["thing"] (yaz K a.C_NC):=by
 refine T.y_q9.F.okE yz4 (fun vs H Q E h=>?_) (fun cdv A outer s H vs Q E hr h=>?_)
 ·obtain ⟨x,n,rfl,_⟩:=h
  rfl
 ·obtain ⟨x,n,rfl,ty,k1,k2⟩:=h
  refine ⟨_,(yh (wo (wd (wq (yv (yzw T) (hr.mono (by decide)) rfl T.y_q3.m T.y_q3.F.kp T.y_q3.B .nil y7 (yc (pv 0) yf (ya rfl))))) (yh (x3 rfl T.m_NC T.r_NC (yc x9 yf (ya rfl)))) ve)),?_⟩
  try dsimp only [wa]
  refine yo (σ':=[some _]) rfl ?_
  walk_at "rd"
  refine ⟨x,n,rfl,ty,?_⟩
  walk_at "rd"
  cases hx:chV x with
  | false =>
   walk_at "rd"
   exact ⟨by walk_at "len",k2 hx⟩
  | true =>
   walk_at "rd"
   exact k1 hx
theorem yyj:yn ["thing"] ["thing"] (yi ysg):=⟨rfl,rfl,rfl,by decide +kernel,rfl,by decide +kernel,by decide +kernel⟩
def ydn (K:W.Frag) (C:Addr):Sp:=fun vs H Q E=>∃ x n,vs=[x]/\x6 K H x (.type n)/\(yao x=true->Q .non H)/\(yao x=false->E (.ref C) none H)
theorem ybk (T:Txt K mg a):wc P w K mg base (CXe P w) 3 a.f_q10 a.d_q10 ["thing"] (ydn K a.C_NB):=by
 refine T.y_q10.F.okE yyj (fun vs H Q E h=>?_) (fun cdv A outer s H vs Q E hr h=>?_)
 ·obtain ⟨x,n,rfl,_⟩:=h
  rfl
 ·obtain ⟨x,n,rfl,ty,k1,k2⟩:=h
  refine ⟨_,(yh (wo (wd (wq (yv (vai T) (hr.mono (by decide)) rfl T.y_q2.m T.y_q2.F.kp T.y_q2.B .nil y7 (yc (pv 0) yf (ya rfl))))) (yh (x3 rfl T.m_NB T.r_NB (yc x9 yf (ya rfl)))) ve)),?_⟩
  try dsimp only [wa]
  refine yo (σ':=[some _]) rfl ?_
  walk_at "rd"
  refine ⟨x,n,rfl,ty,?_⟩
  walk_at "rd"
  cases hx:yao x with
  | false =>
   walk_at "rd"
   exact ⟨by walk_at "len",k2 hx⟩
  | true =>
   walk_at "rd"
   exact k1 hx
theorem yu4:yn ["chance","bit"] ["chance","bit"] (yi yt2):=⟨rfl,rfl,rfl,by decide +kernel,rfl,by decide +kernel,by decide +kernel⟩
def ymg (K:W.Frag) (C D:Addr):Sp:=fun vs H Q E=>∃ x n y m,vs=[x,y]/\x6 K H x (.type n)/\x6 K H y (.type m)/\(chV x=false->E (.ref C) none H)/\(chV x=true->yao y=false->E (.ref D) none H) /\
 (∀ c b,x=.int c->y=.int b->chV x=true->yao y=true->Q (.int (gvv c b)) H)
theorem ypz (T:Txt K mg a):wc P w K mg base (CXe P w) 4 a.f_q11 a.d_q11 ["chance","bit"] (ymg K a.C_NC a.C_NB):=by
 refine T.y_q11.F.okE yu4 (fun vs H Q E h=>?_) (fun cdv A outer s H vs Q E hr h=>?_)
 ·obtain ⟨x,n,y,m,rfl,_⟩:=h
  rfl
 ·obtain ⟨x,n,y,m,rfl,tx,ty,k1,k2,k3⟩:=h
  refine ⟨_,(yj (y9 (vk (ytw T) (hr.mono (by decide)) rfl T.y_q9.m T.y_q9.F.kp T.y_q9.B .nil v7 (yc (pv 0) yf (ya rfl)))) (yj (y9 (vk (ybk T) (hr.mono (by decide)) rfl T.y_q10.m T.y_q10.F.kp T.y_q10.B .nil v7 (yc (pv 1) yf (ya rfl)))) (yh (yw (jw (yz zl (pv 1) yg (vd _)) (pv 0) (yq uw (vn rfl T.c_ONE) (pv 0))))))),?_⟩
  try dsimp only [wa]
  refine yo (σ':=[some _,some _]) rfl ?_
  walk_at "rd"
  refine ⟨x,n,rfl,tx,fun hx=>?_,k1⟩
  walk_at "rd"
  refine ⟨y,m,rfl,ty,fun hy=>?_,k2 hx⟩
  obtain ⟨c,rfl,c1,c2⟩:=yf1 hx
  obtain ⟨b,rfl,b1,b2⟩:=ygl hy
  walk_at "rd"
  have k:=k3 c b rfl rfl hx hy
  unfold gvv at k
  refine zn (fun hb=>?_) (fun hb=>?_)
  ·rw [if_pos hb] at k
   walk_at "rd"
   exact k
  ·rw [if_neg hb] at k
   walk_at "rd"
   exact k
theorem yxm:yn ["sign"] ["sign"] (yi yty):=⟨rfl,rfl,rfl,by decide +kernel,rfl,by decide +kernel,by decide +kernel⟩
def yh9 (K:W.Frag):Sp:=fun vs H Q _=>∃ s:Int,vs=[.int s]/\∀ r H',H r=none->H' r=some (.lst ((b8 s).map V.int))->vh H H'->Q (.ref r) H'
theorem yxs (T:Txt K mg a):wc P w K mg base CX0 1 a.f_q12 a.d_q12 ["sign"] (yh9 K):=by
 refine T.y_q12.F.ok yxm (fun vs H Q E h=>?_) (fun cdv A outer s H vs Q E hr h=>?_)
 ·obtain ⟨s,rfl,_⟩:=h
  rfl
 ·obtain ⟨s',rfl,k⟩:=h
  refine ⟨_,(yh (yw (ur (js:=[0]) (ys:=["sign"]) rfl (yha (yfv rfl T.m_WORTHS)) (fun C s2 H2 fp=>(yq wt (yq vf (pv 1) (pv 0)) yg)) rfl rfl (hyc:=(all_cons rfl vy)) (hrel:=(all_cons rfl vy))))),?_⟩
  try dsimp only [wa]
  refine yo (σ':=[some _]) rfl ?_
  walk_at "rd"
  refine ⟨a.W_WORTHS,rfl,⟨_,T.w_WORTHS H⟩,fun D hD=>?_⟩
  refine ybv (wV s') (T.w_WORTHS H) hD (fun i y H2 hy S2 hD2=>?_) (fun H2 S2 hD2=>?_)
  ·obtain ⟨w',hw',rfl,hw2⟩:∃ w',0 < w'/\y=V.int w'/\w' <= 128:=by
    have hm:=List.mem_of_getElem? hy
    simp only [List.mem_cons,List.not_mem_nil,or_false] at hm
    rcases hm with rfl | rfl | rfl | rfl | rfl | rfl | rfl | rfl <;> exact ⟨_,by decide,rfl,by decide⟩
   walk_at "rd"
   exact Mp.done hD (by show 8 < sizeLine; decide) hy S2 hD2 rfl
  ·exact k D H2 hD hD2 S2
theorem yk8:yn ["text","bits","sign"] ["text"] (yi ys4):=⟨rfl,rfl,rfl,by decide +kernel,rfl,by decide +kernel,by decide +kernel⟩
def yyd (K:W.Frag):Sp:=fun vs H Q _=>∃ (t:Addr) (ns:List Int),vs=[.ref t]/\H t=some (.lst (ns.map V.int))/\Sgs ns/\ns.length <= 1000/\∀ r H',H r=none->H' r=some (.lst ((dec ns).map V.int))->vh H H'->Q (.ref r) H'
theorem yln (T:Txt K mg a):wc P w K mg base CX0 5 a.f_q13 a.d_q13 ["text"] (yyd K):=by
 refine T.y_q13.F.ok yk8 (fun vs H Q E h=>?_) (fun cdv A outer s H vs Q E hr h=>?_)
 ·obtain ⟨t,ns,rfl,_⟩:=h
  rfl
 ·obtain ⟨t,ns,rfl,ht,hs,hz,k⟩:=h
  refine ⟨_,(yj (y6 (i:=1) yk8.nd rfl (Or.inl rfl) (w4 yf)) (yj (uv PassesOwn.never rfl (v8 (vk (yn3 T) (hr.mono (by decide)) rfl T.y_q6.m T.y_q6.F.kp T.y_q6.B .nil wf (yc (pv 0) yf (ya rfl)))) (vz (i:=2) yk8.nd rfl (Or.inl rfl)) (yj (y9 (yal PySem.F.plainAttrs_list PySem.F.slot_list_append PySem.F.type_list_append wn (pv 1) (yc yg yf (ya rfl)))) (yh (y9 (yal PySem.F.plainAttrs_list PySem.F.slot_list_extend PySem.F.type_list_extend yi0 (pv 1) (yc (yv (yxs T) (hr.mono (by decide)) rfl T.y_q12.m T.y_q12.F.kp T.y_q12.B .nil y7 (yc (pv 2) yf (ya rfl))) yf (ya rfl))))))) (yj (y9 (yal PySem.F.plainAttrs_list PySem.F.slot_list_append PySem.F.type_list_append wn (pv 1) (yc yg yf (ya rfl)))) (yh (yw (pv 1)))))),?_⟩
  try dsimp only [wa]
  refine yo (σ':=[some _,none,none]) rfl ?_
  walk_at "rd"
  refine ⟨by walk_at "len",fun r hr0=>?_⟩
  with_reducible first | refine y8 hr0 fun H1 S1 hr1=>?_ | refine new_obj hr0 fun H1 S1 hr1=>?_
  walk_at "rd"
  refine ⟨.ref t,_,rfl,.lst (S1 _ _ ht),.inr ⟨ns.map V.int,yc0 (S1 _ _ ht) hs hz,fun c H2 hc0 hc2 S2=>?_⟩⟩
  have S12:=S1.trans S2
  refine ⟨c,rfl,⟨_,SqL.of hc2⟩,ua (K:=K) (a:=c) (xs:=ns.map V.int) (fun i σ2 G=>∃ v,σ2=[some (.ref t),some (.ref r),v]/\G r=some (.lst ((yak (ns.take i)).map V.int))/\G c=some (.lst (ns.map V.int))/\vh H G)
   ⟨_,rfl,S2 _ _ hr1,hc2,S12⟩ (fun i σ2 G _ ⟨_,_,_,z,_⟩=>SqL.of z) ?_ ?_⟩
  ·rintro i y σ2 G hi ⟨v,rfl,hrG,hcG,SG⟩
   obtain ⟨z,rfl,hzm,hzi,hil⟩:=x8 hi
   have hcr:c≠r:=fun e=>by rw [e,hr1] at hc0; cases hc0
   have hlen:(List.map V.int (yak (ns.take i))).length <= 9000:=by rw [List.length_map,uq,List.length_take]; omega
   walk_at "rd"
   refine yab hrG ?_
   walk_at "rd"
   refine xn hrG (vq (by omega)) ?_
   have SG1:vh H (upd G r (.lst (List.map V.int (yak (ns.take i))++[V.int 1]))):=fun b o e=>ym (ye e hr0) (SG b o e)
   have hc1:upd G r (.lst (List.map V.int (yak (ns.take i))++[V.int 1])) c=some (.lst (ns.map V.int)):=ym hcr hcG
   have hr1':upd G r (.lst (List.map V.int (yak (ns.take i))++[V.int 1])) r=some (.lst (List.map V.int (yak (ns.take i)++[1]))):=by rw [yd,List.map_append]; rfl
   generalize upd G r (.lst (List.map V.int (yak (ns.take i))++[V.int 1]))=G1 at SG1 hc1 hr1' ⊢
   walk_at "rd"
   refine yab hr1' ?_
   walk_at "rd"
   refine ⟨z,rfl,fun q G2 hq0 hq2 T2=>?_⟩
   walk_at "rd"
   have hr2:=T2 _ _ hr1'
   refine ⟨r,q,_,_,rfl,rfl,hr2,hq2,ybg (by rw [List.length_map,List.length_map,List.length_append,yok]; rw [List.length_map] at hlen; show _+1+8 <= _; omega),?_⟩
   walk_at "rd"
   refine ⟨_,rfl,?_,?_,fun b o e=>ym (ye e hr0) (T2 _ _ (SG1 b o e))⟩
   ·rw [yd,z0 hzi,ybc,ymq,List.append_assoc]
    rfl
   ·exact ym hcr (T2 _ _ hc1)
  ·rintro σ2 G ⟨v,rfl,hrG,hcG,SG⟩
   rw [List.length_map,List.take_length] at hrG
   walk_at "rd"
   refine yab hrG ?_
   walk_at "rd"
   refine xn hrG (vq (by rw [List.length_map,uq]; omega)) ?_
   walk_at "rd"
   refine k r _ hr0 ?_ fun b o e=>ym (ye e hr0) (SG b o e)
   rw [yd,yl7,List.map_append]
   rfl
theorem ywh:yn ["self"] ["self"] (yi ys5):=⟨rfl,rfl,rfl,by decide +kernel,rfl,by decide +kernel,by decide +kernel⟩
theorem yv5 (T:Txt K mg a):wc P w K mg base CX0 1 a.f_q14 a.d_q14 ["self"] (yc9 a.C_Even (xj (.int 0) (.int 0))):=by
 refine T.y_q14.F.ok ywh (fun vs H Q E h=>?_) (fun cdv A outer s H vs Q E hr h=>?_)
 ·obtain ⟨p,dx,rfl,_⟩:=h
  rfl
 ·obtain ⟨p,dx,rfl,hp,k⟩:=h
  refine ⟨_,(yj (vo (pv 0) yg rfl) (yh (vo (pv 0) yg rfl))),?_⟩
  try dsimp only [wa]
  refine yo (σ':=[some _]) rfl ?_
  walk_at "rd"
  exact k _ yd (But.upd.trans But.upd)
theorem yuz:yn ["self"] ["self"] (yi yt9):=⟨rfl,rfl,rfl,by decide +kernel,rfl,by decide +kernel,by decide +kernel⟩
theorem yvd (T:Txt K mg a):wc P w K mg base CX0 1 a.f_q15 a.d_q15 ["self"] (ud (oS a) yzk):=by
 refine T.y_q15.F.ok yuz (fun vs H Q E h=>?_) (fun cdv A outer s H vs Q E hr h=>?_)
 ·obtain ⟨p,dx,s,rfl,_⟩:=h
  rfl
 ·obtain ⟨p,dx,s',rfl,hg,hs,hp,k⟩:=h
  cases s' with
  | ev n o =>
   obtain ⟨h1,h2,h3⟩:=hs
   have hp:H p=some (.ins a.C_Even dx (xj (.int n) (.int o))):=hp
   refine ⟨_,(yh (yw (yq vf (yq wj (yq v6 (yq wj yg (yx (pv 0) rfl)) yg) (vn rfl T.c_ONE)) (yq v6 (yq wj yg (yq v6 (yx (pv 0) rfl) (yx (pv 0) rfl))) yg)))),?_⟩
   try dsimp only [wa]
   refine yo (σ':=[some _]) rfl ?_
   walk_at "rd"
   exact k
  | qk _=>exact hg.elim
  | rn _ _=>exact hg.elim
theorem yxx:yn ["self","bit"] ["self","bit"] (yi ysf):=⟨rfl,rfl,rfl,by decide +kernel,rfl,by decide +kernel,by decide +kernel⟩
theorem yxc (T:Txt K mg a):wc P w K mg base (CXe P w) 4 a.f_q16 a.d_q16 ["self","bit"] (z9 K (oS a) yzk a.C_NB):=by
 refine T.y_q16.F.okE yxx (fun vs H Q E h=>?_) (fun cdv A outer s H vs Q E hr h=>?_)
 ·obtain ⟨p,dx,s,x,n,rfl,_⟩:=h
  rfl
 ·obtain ⟨p,dx,s',x,nm,rfl,hg,hs,hp,ty,k1,k2⟩:=h
  cases s' with
  | ev n o =>
   obtain ⟨h1,h2,h3⟩:=hs
   have hp:H p=some (.ins a.C_Even dx (xj (.int n) (.int o))):=hp
   refine ⟨_,(yj (y9 (vk (ybk T) (hr.mono (by decide)) rfl T.y_q10.m T.y_q10.F.kp T.y_q10.B .nil v7 (yc (pv 1) yf (ya rfl)))) (yj (wo (yz zl (pv 1) yg (vd _)) (yh (vo (pv 0) (yq v6 (yx (pv 0) rfl) yg) rfl)) (yh (vo (pv 0) (yq v6 (yx (pv 0) rfl) yg) rfl))) (yh (wo (yz yn2 (yq v6 (yx (pv 0) rfl) (yx (pv 0) rfl)) (vn rfl T.c_MOST_COUNTED) (vd _)) (yj (vo (pv 0) (yq vf (yq v6 (yx (pv 0) rfl) yg) yg) rfl) (yh (vo (pv 0) (yq vf (yq v6 (yx (pv 0) rfl) yg) yg) rfl))) ve)))),?_⟩
   try dsimp only [wa]
   refine yo (σ':=[some _,some _]) rfl ?_
   walk_at "rd"
   refine ⟨x,nm,rfl,ty,fun hx=>?_,k2⟩
   obtain ⟨b,rfl,b0,b1⟩:=yhe hx
   have k:=k1 b rfl b0 b1
   unfold Slt.see at k
   dsimp only at k
   walk_at "rd"
   refine zn (fun hb=>?_) (fun hb=>?_)
   ·rw [if_pos hb] at k
    unfold yf6 at k
    walk_at "rd"
    refine zn (fun hz=>?_) (fun hz=>?_)
    ·rw [if_pos hz] at k
     walk_at "rd"
     exact k _ yd ((But.upd.trans But.upd).trans But.upd)
    ·rw [if_neg hz] at k
     walk_at "rd"
     exact k _ yd But.upd
   ·rw [if_neg hb] at k
    unfold yf6 at k
    walk_at "rd"
    refine zn (fun hz=>?_) (fun hz=>?_)
    ·rw [if_pos hz] at k
     walk_at "rd"
     exact k _ yd ((But.upd.trans But.upd).trans But.upd)
    ·rw [if_neg hz] at k
     walk_at "rd"
     exact k _ yd But.upd
  | qk _=>exact hg.elim
  | rn _ _=>exact hg.elim
theorem ywj:yn ["self"] ["self"] (yi ysv):=⟨rfl,rfl,rfl,by decide +kernel,rfl,by decide +kernel,by decide +kernel⟩
theorem yx8 (T:Txt K mg a):wc P w K mg base CX0 1 a.f_q17 a.d_q17 ["self"] (yc9 a.C_Quick (xp (.int 8388608))):=by
 refine T.y_q17.F.ok ywj (fun vs H Q E h=>?_) (fun cdv A outer s H vs Q E hr h=>?_)
 ·obtain ⟨p,dx,rfl,_⟩:=h
  rfl
 ·obtain ⟨p,dx,rfl,hp,k⟩:=h
  refine ⟨_,(yh (vo (pv 0) (yq vf (vn rfl T.c_ONE) yg) rfl)),?_⟩
  try dsimp only [wa]
  refine yo (σ':=[some _]) rfl ?_
  walk_at "rd"
  exact k _ yd But.upd
theorem yw7:yn ["self"] ["self"] (yi ysd):=⟨rfl,rfl,rfl,by decide +kernel,rfl,by decide +kernel,by decide +kernel⟩
theorem ywv (T:Txt K mg a):wc P w K mg base CX0 1 a.f_q18 a.d_q18 ["self"] (ud (oS a) yzp):=by
 refine T.y_q18.F.ok yw7 (fun vs H Q E h=>?_) (fun cdv A outer s H vs Q E hr h=>?_)
 ·obtain ⟨p,dx,s,rfl,_⟩:=h
  rfl
 ·obtain ⟨p,dx,s',rfl,hg,hs,hp,k⟩:=h
  cases s' with
  | qk h0 =>
   have hp:H p=some (.ins a.C_Quick dx (xp (.int h0))):=hp
   refine ⟨_,(yh (yw (yx (pv 0) rfl))),?_⟩
   try dsimp only [wa]
   refine yo (σ':=[some _]) rfl ?_
   walk_at "rd"
   exact k
  | ev _ _=>exact hg.elim
  | rn _ _=>exact hg.elim
theorem ylw:yn ["self","bit","moved"] ["self","bit"] (yi ysu):=⟨rfl,rfl,rfl,by decide +kernel,rfl,by decide +kernel,by decide +kernel⟩
theorem yw4 (T:Txt K mg a):wc P w K mg base (CXe P w) 4 a.f_q19 a.d_q19 ["self","bit"] (z9 K (oS a) yzp a.C_NB):=by
 refine T.y_q19.F.okE ylw (fun vs H Q E h=>?_) (fun cdv A outer s H vs Q E hr h=>?_)
 ·obtain ⟨p,dx,s,x,n,rfl,_⟩:=h
  rfl
 ·obtain ⟨p,dx,s',x,nm,rfl,hg,hs,hp,ty,k1,k2⟩:=h
  cases s' with
  | qk h0 =>
   obtain ⟨h1,h2⟩:=hs
   have hp:H p=some (.ins a.C_Quick dx (xp (.int h0))):=hp
   refine ⟨_,(yj (y9 (vk (ybk T) (hr.mono (by decide)) rfl T.y_q10.m T.y_q10.F.kp T.y_q10.B .nil v7 (yc (pv 1) yf (ya rfl)))) (yj (wo (yz zl (pv 1) yg (vd _)) (yh (y6 (i:=2) ylw.nd rfl (Or.inl rfl) (yq v6 (yx (pv 0) rfl) (yq vf (yq uw (vn rfl T.c_ONE) (yx (pv 0) rfl)) yg)))) (yh (y6 (i:=2) ylw.nd rfl (Or.inl rfl) (yq uw (yx (pv 0) rfl) (yq vf (yx (pv 0) rfl) yg))))) (yh (vo (pv 0) (yp (yeg rfl) rfl T.z_min (by decide +kernel) (yc (yp (yd8 rfl) rfl T.z_max (by decide +kernel) (yc (pv 2) (yc (vn rfl T.c_LEAST) yf (ya rfl)) (ya rfl))) (yc (yq uw (vn rfl T.c_ONE) (vn rfl T.c_LEAST)) yf (ya rfl)) (ya rfl))) rfl)))),?_⟩
   try dsimp only [wa]
   refine yo (σ':=[some _,some _,none]) rfl ?_
   walk_at "rd"
   refine ⟨x,nm,rfl,ty,fun hx=>?_,k2⟩
   obtain ⟨b,rfl,b0,b1⟩:=yhe hx
   have k:=k1 b rfl b0 b1
   unfold Slt.see at k
   dsimp only at k
   walk_at "rd"
   refine zn (fun hb=>?_) (fun hb=>?_)
   ·rw [if_pos hb] at k
    walk_at "rd"
    refine ⟨_,_,rfl,?_⟩
    walk_at "rd"
    refine ⟨_,_,rfl,?_⟩
    walk_at "rd"
    exact k _ yd But.upd
   ·rw [if_neg hb] at k
    walk_at "rd"
    refine ⟨_,_,rfl,?_⟩
    walk_at "rd"
    refine ⟨_,_,rfl,?_⟩
    walk_at "rd"
    exact k _ yd But.upd
  | ev _ _=>exact hg.elim
  | rn _ _=>exact hg.elim
theorem yxh:yn ["self"] ["self"] (yi ysh):=⟨rfl,rfl,rfl,by decide +kernel,rfl,by decide +kernel,by decide +kernel⟩
theorem yws (T:Txt K mg a):wc P w K mg base CX0 1 a.f_q20 a.d_q20 ["self"] (yc9 a.C_Run (u7 (.int 1) (.int 0))):=by
 refine T.y_q20.F.ok yxh (fun vs H Q E h=>?_) (fun cdv A outer s H vs Q E hr h=>?_)
 ·obtain ⟨p,dx,rfl,_⟩:=h
  rfl
 ·obtain ⟨p,dx,rfl,hp,k⟩:=h
  refine ⟨_,(yj (vo (pv 0) yg rfl) (yh (vo (pv 0) yg rfl))),?_⟩
  try dsimp only [wa]
  refine yo (σ':=[some _]) rfl ?_
  walk_at "rd"
  exact k _ yd (But.upd.trans But.upd)
theorem yoy:yn ["self","given"] ["self"] (yi ytl):=⟨rfl,rfl,rfl,by decide +kernel,rfl,by decide +kernel,by decide +kernel⟩
theorem yxd (T:Txt K mg a):wc P w K mg base CX0 1 a.f_q21 a.d_q21 ["self"] (ud (oS a) yzo):=by
 refine T.y_q21.F.ok yoy (fun vs H Q E h=>?_) (fun cdv A outer s H vs Q E hr h=>?_)
 ·obtain ⟨p,dx,s,rfl,_⟩:=h
  rfl
 ·obtain ⟨p,dx,s',rfl,hg,hs,hp,k⟩:=h
  cases s' with
  | rn l n =>
   obtain ⟨h1,h2,h3,h4⟩:=hs
   have hp:H p=some (.ins a.C_Run dx (u7 (.int l) (.int n))):=hp
   refine ⟨_,(yj (y6 (i:=1) yoy.nd rfl (Or.inl rfl) (yq vf (yq wj (yq v6 (yq wj yg (yx (pv 0) rfl)) yg) (vn rfl T.c_ONE)) (yq v6 (yq wj yg (yx (pv 0) rfl)) yg))) (yh (yw (jw (yz zl (yx (pv 0) rfl) yg (vd _)) (pv 1) (yq uw (vn rfl T.c_ONE) (pv 1)))))),?_⟩
   try dsimp only [wa]
   refine yo (σ':=[some _,none]) rfl ?_
   walk_at "rd"
   have k:Q (.int (if l=1 then yaj n else 16777216 - yaj n)) H:=k
   refine zn (fun hb=>?_) (fun hb=>?_)
   ·rw [if_pos hb] at k
    walk_at "rd"
    exact k
   ·rw [if_neg hb] at k
    walk_at "rd"
    exact k
  | ev _ _=>exact hg.elim
  | qk _=>exact hg.elim
theorem yuw:yn ["self","bit"] ["self","bit"] (yi ytd):=⟨rfl,rfl,rfl,by decide +kernel,rfl,by decide +kernel,by decide +kernel⟩
theorem yuv (T:Txt K mg a):wc P w K mg base (CXe P w) 4 a.f_q22 a.d_q22 ["self","bit"] (z9 K (oS a) yzo a.C_NB):=by
 refine T.y_q22.F.okE yuw (fun vs H Q E h=>?_) (fun cdv A outer s H vs Q E hr h=>?_)
 ·obtain ⟨p,dx,s,x,n,rfl,_⟩:=h
  rfl
 ·obtain ⟨p,dx,s',x,nm,rfl,hg,hs,hp,ty,k1,k2⟩:=h
  cases s' with
  | rn l n =>
   obtain ⟨h1,h2,h3,h4⟩:=hs
   have hp:H p=some (.ins a.C_Run dx (u7 (.int l) (.int n))):=hp
   refine ⟨_,(yj (y9 (vk (ybk T) (hr.mono (by decide)) rfl T.y_q10.m T.y_q10.F.kp T.y_q10.B .nil v7 (yc (pv 1) yf (ya rfl)))) (yh (wo (yz zl (pv 1) (yx (pv 0) rfl) (vd _)) (yh (vo (pv 0) (yp (yeg rfl) rfl T.z_min (by decide +kernel) (yc (yq v6 (yx (pv 0) rfl) yg) (yc (vn rfl T.c_MOST_COUNTED) yf (ya rfl)) (ya rfl))) rfl)) (yj (vo (pv 0) (pv 1) rfl) (yh (vo (pv 0) yg rfl)))))),?_⟩
   try dsimp only [wa]
   refine yo (σ':=[some _,some _]) rfl ?_
   walk_at "rd"
   refine ⟨x,nm,rfl,ty,fun hx=>?_,k2⟩
   obtain ⟨b,rfl,b0,b1⟩:=yhe hx
   have k:=k1 b rfl b0 b1
   unfold Slt.see at k
   dsimp only at k
   walk_at "rd"
   refine zn (fun hb=>?_) (fun hb=>?_)
   ·rw [if_pos hb] at k
    walk_at "rd"
    refine ⟨_,_,rfl,?_⟩
    walk_at "rd"
    exact k _ yd But.upd
   ·rw [if_neg hb] at k
    walk_at "rd"
    exact k _ yd (But.upd.trans But.upd)
  | ev _ _=>exact hg.elim
  | qk _=>exact hg.elim
theorem yyb:yn ["kind"] ["kind"] (yi yta):=⟨rfl,rfl,rfl,by decide +kernel,rfl,by decide +kernel,by decide +kernel⟩
def yh8 (a:Ads):Sp:=fun vs H Q _=>∃ k:Fin 3,vs=[.str (kdS k)]/\∀ p dx H',H p=none->H' p=some (oS a dx (kd0 k))->vh H H'->Q (.ref p) H'
theorem yve (T:Txt K mg a):wc P w K mg base CX0 3 a.f_q23 a.d_q23 ["kind"] (yh8 a):=by
 refine T.y_q23.F.ok yyb (fun vs H Q E h=>?_) (fun cdv A outer s H vs Q E hr h=>?_)
 ·obtain ⟨k,rfl,_⟩:=h
  rfl
 ·obtain ⟨kk,rfl,k⟩:=h
  refine ⟨_,(yj (wo (yz zl (pv 0) x9 (vd _)) (yh (yw (jn T.k_Even (yv5 T) (hr.mono (by decide)) rfl T.m_Even T.y_q14.B .nil y7))) ve) (yj (wo (yz zl (pv 0) x9 (vd _)) (yh (yw (jn T.k_Quick (yx8 T) (hr.mono (by decide)) rfl T.m_Quick T.y_q17.B .nil y7))) ve) (yj (wo (yz zl (pv 0) x9 (vd _)) (yh (yw (jn T.k_Run (yws T) (hr.mono (by decide)) rfl T.m_Run T.y_q20.B .nil y7))) ve) (yh ycz)))),?_⟩
  try dsimp only [wa]
  refine yo (σ':=[some _]) rfl ?_
  walk_at "rd"
  refine ⟨rfl,?_⟩
  match kk with
  | 0 =>
   refine ⟨_,rfl,ybn rfl ?_⟩
   walk_at "rd"
   intro p dx np ndx ne
   refine ⟨p,dx,rfl,yd,fun H1 hp1 B1=>⟨rfl,?_⟩⟩
   exact k p dx H1 np hp1 fun b o e=>B1 b o (by rw [yu (ye e np),yu (ye e ndx)]; exact e) (ye e np)
  | 1 =>
   refine ⟨_,rfl,ydj (by intro z; injection z with z; revert z; decide +kernel) ?_⟩
   walk_at "rd"
   refine ⟨rfl,?_⟩
   refine ⟨_,rfl,ybn rfl ?_⟩
   walk_at "rd"
   intro p dx np ndx ne
   refine ⟨p,dx,rfl,yd,fun H1 hp1 B1=>⟨rfl,?_⟩⟩
   exact k p dx H1 np hp1 fun b o e=>B1 b o (by rw [yu (ye e np),yu (ye e ndx)]; exact e) (ye e np)
  | 2 =>
   refine ⟨_,rfl,ydj (by intro z; injection z with z; revert z; decide +kernel) ?_⟩
   walk_at "rd"
   refine ⟨rfl,?_⟩
   refine ⟨_,rfl,ydj (by intro z; injection z with z; revert z; decide +kernel) ?_⟩
   walk_at "rd"
   refine ⟨rfl,?_⟩
   refine ⟨_,rfl,ybn rfl ?_⟩
   walk_at "rd"
   intro p dx np ndx ne
   refine ⟨p,dx,rfl,yd,fun H1 hp1 B1=>⟨rfl,?_⟩⟩
   exact k p dx H1 np hp1 fun b o e=>B1 b o (by rw [yu (ye e np),yu (ye e ndx)]; exact e) (ye e np)
theorem yxp:yn ["thing"] ["thing"] (yi ytt):=⟨rfl,rfl,rfl,by decide +kernel,rfl,by decide +kernel,by decide +kernel⟩
def yhn (K:W.Frag):Sp:=fun vs H Q _=>∃ x n,vs=[x]/\x6 K H x (.type n)/\Q (.bl (yl6 x)) H
theorem yus (T:Txt K mg a):wc P w K mg base CX0 1 a.f_q24 a.d_q24 ["thing"] (yhn K):=by
 refine T.y_q24.F.ok yxp (fun vs H Q E h=>?_) (fun cdv A outer s H vs Q E hr h=>?_)
 ·obtain ⟨x,n,rfl,_⟩:=h
  rfl
 ·obtain ⟨x,n,rfl,ty,k⟩:=h
  refine ⟨_,(yh (yw (ut (yp vg rfl T.z_isinstance (by decide +kernel) (yc (pv 0) (yc (xu (T:="str") rfl T.z_str (by decide +kernel)) yf (ya rfl)) (ya rfl))) (zy (zw yj8 (pv 0) (yfv rfl T.m_KINDS) (by with_unfolding_all rfl)))))),?_⟩
  try dsimp only [wa]
  refine yo (σ':=[some _]) rfl ?_
  walk_at "rd"
  refine zg ty (ymj ty) ?_
  walk_at "rd"
  by_cases hn:n="str"
  ·obtain ⟨s',rfl⟩:∃ s',x=.str s':=by
    cases ty with
    | str s'=>exact ⟨s',rfl⟩
    | _=>exact absurd hn (by decide)
   rw [decide_eq_true hn]
   refine ymf ?_
   walk_at "rd"
   exact ⟨a.W_KINDS,_,rfl,.inr (T.w_KINDS H),rfl,rfl,k⟩
  ·have e:yl6 x=false:=by
    cases ty with
    | str s'=>exact absurd rfl hn
    | _=>rfl
   rw [decide_eq_false hn]
   rw [e] at k
   exact ymc k
theorem yx1:yn ["thing"] ["thing"] (yi ysw):=⟨rfl,rfl,rfl,by decide +kernel,rfl,by decide +kernel,by decide +kernel⟩
def ye8 (K:W.Frag):Sp:=fun vs H Q _=>∃ x n,vs=[x]/\x6 K H x (.type n)/\Q (.bl (plV x)) H
theorem yu1 (T:Txt K mg a):wc P w K mg base CX0 2 a.f_q25 a.d_q25 ["thing"] (ye8 K):=by
 refine T.y_q25.F.ok yx1 (fun vs H Q E h=>?_) (fun cdv A outer s H vs Q E hr h=>?_)
 ·obtain ⟨x,n,rfl,_⟩:=h
  rfl
 ·obtain ⟨x,n,rfl,ty,k⟩:=h
  refine ⟨_,(yh (yw (ut (yv (yl5 T) (hr.mono (by decide)) rfl T.y_q1.m T.y_q1.F.kp T.y_q1.B .nil y7 (yc (pv 0) yf (ya rfl))) (zy (yaq uo uo yg (pv 0) (vn rfl T.c_FARTHEST)))))),?_⟩
  try dsimp only [wa]
  refine yo (σ':=[some _]) rfl ?_
  walk_at "rd"
  refine ⟨x,n,rfl,ty,?_⟩
  walk_at "rd"
  cases hx:zk x with
  | false =>
   have e:plV x=false:=by
    cases x <;> first | rfl | cases hx
   rw [e] at k
   exact ymc k
  | true =>
   obtain ⟨i,rfl⟩:=uz hx
   refine ymf ?_
   walk_at "rd"
   refine zn (fun h0=>?_) (fun h0=>?_)
   ·walk_at "rd"
    have e:plV (.int i)=decide (i <= 8):=by simp [plV,h0]
    rw [e] at k
    exact k
   ·have e:plV (.int i)=false:=by simp [plV,h0]
    rw [e] at k
    exact k
theorem ywi:yn ["thing"] ["thing"] (yi yt3):=⟨rfl,rfl,rfl,by decide +kernel,rfl,by decide +kernel,by decide +kernel⟩
def ycg (K:W.Frag):Sp:=fun vs H Q _=>∃ x b,vs=[x]/\PlB K H x b/\∀ H',vh H H'->Q (.bl b) H'
theorem yxe (T:Txt K mg a):wc P w K mg base CX0 3 a.f_q26 a.d_q26 ["thing"] (ycg K):=by
 refine T.y_q26.F.ok ywi (fun vs H Q E h=>?_) (fun cdv A outer s H vs Q E hr h=>?_)
 ·obtain ⟨x,b,rfl,_⟩:=h
  rfl
 ·obtain ⟨x,b,rfl,hb,k⟩:=h
  refine ⟨_,(yj (wo (PW.pt (uk (wd (wq (yp vg rfl T.z_isinstance (by decide +kernel) (yc (pv 0) (yc (xu (T:="tuple") rfl T.z_tuple (by decide +kernel)) yf (ya rfl)) (ya rfl))))) (uk (yz yn2 (yp yr rfl T.z_len (by decide +kernel) (yc (pv 0) yf (ya rfl))) (vn rfl T.c_MOST_PLACES) (vd _)) (u5 (wd (wq (yp (jo rfl) rfl T.z_all (by decide +kernel) (yc (uh rfl (yha (pv 0)) (fun C s2 H2 fp=>(yv (yu1 T) (hr.mono (by decide)) rfl T.y_q25.m T.y_q25.F.kp T.y_q25.B .nil y7 (yc (pv 0) yf (ya rfl))))) yf (ya rfl))))))))) (yh (yw ybm)) ve) (yh (yw (yp (jo rfl) rfl T.z_all (by decide +kernel) (yc (yc7 (js:=[]) (ys:=[]) (xs:=["near","far"]) (g:=yub K 2 (ul (wy 0) (ul (wy 1) ymb))) rfl (yqo rfl T.z_zip (yc (pv 0) (yc (xz (yu3.or yq9) (pv 0) (xx yg) jd) yf (ya rfl)) (ya rfl))) (fun C s2 H2 fp=>(zw yaf (pv 0) (pv 1) (vd _))) rfl (fun C s2 H2 fp=>yb8 rfl (w6 (vz (i:=0) (show List.Nodup ((["near","far"]:List Str)++([]:List Str)) by decide +kernel) rfl (Or.inl rfl)) (w6 (vz (i:=1) (show List.Nodup ((["near","far"]:List Str)++([]:List Str)) by decide +kernel) rfl (Or.inl rfl)) j9))) rfl (hyc:=vy) (hrel:=vy)) yf (ya rfl)))))),?_⟩
  try dsimp only [wa]
  refine yo (σ':=[some _]) rfl ?_
  rcases hb with ⟨n,ty,hn,rfl⟩ | ⟨t,xs,rfl,ht,hl,hy,rfl⟩
  ·walk_at "rd"
   refine zg ty (yas ty) ?_
   walk_at "rd"
   refine ytj hn ?_
   walk_at "rd"
   exact k _ (vh.refl _)
  ·walk_at "rd"
   refine zg (.tup ht) (yas (.tup ht)) ?_
   walk_at "rd"
   refine yer rfl ?_
   walk_at "rd"
   refine yg3 (SqT.of ht) ?_
   walk_at "rd"
   unfold zv at k
   refine zn (fun h4=>?_) (fun h4=>?_)
   ·rw [decide_eq_false (by omega),Bool.false_and,Bool.false_and] at k
    walk_at "rd"
    exact k _ (vh.refl _)
   ·rw [decide_eq_true (by omega),Bool.true_and] at k
    walk_at "rd"
    refine ⟨t,rfl,⟨_,SqT.of ht⟩,fun D hD=>?_⟩
    refine yjl (xs:=xs) (fun v=>.bl (plV v)) (SqT.of ht) hD (fun i y H2 hy2 S2 hD2=>?_) (fun H2 S2 hD2=>?_)
    ·obtain ⟨n,tyy⟩:=hy y (List.mem_of_getElem? hy2)
     walk_at "rd"
     refine ⟨y,n,rfl,yb7 S2 tyy,?_⟩
     exact Mp.done hD (vq (by omega)) hy2 S2 hD2 rfl
    have e:xs.map (fun v=>V.bl (plV v))=(xs.map plV).map V.bl:=by rw [List.map_map]; rfl
    rw [e] at hD2
    walk_at "rd"
    refine ⟨D,_,rfl,SqL.of hD2,?_⟩
    rw [List.all_map]
    have ea:xs.all (id ∘ plV)=xs.all plV:=rfl
    rw [ea]
    have ht2:=S2 _ _ ht
    cases hp:xs.all plV with
    | false =>
     rw [hp,Bool.false_and] at k
     walk_at "rd"
     exact k _ S2
    | true =>
     rw [hp,Bool.true_and] at k
     have hint:∀ y∈xs,∃ i:Int,y=.int i:=fun y hm=>by
      have:=List.all_eq_true.mp hp y hm
      cases y with
      | int i=>exact ⟨i,rfl⟩
      | _=>cases this
     walk_at "rd"
     by_cases hx0:xs=[]
     ·refine .inr ⟨t,xs,rfl,SqT.of ht2,?_,?_⟩
      ·subst hx0
       exact ⟨rfl,rfl⟩
      ·refine ⟨t,t,rfl,⟨_,_,SqT.of ht2,SqT.of ht2⟩,fun D2 hD2'=>?_⟩
       refine ykj (xs:=xs) hint (by omega) (SqT.of ht2) (by subst hx0; exact SqT.of ht2) hD2' (fun i j σ' H' Q' h=>?_) (fun H4 S4 hD4=>?_)
       ·walk_at "rd"
        exact h
       ·walk_at "rd"
        exact ⟨D2,_,rfl,SqL.of hD4,k _ (S2.trans S4)⟩
     ·refine .inl ⟨t,xs,rfl,SqT.of ht2,?_,fun u hu=>?_⟩
      ·rintro ⟨z,_⟩
       have e1:HT.sIx xs.length 0 (some 1)=min 1 xs.length:=by
        have:=HT.sIx_nat xs.length 0 1
        simpa using this
       rw [e1] at z
       cases xs with
       | nil=>exact hx0 rfl
       | cons x r=>simp at z
      ·rw [yqz]
       have S3:=vj (o:=(HO.tup xs.tail)) hu
       have hu3:upd H2 u (HO.tup xs.tail) u=some (HO.tup xs.tail):=yd
       generalize upd H2 u (HO.tup xs.tail)=H3 at S3 hu3 ⊢
       refine ⟨t,u,rfl,⟨_,_,SqT.of (S3 _ _ ht2),SqT.of hu3⟩,fun D2 hD2'=>?_⟩
       refine ykj (xs:=xs) hint (by omega) (SqT.of (S3 _ _ ht2)) (SqT.of hu3) hD2' (fun i j σ' H' Q' h=>?_) (fun H4 S4 hD4=>?_)
       ·walk_at "rd"
        exact h
       ·walk_at "rd"
        exact ⟨D2,_,rfl,SqL.of hD4,k _ (S2.trans (S3.trans S4))⟩
theorem yvk:yn ["thing"] ["thing"] (yi ysj):=⟨rfl,rfl,rfl,by decide +kernel,rfl,by decide +kernel,by decide +kernel⟩
def yhy (K:W.Frag):Sp:=fun vs H Q _=>∃ x b,vs=[x]/\LkB K H x b/\∀ H',vh H H'->Q (.bl b) H'
theorem ypy (T:Txt K mg a):wc P w K mg base CX0 4 a.f_q27 a.d_q27 ["thing"] (yhy K):=by
 refine T.y_q27.F.ok yvk (fun vs H Q E h=>?_) (fun cdv A outer s H vs Q E hr h=>?_)
 ·obtain ⟨x,b,rfl,_⟩:=h
  rfl
 ·obtain ⟨x,b,rfl,hb,k⟩:=h
  refine ⟨_,(yh (yw (ut (yp vg rfl T.z_isinstance (by decide +kernel) (yc (pv 0) (yc (xu (T:="tuple") rfl T.z_tuple (by decide +kernel)) yf (ya rfl)) (ya rfl))) (ut (zw zl (yp yr rfl T.z_len (by decide +kernel) (yc (pv 0) yf (ya rfl))) yg (vd _)) (ut (yv (yus T) (hr.mono (by decide)) rfl T.y_q24.m T.y_q24.F.kp T.y_q24.B .nil y7 (yc (wz jx (pv 0) yg (fun _ _=>rfl)) yf (ya rfl))) (zy (yv (yxe T) (hr.mono (by decide)) rfl T.y_q26.m T.y_q26.F.kp T.y_q26.B .nil y7 (yc (wz jx (pv 0) yg (fun _ _=>rfl)) yf (ya rfl))))))))),?_⟩
  try dsimp only [wa]
  refine yo (σ':=[some _]) rfl ?_
  rcases hb with ⟨n,ty,hn,rfl⟩ | ⟨t,xs,rfl,ht,hb⟩
  ·walk_at "rd"
   refine zg ty (yas ty) ?_
   walk_at "rd"
   rw [decide_eq_false hn]
   exact ymc (k _ (vh.refl _))
  ·walk_at "rd"
   refine zg (.tup ht) (yas (.tup ht)) ?_
   walk_at "rd"
   refine ybn rfl ?_
   walk_at "rd"
   refine yg3 (SqT.of ht) ?_
   walk_at "rd"
   rcases hb with ⟨h2,rfl⟩ | ⟨y,z,n,rfl,ty,hb⟩
   ·rw [decide_eq_false (show ¬ ((xs.length:Int)=2) by omega)]
    exact ymc (k _ (vh.refl _))
   ·refine ybn rfl ?_
    walk_at "rd"
    refine ydi (SqT.of ht) (vv (j:=0) rfl) ?_
    walk_at "rd"
    refine ⟨y,n,rfl,ty,?_⟩
    rcases hb with ⟨hk,rfl⟩ | ⟨hk,hp⟩
    ·rw [hk]
     walk_at "rd"
     exact k _ (vh.refl _)
    ·rw [hk]
     walk_at "rd"
     refine ydi (SqT.of ht) (vv (j:=1) rfl) ?_
     walk_at "rd"
     exact ⟨z,b,rfl,hp,k⟩
theorem yvm:yn ["thing"] ["thing"] (yi ytp):=⟨rfl,rfl,rfl,by decide +kernel,rfl,by decide +kernel,by decide +kernel⟩
def yjd (K:W.Frag) (C:Addr):Sp:=fun vs H Q E=>(∃ x n,vs=[x]/\x6 K H x (.type n)/\n≠"list"/\E (.ref C) none H) \/
 ∃ (l:Addr) (xs:List V) (bs:List Bool),vs=[.ref l]/\H l=some (.lst xs)/\xs.length <= 1000/\va9 K H xs bs /\
  ((1 <= xs.length/\xs.length <= 6/\bs.all id=true)->∀ r H',H r=none->H' r=some (.lst xs)->vh H H'->Q (.ref r) H') /\
  (¬ (1 <= xs.length/\xs.length <= 6/\bs.all id=true)->∀ H',vh H H'->E (.ref C) none H')
theorem yv0 (T:Txt K mg a):wc P w K mg base (CXe P w) 5 a.f_q28 a.d_q28 ["thing"] (yjd K a.C_NL):=by
 refine T.y_q28.F.okE yvm (fun vs H Q E h=>?_) (fun cdv A outer s H vs Q E hr h=>?_)
 ·rcases h with ⟨x,n,rfl,_⟩ | ⟨l,xs,f,rfl,_⟩
  ·rfl
  ·rfl
 ·rcases h with ⟨x,n,rfl,ty,hn,k⟩ | ⟨l,xs,bs,rfl,hl,hz,hy,k1,k2⟩
  ·refine ⟨_,(yj (wo (PW.pt (uk (wd (wq (yp vg rfl T.z_isinstance (by decide +kernel) (yc (pv 0) (yc (xu (T:="list") rfl T.z_list (by decide +kernel)) yf (ya rfl)) (ya rfl))))) (uk (wd (jv uo uo yg (yp yr rfl T.z_len (by decide +kernel) (yc (pv 0) yf (ya rfl))) (vn rfl T.c_MOST_LOOKS))) (u5 (wd (wq (yp (jo rfl) rfl T.z_all (by decide +kernel) (yc (uh rfl (v8 (pv 0)) (fun C s2 H2 fp=>(yv (ypy T) (hr.mono (by decide)) rfl T.y_q27.m T.y_q27.F.kp T.y_q27.B .nil y7 (yc (pv 0) yf (ya rfl))))) yf (ya rfl))))))))) (yh (x3 rfl T.m_NL T.r_NL (yc x9 yf (ya rfl)))) ve) (yh (yw (xa ww rfl T.z_list (by decide +kernel) (yc (pv 0) yf (ya rfl)))))),?_⟩
   refine yo (σ':=[some _]) rfl ?_
   walk_at "rd"
   refine zg ty (ygs ty) ?_
   walk_at "rd"
   refine ytj hn ?_
   walk_at "rd"
   exact ⟨by walk_at "len",k⟩
  ·refine ⟨_,(yj (wo (PW.pt (uk (wd (wq (yp vg rfl T.z_isinstance (by decide +kernel) (yc (pv 0) (yc (xu (T:="list") rfl T.z_list (by decide +kernel)) yf (ya rfl)) (ya rfl))))) (uk (wd (jv uo uo yg (yp yr rfl T.z_len (by decide +kernel) (yc (pv 0) yf (ya rfl))) (vn rfl T.c_MOST_LOOKS))) (u5 (wd (wq (yp (jo rfl) rfl T.z_all (by decide +kernel) (yc (uh rfl (v8 (pv 0)) (fun C s2 H2 fp=>(yv (ypy T) (hr.mono (by decide)) rfl T.y_q27.m T.y_q27.F.kp T.y_q27.B .nil y7 (yc (pv 0) yf (ya rfl))))) yf (ya rfl))))))))) (yh (x3 rfl T.m_NL T.r_NL (yc x9 yf (ya rfl)))) ve) (yh (yw (xa ww rfl T.z_list (by decide +kernel) (yc (pv 0) yf (ya rfl)))))),?_⟩
   refine yo (σ':=[some _]) rfl ?_
   walk_at "rd"
   refine zg (.lst hl) (ygs (.lst hl)) ?_
   walk_at "rd"
   refine yer rfl ?_
   walk_at "rd"
   refine uc (SqL.of hl) ?_
   walk_at "rd"
   refine zn (fun h1=>?_) (fun h1=>?_)
   ·walk_at "rd"
    refine vb1 (fun h6=>?_) (fun h6=>?_)
    ·walk_at "rd"
     refine ⟨l,rfl,⟨_,SqL.of hl⟩,fun D hD=>?_⟩
     refine uf (K:=K) (xs:=xs) (Mp H D (fun i=>V.bl ((bs[i]?).getD false))) (Mp.zero hD) (fun _ _ _ p=>p.1.seq (SqL.of hl)) (fun i y H2 hy2 hi p=>?_) (fun H2 p=>?_)
     ·obtain ⟨S2,hD2⟩:=p
      have hib:i < bs.length:=by rw [<- hy.1]; exact hi
      walk_at "rd"
      refine ⟨y,bs[i],rfl,(hy.2 i y _ hy2 (List.getElem?_eq_getElem hib)).same S2,fun H3 S3=>?_⟩
      refine Mp.doneR hD (vq (by omega)) hi (S2.trans S3) (S3 _ _ hD2) ?_
      rw [List.getElem?_eq_getElem hib]
      rfl
     obtain ⟨S2,hD2⟩:=p
     rw [ymk bs hy.1] at hD2
     walk_at "rd"
     refine ⟨D,_,rfl,SqL.of hD2,?_⟩
     have hl2:=S2 _ _ hl
     cases hp:bs.all id with
     | false =>
      walk_at "rd"
      exact ⟨by walk_at "len",k2 (by rw [hp]; rintro ⟨_,_,z⟩; cases z) _ S2⟩
     | true =>
      walk_at "rd"
      refine jq (SqL.of hl2) fun r hr0=>?_
      exact k1 ⟨by omega,by omega,hp⟩ r _ (S2.free hr0) yd (S2.trans (vj hr0))
    ·walk_at "rd"
     exact ⟨by walk_at "len",k2 (by omega) _ (vh.refl _)⟩
   ·walk_at "rd"
    exact ⟨by walk_at "len",k2 (by omega) _ (vh.refl _)⟩
theorem yuu:yn ["signs","place"] ["signs","place"] (yi yt7):=⟨rfl,rfl,rfl,by decide +kernel,rfl,by decide +kernel,by decide +kernel⟩
def ym3 (K:W.Frag):Sp:=fun vs H Q _=>∃ (l:Addr) (sg:List Int) (p:Int),vs=[.ref l,.int p]/\SqL K H l (sg.map V.int)/\1 <= p/\Q (.int (yp5 sg p)) H
theorem yvn (T:Txt K mg a):wc P w K mg base CX0 1 a.f_q29 a.d_q29 ["signs","place"] (ym3 K):=by
 refine T.y_q29.F.ok yuu (fun vs H Q E h=>?_) (fun cdv A outer s H vs Q E hr h=>?_)
 ·obtain ⟨l,sg,p,rfl,_⟩:=h
  rfl
 ·obtain ⟨l,sg,p,rfl,hl,hp,k⟩:=h
  refine ⟨_,(yh (yw (jw (yz uo (pv 1) (yp yr rfl T.z_len (by decide +kernel) (yc (pv 0) yf (ya rfl))) (vd _)) (wz vw (pv 0) (yz1 yum (pv 1)) (fun _ _=>rfl)) (vn rfl T.c_NO_SIGN)))),?_⟩
  try dsimp only [wa]
  refine yo (σ':=[some _,some _]) rfl ?_
  walk_at "rd"
  refine uc hl ?_
  rw [List.length_map]
  walk_at "rd"
  unfold yp5 at k
  refine zn (fun hb=>?_) (fun hb=>?_)
  ·rw [if_pos hb] at k
   obtain ⟨c,hc,_⟩:=ymn hp hb
   rw [hc] at k
   walk_at "rd"
   exact xt hl (by rw [yrs,hc]; rfl) k
  ·rw [if_neg hb] at k
   walk_at "rd"
   exact k
theorem yx9:yn ["look","signs","node"] ["look","signs","node"] (yi ysx):=⟨rfl,rfl,rfl,by decide +kernel,rfl,by decide +kernel,by decide +kernel⟩
def zj (K:W.Frag) (H:Hp) (k:Addr) (x:V) (ps:List Int):Prop:=∃ t,SqT K H k [x,.ref t]/\SqT K H t (ps.map V.int)/\(∀ p∈ps,1 <= p/\p <= 8)/\ps.length <= 4
theorem zj.same {K:W.Frag} {H H':Hp} {k:Addr} {x:V} {ps:List Int} (S:vh H H') (h:zj K H k x ps):zj K H' k x ps:=by
 obtain ⟨t,h1,h2,h3,h4⟩:=h
 exact ⟨t,S.tup h1,S.tup h2,h3,h4⟩
def ctx (ps sg:List Int) (nd:Int):List Int:=ps.map (yp5 sg)++[nd]
def bkV (sg:List Int):V->V
 | .int p=>.int (yp5 sg p)
 | _=>.non
theorem yqt (sg ps:List Int):(ps.map V.int).map (bkV sg)=(ps.map (yp5 sg)).map V.int:=by
 rw [List.map_map,List.map_map]
 rfl
def yh3 (K:W.Frag):Sp:=fun vs H Q _=>∃ (k l:Addr) (x:V) (ps sg:List Int) (nd:Int),vs=[.ref k,.ref l,.int nd]/\zj K H k x ps/\SqL K H l (sg.map V.int) /\
 ∀ r H',H r=none->H' r=some (.tup ((ctx ps sg nd).map V.int))->vh H H'->Q (.ref r) H'
theorem ywe (T:Txt K mg a):wc P w K mg base CX0 2 a.f_q30 a.d_q30 ["look","signs","node"] (yh3 K):=by
 refine T.y_q30.F.ok yx9 (fun vs H Q E h=>?_) (fun cdv A outer s H vs Q E hr h=>?_)
 ·obtain ⟨k,l,x,ps,sg,nd,rfl,_⟩:=h
  rfl
 ·obtain ⟨ka,l,x,ps,sg,nd,rfl,⟨t,hk,ht,hps,hpl⟩,hl,k⟩:=h
  refine ⟨_,(yh (yw (xa jj rfl T.z_tuple (by decide +kernel) (yc (yq ypn (ur (js:=[1]) (ys:=["signs"]) rfl (yha (wz jx (pv 0) yg (fun _ _=>rfl))) (fun C s2 H2 fp=>(yv (yvn T) (hr.mono (by decide)) rfl T.y_q29.m T.y_q29.F.kp T.y_q29.B .nil y7 (yc (pv 1) (yc (pv 0) yf (ya rfl)) (ya rfl)))) rfl rfl (hyc:=(all_cons rfl vy)) (hrel:=(all_cons rfl vy))) (w4 (yc (pv 2) yf (ya rfl)))) yf (ya rfl))))),?_⟩
  try dsimp only [wa]
  refine yo (σ':=[some _,some _,some _]) rfl ?_
  walk_at "rd"
  refine ydi hk (vv (j:=1) rfl) ?_
  refine ⟨t,rfl,⟨_,ht⟩,fun D hD=>?_⟩
  have hpz:(ps.map V.int).length < sizeLine:=vq (by rw [List.length_map]; omega)
  refine ybv (xs:=ps.map V.int) (bkV sg) ht hD (fun i y H2 hy S2 hD2=>?_) (fun H2 S2 hD2=>?_)
  ·obtain ⟨p,rfl,hpm,_,_⟩:=x8 hy
   walk_at "rd"
   refine ⟨l,sg,p,rfl,S2.seq hl,(hps p hpm).1,?_⟩
   exact Mp.done hD hpz hy S2 hD2 rfl
  ·rw [yqt] at hD2
   walk_at "rd"
   refine ⟨by walk_at "len",fun n hn=>?_⟩
   with_reducible first | refine y8 hn fun H3 S3 hn3=>?_ | refine new_obj hn fun H3 S3 hn3=>?_
   refine ⟨D,n,_,_,rfl,rfl,S3 _ _ hD2,hn3,ybg (by rw [List.length_map,List.length_map]; show _+1 <= _; omega),fun c hc=>?_⟩
   with_reducible first | refine y8 hc fun H4 S4 hc4=>?_ | refine new_obj hc fun H4 S4 hc4=>?_
   refine ⟨c,_,rfl,.inl ⟨SqL.of hc4,fun r hr0=>?_⟩⟩
   have S:=S2.trans (S3.trans S4)
   refine k r _ (S.free hr0) (yd.trans ?_) (S.trans (vj hr0))
   unfold ctx
   rw [List.map_append]
   rfl
theorem yv8:yn ["self","look"] ["self","look"] (yi yse):=⟨rfl,rfl,rfl,by decide +kernel,rfl,by decide +kernel,by decide +kernel⟩
def yi4 (a:Ads):Sp:=fun vs H Q _=>∃ (p dx lk:Addr) (kd:Fin 3),vs=[.ref p,.ref lk]/\H p=some (.ins a.C_Book dx [])/\∀ d H',H d=none->yam a H' p dx lk d kd (fun _=>none) (fun b=>b=d) 0->But p H H'->Q .non H'
theorem yxv (T:Txt K mg a):wc P w K mg base CX0 1 a.f_q31 a.d_q31 ["self","look"] (yi4 a):=by
 refine T.y_q31.F.ok yv8 (fun vs H Q E h=>?_) (fun cdv A outer s H vs Q E hr h=>?_)
 ·obtain ⟨p,dx,lk,kd,rfl,_⟩:=h
  rfl
 ·obtain ⟨p,dx,lk,kd,rfl,hp,k⟩:=h
  refine ⟨_,(yj (vo (pv 0) (pv 1) rfl) (yh (vo (pv 0) yni rfl))),?_⟩
  try dsimp only [wa]
  refine yo (σ':=[some _,some _]) rfl ?_
  walk_at "rd"
  intro d hd
  have hd0:H d=none:=by
   cases e:H d with
   | none=>rfl
   | some o =>
    by_cases z:d=p
    ·rw [z,yd] at hd; cases hd
    ·rw [yu z,e] at hd; cases hd
  have ndp:d≠p:=fun z=>by rw [z,hp] at hd0; cases hd0
  have hp2:=xo (o':=HO.dT []) hd (show upd H p (HO.ins a.C_Book dx ([("look",V.ref lk)]:List (Str × V))) p=some (HO.ins a.C_Book dx ([("look",V.ref lk)]:List (Str × V))) from yd)
  have hd2:upd (upd H p (HO.ins a.C_Book dx ([("look",V.ref lk)]:List (Str × V)))) d (.dT []) d=some (.dT []):=yd
  have B2:But p H (upd (upd H p (HO.ins a.C_Book dx ([("look",V.ref lk)]:List (Str × V)))) d (.dT [])):=fun b o e n=>by rw [yu (ye e hd0),yu n]; exact e
  generalize upd (upd H p (HO.ins a.C_Book dx ([("look",V.ref lk)]:List (Str × V)))) d (.dT [])=H2 at hp2 hd2 B2 ⊢
  walk_at "rd"
  refine k d _ hd0 ⟨yd,fun b hb=>⟨HO.dT [],by cases hb; exact ym ndp hd2,rfl⟩,fun z=>ndp z.symm,rfl,[],fun _=>(0,0),ym ndp hd2,Nat.le_refl _,fun _ _=>rfl,fun _ _ z=>(nomatch z),fun _ _ _ _ z=>(nomatch z)⟩ (B2.trans But.upd)
theorem ypu:yn ["self","signs","node","context"] ["self","signs","node"] (yi yts):=⟨rfl,rfl,rfl,by decide +kernel,rfl,by decide +kernel,by decide +kernel⟩
def yjo (K:W.Frag) (a:Ads):Sp:=fun vs H Q _=>∃ (p dx lk d sl:Addr) (kd:Fin 3) (f:List Int->Option Slt) (O:Addr->Prop) (m:Nat) (ps sg:List Int) (nd:Int),vs=[.ref p,.ref sl,.int nd]/\yam a H p dx lk d kd f O m/\m < 1000000/\zj K H lk (.str (kdS kd)) ps/\SqL K H sl (sg.map V.int) /\
 ∀ (q:Addr) (O':Addr->Prop) (H':Hp),yam a H' p dx lk d kd (ydk f (ctx ps sg nd) ((f (ctx ps sg nd)).getD (kd0 kd))) O' (m+1)->(∀ kvs,H' d=some (.dT kvs)->yan kvs (kI (ctx ps sg nd))=some (.ref q))->(∀ c,O' c->O c\/H c=none)->(∀ c,O c->O' c)->yod O H H'->Q (.ref q) H'
theorem yxu (T:Txt K mg a):wc P w K mg base CX0 4 a.f_q32 a.d_q32 ["self","signs","node"] (yjo K a):=by
 refine T.y_q32.F.ok ypu (fun vs H Q E h=>?_) (fun cdv A outer s H vs Q E hr h=>?_)
 ·obtain ⟨p,dx,lk,d,sl,kd,f,O,m,ps,sg,nd,rfl,_⟩:=h
  rfl
 ·obtain ⟨p,dx,lk,d,sl,kd,f,O,m,ps,sg,nd,rfl,hb,hm,hl,hs,k⟩:=h
  have hme:=hb.me
  refine ⟨_,(yj (y6 (i:=3) ypu.nd rfl (Or.inl rfl) (yv (ywe T) (hr.mono (by decide)) rfl T.y_q30.m T.y_q30.F.kp T.y_q30.B .nil y7 (yc (yx (pv 0) rfl) (yc (pv 1) (yc (pv 2) yf (ya rfl)) (ya rfl)) (ya rfl)))) (yj (yb4 (wo (yv1 (yjk (yso hr) (pv 3) (yx (pv 0) rfl))) (yh (yry (yso hr) (yx (pv 0) rfl) (pv 3) (yv (yve T) (hr.mono (by decide)) rfl T.y_q23.m T.y_q23.F.kp T.y_q23.B .nil y7 (yc (wz jx (yx (pv 0) rfl) yg (fun _ _=>rfl)) yf (ya rfl))) rfl)) ve)) (yh (yw (yrn (yso hr) (yx (pv 0) rfl) (pv 3) (fun _ _=>rfl)))))),?_⟩
  try dsimp only [wa]
  refine yo (σ':=[some _,some _,some _,none]) rfl ?_
  walk_at "rd"
  refine ⟨lk,sl,_,ps,sg,nd,rfl,hl,hs,fun r H1 hr0 hr1 S1=>?_⟩
  have hr1':H1 r=some (.tup ((kI (ctx ps sg nd)).map kV)):=by rw [yxo]; exact hr1
  generalize ctx ps sg nd=key at hr1' k
  have hb1:=hb.same S1
  have hme1:=hb1.me
  walk_at "rd"
  refine yip (fun σ' H'=>σ'=[some (.ref p),some (.ref sl),some (.int nd),some (.ref r)]/\∃ O',yam a H' p dx lk d kd (ydk f key ((f key).getD (kd0 kd))) O' (m+1)/\(∀ c,O' c->O c\/H c=none)/\(∀ c,O c->O' c)/\yod O H H'/\H' r=some (.tup ((kI key).map kV))) ?_ ?_
  ·obtain ⟨kvs,loc,h1,h2,h3,h4,h5⟩:=hb1.tb
   walk_at "rd"
   refine ⟨d,_,rfl,ymd.t h1 hr1',?_⟩
   cases hf:f key with
   | none =>
    rw [h3 key hf]
    walk_at "rd"
    refine ymf ?_
    walk_at "rd"
    obtain ⟨t,ht1,ht2,_,_⟩:=hl
    refine ydi (S1.tup ht1) (vv (j:=0) rfl) ?_
    walk_at "rd"
    refine ⟨kd,rfl,fun q dq H2 hq0 hq2 S2=>?_⟩
    walk_at "rd"
    have hme2:=S2 _ _ hme1
    walk_at "rd"
    refine ⟨d,_,rfl,yuj.t (S2 _ _ h1) (S2 _ _ hr1') (vq (by omega)),?_⟩
    have S12:=S1.trans S2
    have nqd:q≠d:=fun z=>by rw [z,h1] at hq0; cases hq0
    have ndp:p≠d:=fun z=>hb1.np (z ▸ hb1.dO)
    walk_at "rd"
    refine ⟨rfl,fun c=>O c\/c=q,⟨ym ndp hme2,fun c hc=>?_,fun z=>?_,.inl hb1.dO,yex kvs (kI key) (.ref q),fun j=>if j=key then (q,dq) else loc j,yd,?_,fun j hj=>?_,fun j s' hj=>?_,fun j1 j2 s1 s2 e1 e2 el=>?_⟩,fun c hc=>?_,fun c hc=>.inl hc,fun c o e no=>?_,ym (xf (S2 _ _ hr1') (S2 _ _ h1) (by intro z; cases z)) (S2 _ _ hr1')⟩
    ·rcases hc with hc | rfl
     ·obtain ⟨o,ho,hi⟩:=hb1.own c hc
      by_cases z:c=d
      ·rw [z]
       exact ⟨_,yd,rfl⟩
      ·exact ⟨o,ym z (S2 _ _ ho),hi⟩
     ·obtain ⟨C,fs,eo⟩:=yb5 a dq (kd0 kd)
      exact ⟨_,ym nqd hq2,by rw [eo]; rfl⟩
    ·rcases z with z | z
     ·exact hb1.np z
     ·rw [z] at hme1
      rw [hme1] at hq0
      cases hq0
    ·rw [yne _ (h3 key hf),List.length_append]
     show _+1 <= m+1
     omega
    ·unfold ydk at hj
     split at hj
     ·cases hj
     ·rename_i hne
      rw [yc8,if_neg fun z=>hne (ypg z)]
      exact h3 j hj
    ·unfold ydk at hj
     split at hj
     ·rename_i he
      subst he
      cases hj
      dsimp only
      rw [if_pos rfl,yc8,if_pos rfl]
      exact ⟨rfl,ym nqd hq2,yon kd,ym1 kd,.inr rfl⟩
     ·rename_i hne
      obtain ⟨q1,q2,q3,q4,q5⟩:=h4 j s' hj
      dsimp only
      rw [if_neg hne,yc8,if_neg fun z=>hne (ypg z)]
      have nd2:(loc j).1≠d:=by
       obtain ⟨C,fs,eo⟩:=yb5 a (loc j).2 s'
       rw [eo] at q2
       exact xf q2 h1 (by intro z; cases z)
      exact ⟨q1,ym nd2 (S2 _ _ q2),q3,q4,.inl q5⟩
    ·unfold ydk at e1 e2
     dsimp only at el
     by_cases z1:j1=key
     ·by_cases z2:j2=key
      ·rw [z1,z2]
      ·rw [if_neg z2] at e2
       rw [if_pos z1,if_neg z2] at el
       obtain ⟨_,q2,_⟩:=h4 j2 s2 e2
       have el:q=(loc j2).1:=el
       rw [<- el,hq0] at q2
       cases q2
     ·rw [if_neg z1] at e1
      by_cases z2:j2=key
      ·rw [if_neg z1,if_pos z2] at el
       obtain ⟨_,q2,_⟩:=h4 j1 s1 e1
       have el:(loc j1).1=q:=el
       rw [el,hq0] at q2
       cases q2
      ·rw [if_neg z2] at e2
       rw [if_neg z1,if_neg z2] at el
       exact h5 j1 j2 s1 s2 e1 e2 el
    ·rcases hc with hc | rfl
     ·exact .inl hc
     ·exact .inr (S1.free hq0)
    ·exact ym (fun z=>no (z ▸ hb1.dO)) (S12 _ _ e)
   | some s' =>
    obtain ⟨q1,q2,q3,q4,q5⟩:=h4 key s' hf
    rw [q1]
    walk_at "rd"
    refine ⟨rfl,O,?_,fun c hc=>.inl hc,fun c hc=>hc,fun c o e _=>S1 _ _ e,hr1'⟩
    have ef:ydk f key ((some s').getD (kd0 kd))=f:=by
     funext j
     unfold ydk
     split
     ·rename_i z
      rw [z,hf]
      rfl
     ·rfl
    rw [ef]
    exact ⟨hb1.me,hb1.own,hb1.np,hb1.dO,kvs,loc,h1,Nat.le_succ_of_le h2,h3,h4,h5⟩
  ·rintro σ' H2 ⟨rfl,O',hb2,hO,hM,B2,hr2⟩
   have hme2:=hb2.me
   obtain ⟨kvs,loc,h1,h2,h3,h4,h5⟩:=id hb2.tb
   have hk0:ydk f key ((f key).getD (kd0 kd)) key=some ((f key).getD (kd0 kd)):=by unfold ydk; rw [if_pos rfl]
   obtain ⟨q1,q2,q3,q4,q5⟩:=h4 key _ hk0
   walk_at "rd"
   refine ⟨d,_,rfl,by rw [<- q1]; exact ymd.t h1 hr2,?_⟩
   exact k (loc key).1 O' H2 hb2 (fun kvs' e=>by rw [h1] at e; cases e; exact q1) hO hM B2
theorem ywm:yn ["self","many"] ["self","many"] (yi ysm):=⟨rfl,rfl,rfl,by decide +kernel,rfl,by decide +kernel,by decide +kernel⟩
theorem yvp (T:Txt K mg a):wc P w K mg base CX0 1 a.f_q33 a.d_q33 ["self","many"] (ym5 a):=by
 refine T.y_q33.F.ok ywm (fun vs H Q E h=>?_) (fun cdv A outer s H vs Q E hr h=>?_)
 ·obtain ⟨p,dx,n,rfl,_⟩:=h
  rfl
 ·obtain ⟨p,dx,n,rfl,n1,n6,hp,k⟩:=h
  refine ⟨_,(yh (vo (pv 0) (yq yos (w4 (yc (vn rfl T.c_FIRST_WEIGHT) yf (ya rfl))) (pv 1)) rfl)),?_⟩
  try dsimp only [wa]
  refine yo (σ':=[some _,some _]) rfl ?_
  walk_at "rd"
  refine ⟨by walk_at "len",fun r hr0=>?_⟩
  with_reducible first | refine y8 hr0 fun H1 S1 e1=>?_ | refine new_obj hr0 fun H1 S1 e1=>?_
  walk_at "rd"
  refine ⟨r,n,_,rfl,rfl,e1,by omega,by omega,ybg (by show 1 * (n:Int).toNat <= 16000000; omega),fun l hl=>?_⟩
  rw [ykb]
  with_reducible first | refine y8 hl fun H2 S2 e2=>?_ | refine new_obj hl fun H2 S2 e2=>?_
  have S12:=S1.trans S2
  have hp2:=S12 _ _ hp
  walk_at "rd"
  have npl:l≠p:=fun z=>by rw [z,S1 _ _ hp] at hl; cases hl
  exact k l _ (S1.free hl) ⟨yd,ym npl e2⟩ ((But.of S12).trans But.upd)
theorem yvb:yn ["self","chances"] ["self","chances"] (yi ytb):=⟨rfl,rfl,rfl,by decide +kernel,rfl,by decide +kernel,by decide +kernel⟩
theorem yxj (T:Txt K mg a):wc P w K mg base CX0 1 a.f_q34 a.d_q34 ["self","chances"] (yju K a):=by
 refine T.y_q34.F.ok yvb (fun vs H Q E h=>?_) (fun cdv A outer s H vs Q E hr h=>?_)
 ·obtain ⟨p,dx,l,c,ws,cs,n,rfl,_⟩:=h
  rfl
 ·obtain ⟨p,dx,l,c,ws,cs,n,rfl,n1,n6,hw,hc,⟨hp,hl⟩,hq,k⟩:=h
  refine ⟨_,(yh (yw (yq vf (yp (jp rfl) rfl T.z_sum (by decide +kernel) (yc (yc7 (js:=[]) (ys:=[]) (xs:=["weight","chance"]) (g:=yub K 2 (ul (wy 0) (ul (wy 1) ymb))) rfl (you rfl T.z_zip (yc (yx (pv 0) rfl) (yc (pv 1) yf (ya rfl)) (ya rfl))) (fun C s2 H2 fp=>(yq wj (pv 0) (pv 1))) rfl (fun C s2 H2 fp=>yb8 rfl (w6 (vz (i:=0) (show List.Nodup ((["weight","chance"]:List Str)++([]:List Str)) by decide +kernel) rfl (Or.inl rfl)) (w6 (vz (i:=1) (show List.Nodup ((["weight","chance"]:List Str)++([]:List Str)) by decide +kernel) rfl (Or.inl rfl)) j9))) rfl (hyc:=vy) (hrel:=vy)) yf (ya rfl))) (yp (jp rfl) rfl T.z_sum (by decide +kernel) (yc (yx (pv 0) rfl) yf (ya rfl)))))),?_⟩
  try dsimp only [wa]
  refine yo (σ':=[some _,some _]) rfl ?_
  have hlen:cs.length=ws.length:=by rw [hw.len,hc.len]
  walk_at "rd"
  refine ⟨l,c,rfl,⟨_,_,SqL.of hl,hq⟩,fun D hD=>?_⟩
  refine yb1 (fun i=>V.int ((ws[i]?).getD 0 * (cs[i]?).getD 0)) (SqL.of hl) hq (by rw [List.length_map,List.length_map,hlen]) hD (fun i x y H2 tt pre hx hy S2 hD2 htt hpre=>?_) (fun H2 S2 hD2=>?_)
  ·obtain ⟨v1,v2,rfl⟩:=ylq hpre
   obtain ⟨w,rfl,wm,wi,il⟩:=x8 hx
   obtain ⟨u,rfl,um,ui,_⟩:=x8 hy
   have w1:=hw.one w wm
   have w2:=hw.top w wm
   have S3:=S2.trans (vj (o:=HO.tup [V.int w,V.int u]) htt)
   have hD3:=xo (o':=HO.tup [V.int w,V.int u]) htt hD2
   have ht3:upd H2 tt (HO.tup [V.int w,V.int u]) tt=some (.tup [V.int w,V.int u]):=yd
   generalize upd H2 tt (HO.tup [V.int w,V.int u])=H3 at S3 hD3 ht3
   refine yb6 (SqT.of ht3) rfl ?_
   show ul (wy 0) (ul (wy 1) ymb) [V.int w,V.int u] (v1 :: v2 :: w5 [] [some (V.ref p),some (V.ref c)]) H3 _
   walk_at "rd"
   refine ⟨⟨[some (.int w),some (.int u)],rfl,rfl⟩,?_⟩
   walk_at "rd"
   refine Mp.doneR hD (vq (by rw [List.length_map,hw.len]; omega)) (by rw [List.length_map]; exact il) S3 hD3 ?_
   rw [wi,ui]
   rfl
  ·have hD2:=ygf hD2 (yph (g:=fun w c=>w * c) hlen)
   have hp2:=S2 _ _ hp
   have hl2:=S2 _ _ hl
   have p1:=hw.pos n1
   have p2:=hw.small n6
   walk_at "rd"
   refine ⟨D,_,rfl,SqL.of hD2,?_⟩
   walk_at "rd"
   refine ⟨l,_,rfl,SqL.of hl2,?_⟩
   walk_at "rd"
   exact k _ S2
theorem yb2:yn ["self","chances","bit","shares","whole","own","grown","dropped"] ["self","chances","bit"] (yi yt4):=⟨rfl,rfl,rfl,by decide +kernel,rfl,by decide +kernel,by decide +kernel⟩
theorem ywp (T:Txt K mg a):wc P w K mg base (CXe P w) 5 a.f_q35 a.d_q35 ["self","chances","bit"] (yja K a a.C_NB):=by
 refine T.y_q35.F.okE yb2 (fun vs H Q E h=>?_) (fun cdv A outer s H vs Q E hr h=>?_)
 ·obtain ⟨p,dx,l,c,ws,cs,n,x,m,rfl,_⟩:=h
  rfl
 ·obtain ⟨p,dx,l,c,ws,cs,n,x,m,rfl,n1,n6,hw,hc,⟨hp,hl⟩,hq,ty,k1,k2⟩:=h
  refine yk (y9 (vk (ybk T) (hr.mono (by decide)) rfl T.y_q10.m T.y_q10.F.kp T.y_q10.B .nil v7 (yc (pv 2) yf (ya rfl)))) ?_
  refine yk (ynx (i:=3) (js:=[2]) (ys:=["bit"]) (xs:=["weight","chance"]) (g:=yub K 2 (ul (wy 0) (ul (wy 1) ymb))) yb2.nd rfl rfl rfl (you rfl T.z_zip (yc (yx (pv 0) rfl) (yc (pv 1) yf (ya rfl)) (ya rfl))) (fun C s2 H2 fp=>(yq wj (pv 0) (vk (ypz T) (hr.mono (by decide)) rfl T.y_q11.m T.y_q11.F.kp T.y_q11.B .nil wf (yc (pv 1) (yc (pv 2) yf (ya rfl)) (ya rfl))))) rfl (fun C s2 H2 fp=>yb8 rfl (w6 (vz (i:=0) (show List.Nodup ((["weight","chance"]:List Str)++(["bit"]:List Str)) by decide +kernel) rfl (Or.inl rfl)) (w6 (vz (i:=1) (show List.Nodup ((["weight","chance"]:List Str)++(["bit"]:List Str)) by decide +kernel) rfl (Or.inl rfl)) j9))) rfl (hyc:=(all_cons rfl vy)) (hrel:=(all_cons rfl vy))) ?_
  refine yk (y6 (i:=4) yb2.nd rfl (Or.inr rfl) (yp (jp rfl) rfl T.z_sum (by decide +kernel) (yc (pv 3) yf (ya rfl)))) ?_
  refine yk (y6 (i:=5) yb2.nd rfl (Or.inr rfl) (yq wj (vn rfl T.c_OWN_PARTS) (yp yr rfl T.z_len (by decide +kernel) (yc (pv 3) yf (ya rfl))))) ?_
  refine yk (ym0 (i:=6) (js:=[4,5]) (ys:=["whole","own"]) yb2.nd rfl rfl rfl (v8 (pv 3)) (fun C s2 H2 fp=>(yq v6 (yq wj (pv 2) (pv 0)) (pv 1))) rfl rfl (hyc:=(all_cons rfl (all_cons rfl vy))) (hrel:=(all_cons rfl (all_cons rfl vy)))) ?_
  refine yk (y6 (i:=7) yb2.nd rfl (Or.inr rfl) (yp (yd8 rfl) rfl T.z_max (by decide +kernel) (yc (yq uw (ylr PySem.F.plainAttrs_int PySem.F.slot_int_bit_length PySem.F.type_int_bit_length ykq (yp (jp rfl) rfl T.z_sum (by decide +kernel) (yc (pv 6) yf (ya rfl)))) (vn rfl T.c_MOST_FIGURES)) (yc yg yf (ya rfl)) (ya rfl)))) ?_
  refine ⟨_,(yh (vo (pv 0) (ur (js:=[7]) (ys:=["dropped"]) rfl (v8 (pv 6)) (fun C s2 H2 fp=>(yq yvs (pv 0) (pv 1))) rfl rfl (hyc:=(all_cons rfl vy)) (hrel:=(all_cons rfl vy))) rfl)),?_⟩
  try dsimp only [wa]
  refine yo (σ':=[some _,some _,some _,none,none,none,none,none]) rfl ?_
  have hlen:cs.length=ws.length:=by rw [hw.len,hc.len]
  walk_at "rd"
  refine ⟨x,m,rfl,ty,fun hx=>?_,k2⟩
  obtain ⟨b,rfl,b0,b1⟩:=yhe hx
  have k:=k1 b rfl b0 b1
  walk_at "rd"
  refine ⟨l,c,rfl,⟨_,_,SqL.of hl,hq⟩,fun D hD=>?_⟩
  refine yb1 (fun i=>V.int ((ws[i]?).getD 0 * giv ((cs[i]?).getD 0) b)) (SqL.of hl) hq (by rw [List.length_map,List.length_map,hlen]) hD (fun i x y H2 tt pre hx hy S2 hD2 htt hpre=>?_) (fun H2 S2 hD2=>?_)
  ·obtain ⟨v1,v2,rfl⟩:=ylq hpre
   obtain ⟨w,rfl,wm,wi,il⟩:=x8 hx
   obtain ⟨u,rfl,um,ui,_⟩:=x8 hy
   have w1:=hw.one w wm
   have w2:=hw.top w wm
   have hcu:=yeo (yv2 hc um)
   have hbu:=ydd b0 b1
   have S3:=S2.trans (vj (o:=HO.tup [V.int w,V.int u]) htt)
   have hD3:=xo (o':=HO.tup [V.int w,V.int u]) htt hD2
   have ht3:upd H2 tt (HO.tup [V.int w,V.int u]) tt=some (.tup [V.int w,V.int u]):=yd
   generalize upd H2 tt (HO.tup [V.int w,V.int u])=H3 at S3 hD3 ht3
   refine yb6 (SqT.of ht3) rfl ?_
   show ul (wy 0) (ul (wy 1) ymb) [V.int w,V.int u] (v1 :: v2 :: w5 [2] [some (V.ref p),some (V.ref c),some (V.int b),none,none,none,none,none]) H3 _
   walk_at "rd"
   refine ⟨⟨[some (.int w),some (.int u)],rfl,rfl⟩,?_⟩
   walk_at "rd"
   refine ⟨.int u,_,.int b,_,rfl,.int u,.int b,fun z=>(by rw [hcu] at z; cases z),fun _ z=>(by rw [hbu] at z; cases z),fun c' b' ec eb _ _=>?_⟩
   cases ec
   cases eb
   walk_at "rd"
   refine Mp.doneR hD (vq (by rw [List.length_map,hw.len]; omega)) (by rw [List.length_map]; exact il) S3 hD3 ?_
   rw [wi,ui]
   rfl
  ·have hD2:H2 D=some (.lst ((shL ws cs b).map V.int)):=ygf hD2 (yph (g:=fun w c=>w * giv c b) hlen)
   have shl:(shL ws cs b).length=n:=by rw [yfy hlen.symm,hw.len]
   have hp2:=S2 _ _ hp
   have ek:lrn ws cs b=(grL (shL ws cs b)).map fun v=>v / 2 ^ tOf (grL (shL ws cs b)).sum:=rfl
   rw [ek] at k
   generalize shL ws cs b=sh at hD2 shl k
   have eg:grL sh=sh.map fun s=>31 * (n:Int) * s+sh.sum:=by rw [<- shl]; rfl
   walk_at "rd"
   refine ⟨D,_,rfl,SqL.of hD2,?_⟩
   walk_at "rd"
   refine uc (SqL.of hD2) ?_
   rw [List.length_map,shl]
   walk_at "rd"
   refine ⟨D,rfl,⟨_,SqL.of hD2⟩,fun G hG=>?_⟩
   refine ya5 (onI fun s=>31 * (n:Int) * s+sh.sum) (SqL.of hD2) hG (fun i y H3 hy S3 hG3=>?_) (fun H3 S3 hG3=>?_)
   ·obtain ⟨s',rfl,_,_,il⟩:=x8 hy
    show tOp _ _ _ (some (V.int s') :: w5 [4,5] [some (V.ref p),some (V.ref c),some (V.int b),some (V.ref D),some (V.int sh.sum),some (V.int (31 * (n:Int))),none,none]) H3 _
    walk_at "rd"
    exact Mp.done hG (vq (by rw [List.length_map,shl]; omega)) hy S3 hG3 rfl
   ·rw [ydf,<- eg] at hG3
    have grl:(grL sh).length=n:=by rw [yk3,shl]
    generalize grL sh=gr at hG3 k grl
    have hp3:=S3 _ _ hp2
    walk_at "rd"
    refine ⟨G,_,rfl,SqL.of hG3,?_⟩
    walk_at "rd"
    refine ⟨_,_,rfl,?_⟩
    have et:(if (0:Int) > ((Builtin.Int.intBits gr.sum:Nat):Int) - 48 then (0:Int) else ((Builtin.Int.intBits gr.sum:Nat):Int) - 48)=((tOf gr.sum:Nat):Int):=by
     show _=(((yn1 gr.sum) - 48:Nat):Int)
     have e:Builtin.Int.intBits gr.sum=yn1 gr.sum:=rfl
     rw [e]
     split <;> omega
    rw [et]
    generalize tOf gr.sum=t at k
    walk_at "rd"
    refine ⟨G,rfl,⟨_,SqL.of hG3⟩,fun Z hZ=>?_⟩
    refine ya5 (onI fun v=>v / 2 ^ t) (SqL.of hG3) hZ (fun i y H4 hy S4 hZ4=>?_) (fun H4 S4 hZ4=>?_)
    ·obtain ⟨s',rfl,_,_,il⟩:=x8 hy
     show tOp _ _ _ (some (V.int s') :: w5 [7] [some (V.ref p),some (V.ref c),some (V.int b),some (V.ref D),some (V.int sh.sum),some (V.int (31 * (n:Int))),some (V.ref G),some (V.int (t:Int))]) H4 _
     walk_at "rd"
     refine i_I (Int.natCast_nonneg t) ?_
     exact Mp.done hZ (vq (by rw [List.length_map,grl]; omega)) hy S4 hZ4 rfl
    ·rw [ydf] at hZ4
     have hp4:=S4 _ _ hp3
     walk_at "rd"
     have nz:Z≠p:=fun z=>by rw [z,hp3] at hZ; cases hZ
     have S24:=S2.trans (S3.trans S4)
     exact k Z _ ((S2.trans S3).free hZ) ⟨yd,ym nz hZ4⟩ ((But.of S24).trans But.upd)
theorem yw8:yn ["self"] ["self"] (yi yt1):=⟨rfl,rfl,rfl,by decide +kernel,rfl,by decide +kernel,by decide +kernel⟩
theorem yam.sqt {K:W.Frag} {a:Ads} {H H':Hp} {p dx lk d:Addr} {kd:Fin 3} {f:List Int->Option Slt} {O:Addr->Prop} {m:Nat} (h:yam a H p dx lk d kd f O m) (B:yod O H H') {t:Addr} {xs:List V} (e:SqT K H t xs):SqT K H' t xs:=by
 have no:∀ o:HO,H t=some o->yzf o=false->H' t=some o:=fun o ho hi=>B _ _ ho fun z=>by
  obtain ⟨o',ho',hi'⟩:=h.own t z
  rw [ho] at ho'
  cases ho'
  rw [hi] at hi'
  cases hi'
 rcases e with (e | ⟨o,e⟩) | e
 ·exact .inl (.inl (no _ e rfl))
 ·exact .inl (.inr ⟨o,no _ e rfl⟩)
 ·exact .inr e
theorem yam.up {a:Ads} {H:Hp} {p dx lk d:Addr} {kd:Fin 3} {f:List Int->Option Slt} {O:Addr->Prop} {m m':Nat} (h:yam a H p dx lk d kd f O m) (hm:m <= m'):yam a H p dx lk d kd f O m':=by
 obtain ⟨kvs,loc,h1,h2,h3⟩:=h.tb
 exact ⟨h.me,h.own,h.np,h.dO,kvs,loc,h1,Nat.le_trans h2 hm,h3⟩
theorem zj.mvT {K:W.Frag} {H H':Hp} {k:Addr} {x:V} {ps:List Int} (h:zj K H k x ps) (h1:∀ t xs,SqT K H t xs->SqT K H' t xs):zj K H' k x ps:=by
 obtain ⟨t,q1,q2,q3,q4⟩:=h
 exact ⟨t,h1 _ _ q1,h1 _ _ q2,q3,q4⟩
def refs (g:Nat->Addr) (n:Nat):List V:=(List.range n).map fun i=>V.ref (g i)
theorem vt (g:Nat->Addr) (n:Nat):(refs g n).length=n:=by unfold refs; rw [List.length_map,List.length_range]
theorem ub {g:Nat->Addr} {n i:Nat} {x:V} (h:(refs g n)[i]?=some x):x=.ref (g i)/\i < n:=by
 have hi:i < n:=by
  have:=(List.getElem?_eq_some_iff.mp h).1
  rw [vt] at this
  exact this
 unfold refs at h
 rw [List.getElem?_map,List.getElem?_range hi] at h
 exact ⟨(Option.some.inj h).symm,hi⟩
theorem ue (g:Nat->Addr) (n:Nat):refs g (n+1)=refs g n++[.ref (g n)]:=by
 unfold refs
 rw [List.range_succ,List.map_append]
 rfl
theorem xw {g h:Nat->Addr} {n:Nat} (e:∀ i,i < n->g i=h i):refs g n=refs h n:=by
 unfold refs
 exact List.map_congr_left fun i hi=>by rw [e i (List.mem_range.mp hi)]
structure Bks (K:W.Frag) (a:Ads) (H:Hp) (n:Nat) (bk dx lk dd:Nat->Addr) (kd:Nat->Fin 3) (ps:Nat->List Int) (f:Nat->List Int->Option Slt) (O:Nat->Addr->Prop) (m:Nat):Prop where
 look:∀ i,i < n->zj K H (lk i) (.str (kdS (kd i))) (ps i)
 b:∀ i,i < n->yam a H (bk i) (dx i) (lk i) (dd i) (kd i) (f i) (O i) m
 dj:∀ i j c,i < n->j < n->i≠j->O i c->¬ O j c
 nb:∀ i j,i < n->j < n->¬ O i (bk j)
def AtS (H:Hp) (d:Addr) (k:List Int) (q:Addr):Prop:=∀ kvs,H d=some (.dT kvs)->yan kvs (kI k)=some (.ref q)
theorem yam.slot {a:Ads} {H:Hp} {p dx lk d q:Addr} {kd:Fin 3} {f:List Int->Option Slt} {O:Addr->Prop} {m:Nat} {k:List Int} {s:Slt} (h:yam a H p dx lk d kd f O m) (hf:f k=some s) (hq:AtS H d k q):∃ dq,H q=some (oS a dq s)/\s.ok/\s.kind=kd/\O q:=by
 obtain ⟨kvs,loc,h1,h2,h3,h4,h5⟩:=h.tb
 obtain ⟨q1,q2,q3,q4,q5⟩:=h4 k s hf
 have e:=hq kvs h1
 rw [q1] at e
 injection e with e
 injection e with e
 subst e
 exact ⟨_,q2,q3,q4,q5⟩
theorem yam.told {a:Ads} {H H':Hp} {p dx lk d q dq:Addr} {kd:Fin 3} {f:List Int->Option Slt} {O:Addr->Prop} {m:Nat} {k:List Int} {s:Slt} {b:Int} (h:yam a H p dx lk d kd f O m) (hf:f k=some s) (hq:AtS H d k q) (b0:0 <= b) (b1:b <= 1)
  (h3:H' q=some (oS a dq (s.see b))) (B:But q H H'):yam a H' p dx lk d kd (ydk f k (s.see b)) O m:=by
 have hme:=h.me
 obtain ⟨kvs,loc,h1,h2,h3',h4,h5⟩:=id h.tb
 obtain ⟨q1,q2,q3,q4,q5⟩:=h4 k s hf
 have e:=hq kvs h1
 rw [q1] at e
 injection e with e
 injection e with e
 have npl:p≠q:=fun z=>h.np (by rw [z,<- e]; exact q5)
 have ndl:d≠q:=fun z=>by
  obtain ⟨C,fs,eo⟩:=yb5 a (loc k).2 s
  rw [e,<- z,h1,eo] at q2
  cases q2
 refine ⟨B _ _ hme npl,fun c hc=>?_,h.np,h.dO,kvs,fun j=>if j=k then (q,dq) else loc j,B _ _ h1 ndl,h2,fun j hj=>?_,fun j s' hj=>?_,fun j1 j2 s1 s2 e1 e2 el=>?_⟩
 ·obtain ⟨o,ho,hi⟩:=h.own c hc
  by_cases z:c=q
  ·rw [z]
   obtain ⟨C,fs,eo⟩:=yb5 a dq (s.see b)
   exact ⟨_,h3,by rw [eo]; rfl⟩
  ·exact ⟨o,B _ _ ho z,hi⟩
 ·refine h3' j ?_
  unfold ydk at hj
  split at hj
  ·cases hj
  ·exact hj
 ·unfold ydk at hj
  by_cases z:j=k
  ·rw [if_pos z] at hj
   cases hj
   subst z
   dsimp only
   rw [if_pos rfl]
   exact ⟨by rw [q1,e],h3,Slt.see_ok q3 b0 b1,(ymh s b).trans q4,e ▸ q5⟩
  ·rw [if_neg z] at hj
   obtain ⟨p1,p2,p3,p4,p5⟩:=h4 j s' hj
   dsimp only
   rw [if_neg z]
   exact ⟨p1,B _ _ p2 (fun w=>z (h5 j k s' s hj hf (w.trans e.symm))),p3,p4,p5⟩
 ·have some_of:∀ j s',ydk f k (s.see b) j=some s'->∃ t,f j=some t:=fun j s' h=>by
   unfold ydk at h
   by_cases z:j=k
   ·exact ⟨s,by rw [z]; exact hf⟩
   ·rw [if_neg z] at h
    exact ⟨s',h⟩
  obtain ⟨t1,f1⟩:=some_of j1 s1 e1
  obtain ⟨t2,f2⟩:=some_of j2 s2 e2
  refine h5 j1 j2 t1 t2 f1 f2 ?_
  have yp5:∀ j,(if j=k then ((q,dq):Addr × Addr) else loc j).1=(loc j).1:=fun j=>by
   by_cases z:j=k
   ·rw [if_pos z,z]
    exact e.symm
   ·rw [if_neg z]
  rw [<- yp5 j1,<- yp5 j2]
  exact el
theorem AtS.told {a:Ads} {H H':Hp} {p dx lk d q:Addr} {kd:Fin 3} {f:List Int->Option Slt} {O:Addr->Prop} {m:Nat} {k:List Int} (h:yam a H p dx lk d kd f O m) {r:Addr} (hd:d≠r) (B:But r H H') (hq:AtS H d k q):AtS H' d k q:=fun kvs e=>by
 obtain ⟨kvs0,loc,h1,_⟩:=h.tb
 rw [B _ _ h1 hd] at e
 cases e
 exact hq _ h1
section
variable {K:W.Frag} {a:Ads} {H H':Hp} {n m:Nat} {bk dx lk dd:Nat->Addr} {kd:Nat->Fin 3} {ps:Nat->List Int} {f:Nat->List Int->Option Slt} {O:Nat->Addr->Prop}
theorem Bks.frame (h:Bks K a H n bk dx lk dd kd ps f O m) {O2:Addr->Prop} (B:yod O2 H H') (dj:∀ i b,i < n->O i b->¬ O2 b) (hp:∀ i,i < n->¬ O2 (bk i)) (ht:∀ t xs,SqT K H t xs->SqT K H' t xs):Bks K a H' n bk dx lk dd kd ps f O m :=
 ⟨fun i hi=>(h.look i hi).mvT ht,fun i hi=>(h.b i hi).frame B (fun b hb=>dj i b hi hb) (hp i hi),h.dj,h.nb⟩
theorem Bks.same (h:Bks K a H n bk dx lk dd kd ps f O m) (S:vh H H'):Bks K a H' n bk dx lk dd kd ps f O m :=
 h.frame (O2:=fun _=>False) (fun b o e _=>S b o e) (fun _ _ _ _ z=>z) (fun _ _ z=>z) fun _ _ e=>S.tup e
theorem Bks.move (h:Bks K a H n bk dx lk dd kd ps f O m) {j m':Nat} (hj:j < n) {f':List Int->Option Slt} {O':Addr->Prop} (hm:m <= m') (hb:yam a H' (bk j) (dx j) (lk j) (dd j) (kd j) f' O' m') (hO:∀ c,O' c->O j c\/H c=none) (B:yod (O j) H H') :
  Bks K a H' n bk dx lk dd kd ps (fun i=>if i=j then f' else f i) (fun i=>if i=j then O' else O i) m':=by
 have hbj:=h.b j hj
 have live:∀ q c,q < n->q≠j->O q c->¬ O' c:=fun q c hq hqj w w'=>by
  rcases hO c w' with v | v
  ·exact h.dj q j c hq hj hqj w v
  ·obtain ⟨o,ho,_⟩:=(h.b q hq).own c w
   rw [v] at ho
   cases ho
 refine ⟨fun i hi=>(h.look i hi).mvT fun t xs e=>hbj.sqt B e,fun i hi=>?_,fun i l c hi hl hil e1 e2=>?_,fun i l hi hl e=>?_⟩
 ·try dsimp only
  by_cases z:i=j
  ·subst z
   rw [if_pos rfl,if_pos rfl]
   exact hb
  ·rw [if_neg z,if_neg z]
   exact ((h.b i hi).frame B (fun b hb'=>h.dj i j b hi hj z hb') (h.nb j i hj hi)).up hm
 ·try dsimp only at e1 e2
  by_cases z1:i=j
  ·rw [if_pos z1] at e1
   have z2:l≠j:=fun w=>hil (z1.trans w.symm)
   rw [if_neg z2] at e2
   exact live l c hl z2 e2 e1
  ·rw [if_neg z1] at e1
   by_cases z2:l=j
   ·rw [if_pos z2] at e2
    exact live i c hi z1 e1 e2
   ·rw [if_neg z2] at e2
    exact h.dj i l c hi hl hil e1 e2
 ·try dsimp only at e
  by_cases z:i=j
  ·rw [if_pos z] at e
   rcases hO _ e with v | v
   ·exact h.nb j l hj hl v
   ·rw [(h.b l hl).me] at v
    cases v
  ·rw [if_neg z] at e
   exact h.nb i l hi hl e
theorem AtS.move (h:Bks K a H n bk dx lk dd kd ps f O m) {i j:Nat} (hi:i < n) (hj:j < n) (hij:i≠j) (B:yod (O j) H H') {k:List Int} {q:Addr} (hq:AtS H (dd i) k q):AtS H' (dd i) k q:=fun kvs e=>by
 obtain ⟨kvs0,loc,h1,_⟩:=(h.b i hi).tb
 rw [B _ _ h1 (h.dj i j _ hi hj hij (h.b i hi).dO)] at e
 cases e
 exact hq _ h1
theorem Bks.nlst (h:Bks K a H n bk dx lk dd kd ps f O m) {l:Addr} {xs:List V} (hl:H l=some (.lst xs)):∀ i,i < n->¬ O i l:=fun i hi z=>by
 obtain ⟨o,ho,hi'⟩:=(h.b i hi).own l z
 rw [hl] at ho
 cases ho
 cases hi'
end
def yob (n:Nat) (kd:Nat->Fin 3) (f:Nat->List Int->Option Slt) (g:Nat->List Int->Slt):Prop:=∀ i,i < n->∀ k,(f i k).getD (kd0 (kd i))=g i k
theorem yob.put {n:Nat} {kd:Nat->Fin 3} {f:Nat->List Int->Option Slt} {g:Nat->List Int->Slt} (h:yob n kd f g) (j:Nat) (hj:j < n) (k:List Int):yob n kd (fun i=>if i=j then ydk (f j) k ((f j k).getD (kd0 (kd j))) else f i) g:=fun i hi k'=>by
 dsimp only
 by_cases z:i=j
 ·subst z
  rw [if_pos rfl]
  unfold ydk
  by_cases w:k'=k
  ·rw [if_pos w,w]
   exact h i hi k
  ·rw [if_neg w]
   exact h i hi k'
 ·rw [if_neg z]
  exact h i hi k'
def yhs (K:W.Frag) (a:Ads):Sp:=fun vs H Q _=>∃ (p dp ll bl mp el pl0:Addr) (nd:Int) (sg:List Int) (n m:Nat) (bk dx lk dd:Nat->Addr) (kd:Nat->Fin 3) (ps:Nat->List Int) (f:Nat->List Int->Option Slt) (O:Nat->Addr->Prop) (g:Nat->List Int->Slt),vs=[.ref p] /\
 H p=some (.ins a.C_Ft dp (x5 (.ref ll) (.ref bl) (.ref mp) (.ref el) (.int nd) (.ref pl0)))/\H bl=some (.lst (refs bk n))/\H el=some (.lst (sg.map V.int))/\Bks K a H n bk dx lk dd kd ps f O m/\yob n kd f g/\n <= 6/\m+10 < 1000000/\(∀ i,i < n->¬ O i p) /\
 ∀ (pl:Addr) (sl:Nat->Addr) (f':Nat->List Int->Option Slt) (O':Nat->Addr->Prop) (H':Hp),H' p=some (.ins a.C_Ft dp (x5 (.ref ll) (.ref bl) (.ref mp) (.ref el) (.int nd) (.ref pl)))->H' pl=some (.lst (refs sl n))->H pl=none ->
  Bks K a H' n bk dx lk dd kd ps f' O' (m+n)->yob n kd f' g->(∀ j,j < n->(∃ s,f' j (ctx (ps j) sg nd)=some s)/\AtS H' (dd j) (ctx (ps j) sg nd) (sl j))->(∀ j c,j < n->O' j c->O j c\/H c=none) ->
  (∀ c o,H c=some o->c≠p->(∀ j,j < n->¬ O j c)->H' c=some o)->(∀ c o,H c=some o->∃ o',H' c=some o')->Q .non H'
theorem yps (T:Txt K mg a):wc P w K mg base CX0 5 a.f_q37 a.d_q37 ["self"] (yhs K a):=by
 refine T.y_q37.F.ok yw8 (fun vs H Q E h=>?_) (fun cdv A outer s H vs Q E hr h=>?_)
 ·obtain ⟨p,dp,ll,bl,mp,el,pl0,nd,sg,n,m,bk,dx,lk,dd,kd,ps,f,O,g,rfl,_⟩:=h
  rfl
 ·obtain ⟨p,dp,ll,bl,mp,el,pl0,nd,sg,n,m,bk,dx,lk,dd,kd,ps,f,O,g,rfl,hp,hbl,hel,hB,hA,n6,hm,np,k⟩:=h
  refine ⟨_,(yh (vo (pv 0) (ur (js:=[0]) (ys:=["self"]) rfl (v8 (yx (pv 0) rfl)) (fun C s2 H2 fp=>(x4 (pv 0) T.cl_Book T.y_q32.m (yxu T) (hr.mono (by decide)) T.y_q32.B .nil y7 (yc (ykz (K:=K) rfl (pv 1) rfl) (yc (ykz (K:=K) rfl (pv 1) rfl) yf (ya rfl)) (ya rfl)))) rfl rfl (hyc:=(all_cons rfl vy)) (hrel:=(all_cons rfl vy))) rfl)),?_⟩
  try dsimp only [wa]
  refine yo (σ':=[some _]) rfl ?_
  walk_at "rd"
  refine ⟨bl,rfl,⟨_,SqL.of hbl⟩,fun D hD=>?_⟩
  have nbl:=hB.nlst hbl
  have nel:=hB.nlst hel
  refine j4 (K:=K) (xs:=refs bk n) (fun i G=>∃ (sl:Nat->Addr) (f':Nat->List Int->Option Slt) (O':Nat->Addr->Prop),G D=some (.lst (refs sl i))/\Bks K a G n bk dx lk dd kd ps f' O' (m+i)/\yob n kd f' g/\(∀ j,j < i->(∃ s,f' j (ctx (ps j) sg nd)=some s)/\AtS G (dd j) (ctx (ps j) sg nd) (sl j)) /\
   (∀ j c,j < n->O' j c->O j c\/H c=none)/\(∀ c o,H c=some o->(∀ j,j < n->¬ O j c)->G c=some o)/\(∀ c o,H c=some o->∃ o',G c=some o'))
   ⟨fun _=>0,f,O,yd,hB.same (vj hD),hA,fun j hj=>absurd hj (Nat.not_lt_zero j),fun j c _ z=>.inl z,fun c o e _=>xo hD e,fun c o e=>⟨o,xo hD e⟩⟩ (fun i G _ z=>?_) (fun i x G hx hi z=>?_) (fun G z=>?_)
  ·obtain ⟨_,_,_,_,_,_,_,_,w,_⟩:=z
   exact SqL.of (w _ _ hbl nbl)
  ·obtain ⟨sl,f',O',gD,gB,gA,gS,gO,gF,gL⟩:=z
   obtain ⟨rfl,hin⟩:=ub hx
   have hpG:=gF _ _ hp np
   have helG:=gF _ _ hel nel
   have hme:=(gB.b i hin).me
   show yf7 _ _ _ _ _ _ _ (some (V.ref (bk i)) :: w5 [0] [some (V.ref p)]) G _
   walk_at "rd"
   refine ⟨bk i,dx i,lk i,dd i,el,kd i,f' i,O' i,m+i,ps i,sg,nd,rfl,gB.b i hin,by omega,gB.look i hin,SqL.of helG,fun q O2 G2 hb2 hv hO2 hM2 B2=>?_⟩
   have nD:=gB.nlst gD
   have gD2:G2 D=some (.lst (refs sl i)):=B2 _ _ gD (nD i hin)
   refine w9 (n:=(refs bk n).length) gD2 (vq (by rw [vt]; omega)) hi ?_
   have M2:=gB.move hin (Nat.le_succ (m+i)) hb2 hO2 B2
   have nD2:=M2.nlst gD2
   have SB:∀ c o,G2 c=some o->c≠D->upd G2 D (.lst (refs sl i++[V.ref q])) c=some o:=fun c o e ne=>ym ne e
   have M3:=M2.frame (O2:=fun c=>c=D) (fun c o e ne=>SB c o e ne) (fun j c hj w z=>nD2 j hj (z ▸ w)) (fun j hj z=>by
    have:=(M2.b j hj).me
    rw [z,gD2] at this
    cases this) (fun t xs e=>by
    rcases e with (e | ⟨o,e⟩) | e
    ·exact .inl (.inl (SB _ _ e (fun z=>by rw [z,gD2] at e; cases e)))
    ·exact .inl (.inr ⟨o,SB _ _ e (fun z=>by rw [z,gD2] at e; cases e)⟩)
    ·exact .inr e)
   have up:∀ j,j < n->AtS G2 (dd j) (ctx (ps j) sg nd) (if j=i then q else sl j)->AtS (upd G2 D (.lst (refs sl i++[V.ref q]))) (dd j) (ctx (ps j) sg nd) (if j=i then q else sl j):=fun j hj h =>
    h.told (M2.b j hj) (fun z=>nD2 j hj (by rw [<- z]; exact (M2.b j hj).dO)) (fun c o e ne=>SB c o e ne)
   refine ⟨fun j=>if j=i then q else sl j,_,_,?_,M3,gA.put i hin _,fun j hj=>?_,fun j c hj w=>?_,fun c o e no=>?_,fun c o e=>?_⟩
   ·rw [yd,ue,if_pos rfl]
    congr 3
    exact xw fun j hj=>(if_neg (by omega)).symm
   ·by_cases z:j=i
    ·subst z
     refine ⟨⟨(f' j (ctx (ps j) sg nd)).getD (kd0 (kd j)),?_⟩,up j hin ?_⟩
     ·try dsimp only
      rw [if_pos rfl]
      unfold ydk
      rw [if_pos rfl]
     ·rw [if_pos rfl]
      exact hv
    ·have hjn:j < n:=by omega
     obtain ⟨⟨s',hs'⟩,hat⟩:=gS j (by omega)
     refine ⟨⟨s',?_⟩,up j hjn ?_⟩
     ·try dsimp only
      rw [if_neg z]
      exact hs'
     ·rw [if_neg z]
      exact hat.move gB hjn hin z B2
   ·try dsimp only at w
    by_cases z:j=i
    ·subst z
     rw [if_pos rfl] at w
     rcases hO2 c w with v | v
     ·exact gO j c hj v
     ·refine .inr ?_
      cases e:H c with
      | none=>rfl
      | some o =>
       obtain ⟨o',w'⟩:=gL c o e
       rw [w'] at v
       cases v
    ·rw [if_neg z] at w
     exact gO j c hj w
   ·have hG:=gF c o e no
    have nc:¬ O' i c:=fun w=>by
     rcases gO i c hin w with v | v
     ·exact no i hin v
     ·rw [e] at v
      cases v
    refine SB _ _ (B2 _ _ hG nc) (fun z=>?_)
    rw [z,hD] at e
    cases e
   ·obtain ⟨o1,w1⟩:=gL c o e
    have ncD:c≠D:=fun z=>by rw [z,hD] at e; cases e
    by_cases w2:O' i c
    ·obtain ⟨o2,ho2,_⟩:=hb2.own c (hM2 c w2)
     exact ⟨o2,SB _ _ ho2 ncD⟩
    ·exact ⟨o1,SB _ _ (B2 _ _ w1 w2) ncD⟩
  ·obtain ⟨sl,f',O',gD,gB,gA,gS,gO,gF,gL⟩:=z
   rw [vt] at gD gB gS
   have hpG:=gF _ _ hp np
   walk_at "rd"
   have nDp:D≠p:=fun z=>by rw [z,hp] at hD; cases hD
   have BP:But p G (upd G p (.ins a.C_Ft dp (x5 (.ref ll) (.ref bl) (.ref mp) (.ref el) (.int nd) (.ref D)))):=But.upd
   have np':∀ i,i < n->¬ O' i p:=fun i hi w=>by
    rcases gO i p hi w with v | v
    ·exact np i hi v
    ·rw [hp] at v; cases v
   have M3:=gB.frame (O2:=fun c=>c=p) (fun c o e ne=>BP c o e ne) (fun j c hj w z=>np' j hj (z ▸ w)) (fun j hj z=>by
    have:=(gB.b j hj).me
    rw [z,hpG] at this
    injection this with this
    injection this with _ _ e
    exact absurd (congrArg List.length e) (show ¬ (6=2) by decide)) (fun t xs e=>by
    rcases e with (e | ⟨o,e⟩) | e
    ·exact .inl (.inl (BP _ _ e (fun z=>by rw [z,hpG] at e; cases e)))
    ·exact .inl (.inr ⟨o,BP _ _ e (fun z=>by rw [z,hpG] at e; cases e)⟩)
    ·exact .inr e)
   refine k D sl f' O' _ yd (ym nDp gD) hD M3 gA (fun j hj=>⟨(gS j hj).1,(gS j hj).2.told (gB.b j hj) (fun z=>np' j hj (by rw [<- z]; exact (gB.b j hj).dO)) BP⟩) gO (fun c o e nc no=>BP _ _ (gF c o e no) nc) fun c o e=>?_
   by_cases zc:c=p
   ·rw [zc]
    exact ⟨_,yd⟩
   ·obtain ⟨o1,w1⟩:=gL c o e
    exact ⟨o1,BP _ _ w1 zc⟩
structure FA where
 dp:Addr
 ll:Addr
 bl:Addr
 mp:Addr
 mx:Addr
 ml:Addr
 el:Addr
 pl:Addr
 n:Nat
 bk:Nat->Addr
 dx:Nat->Addr
 lk:Nat->Addr
 dd:Nat->Addr
 sl:Nat->Addr
 kd:Nat->Fin 3
 ps:Nat->List Int
structure FX where
 g:Nat->List Int->Slt
 ws:List Int
 sg:List Int
 nd:Int
def FX.key (X:FX) (A:FA) (i:Nat):List Int:=ctx (A.ps i) X.sg X.nd
def FX.cs (X:FX) (A:FA):List Int:=(List.range A.n).map fun i=>(X.g i (X.key A i)).due
def ndN (nd b:Int):Int:=if 0 < nd then (if 256 <= 2 * nd+b then 0 else 2 * nd+b) else if b=1 then 1 else nd
def sgN (sg:List Int) (nd b:Int):List Int:=if 0 < nd then (if 256 <= 2 * nd+b then sg++[2 * nd+b - 256] else sg) else if b=1 then sg else []
def FX.see (X:FX) (A:FA) (b:Int):FX:={ g:=fun i k=>if k=X.key A i then (X.g i k).see b else X.g i k,ws:=lrn X.ws (X.cs A) b,sg:=sgN X.sg X.nd b,nd:=ndN X.nd b }
structure uy (K:W.Frag) (a:Ads) (H:Hp) (p:Addr) (A:FA) (X:FX) (f:Nat->List Int->Option Slt) (O:Nat->Addr->Prop) (m:Nat):Prop where
 me:H p=some (.ins a.C_Ft A.dp (x5 (.ref A.ll) (.ref A.bl) (.ref A.mp) (.ref A.el) (.int X.nd) (.ref A.pl)))
 bl:H A.bl=some (.lst (refs A.bk A.n))
 el:H A.el=some (.lst (X.sg.map V.int))
 mx:yn9 a A.mp A.mx A.ml X.ws H
 wok:WOk A.n X.ws
 pl:H A.pl=some (.lst (refs A.sl A.n))
 B:Bks K a H A.n A.bk A.dx A.lk A.dd A.kd A.ps f O m
 ag:yob A.n A.kd f X.g
 at':∀ j,j < A.n->(∃ s,f j (X.key A j)=some s)/\AtS H (A.dd j) (X.key A j) (A.sl j)
 np:∀ i,i < A.n->¬ O i p
 nm:∀ i,i < A.n->¬ O i A.mp
 n1:1 <= A.n
 n6:A.n <= 6
theorem uy.same {K:W.Frag} {a:Ads} {H H':Hp} {p:Addr} {A:FA} {X:FX} {f:Nat->List Int->Option Slt} {O:Nat->Addr->Prop} {m:Nat} (h:uy K a H p A X f O m) (S:vh H H'):uy K a H' p A X f O m :=
 ⟨S _ _ h.me,S _ _ h.bl,S _ _ h.el,h.mx.same S,h.wok,S _ _ h.pl,h.B.same S,h.ag,fun j hj=>⟨(h.at' j hj).1,fun kvs e=>by
  obtain ⟨kvs0,loc,h1,_⟩:=(h.B.b j hj).tb
  rw [S _ _ h1] at e
  cases e
  exact (h.at' j hj).2 _ h1⟩,h.np,h.nm,h.n1,h.n6⟩
theorem uy.slot {K:W.Frag} {a:Ads} {H:Hp} {p:Addr} {A:FA} {X:FX} {f:Nat->List Int->Option Slt} {O:Nat->Addr->Prop} {m:Nat} (h:uy K a H p A X f O m) {j:Nat} (hj:j < A.n) :
  f j (X.key A j)=some (X.g j (X.key A j))/\(∃ dq,H (A.sl j)=some (oS a dq (X.g j (X.key A j))))/\(X.g j (X.key A j)).ok/\O j (A.sl j):=by
 obtain ⟨⟨s,hs⟩,hat⟩:=h.at' j hj
 have e:=h.ag j hj (X.key A j)
 rw [hs] at e
 have e:s=X.g j (X.key A j):=e
 rw [<- e]
 obtain ⟨dq,h1,h2,h3,h4⟩:=(h.B.b j hj).slot hs hat
 exact ⟨hs,⟨dq,h1⟩,h2,h4⟩
theorem uy.cok {K:W.Frag} {a:Ads} {H:Hp} {p:Addr} {A:FA} {X:FX} {f:Nat->List Int->Option Slt} {O:Nat->Addr->Prop} {m:Nat} (h:uy K a H p A X f O m):COk A.n (X.cs A):=by
 refine ⟨by unfold FX.cs; rw [List.length_map,List.length_range],fun c hc=>?_,fun c hc=>?_⟩
 ·obtain ⟨j,hj,rfl⟩:=List.mem_map.mp hc
  exact (yhb (h.slot (List.mem_range.mp hj)).2.2.1).1
 ·obtain ⟨j,hj,rfl⟩:=List.mem_map.mp hc
  exact (yhb (h.slot (List.mem_range.mp hj)).2.2.1).2
theorem LkG.at' {K:W.Frag} {H:Hp} {lk tp:Addr} {kd:Fin 3} {ps:List Int} (h:LkG H (.ref lk) kd tp ps):zj K H lk (.str (kdS kd)) ps:=by
 obtain ⟨lk',e,h1,h2,h3⟩:=h
 cases e
 have h3:=h3
 unfold zv at h3
 rw [Bool.and_eq_true,Bool.and_eq_true,List.all_eq_true] at h3
 refine ⟨tp,SqT.of h1,SqT.of h2,fun p hp=>?_,by have:=of_decide_eq_true h3.1.1; rw [List.length_map] at this; exact this⟩
 have w:=h3.1.2 (.int p) (List.mem_map.mpr ⟨p,hp,rfl⟩)
 have w:(decide (1 <= p) && decide (p <= 8))=true:=w
 rw [Bool.and_eq_true] at w
 exact ⟨of_decide_eq_true w.1,of_decide_eq_true w.2⟩
theorem Bks.snoc {K:W.Frag} {a:Ads} {H:Hp} {n m:Nat} {bk dx lk dd:Nat->Addr} {kd:Nat->Fin 3} {ps:Nat->List Int} {f:Nat->List Int->Option Slt} {O:Nat->Addr->Prop} (h:Bks K a H n bk dx lk dd kd ps f O m)
  (hl:zj K H (lk n) (.str (kdS (kd n))) (ps n)) {q dq d:Addr} {f':List Int->Option Slt} {O':Addr->Prop} (hb:yam a H q dq (lk n) d (kd n) f' O' m) (dj:∀ j c,j < n->O j c->¬ O' c) (n1:∀ j,j < n->¬ O j q) (n2:∀ j,j < n->¬ O' (bk j)) :
  Bks K a H (n+1) (upN bk n q) (upN dx n dq) lk (upN dd n d) kd ps (upN f n f') (upN O n O') m:=by
 refine ⟨fun i hi=>?_,fun i hi=>?_,fun i j c hi hj hij e1 e2=>?_,fun i j hi hj e=>?_⟩
 ·by_cases z:i=n
  ·rw [z]
   exact hl
  ·exact h.look i (by omega)
 ·by_cases z:i=n
  ·subst z
   rw [wg,wg,wg,wg,wg]
   exact hb
  ·have hin:i < n:=by omega
   rw [wb hin,wb hin,wb hin,wb hin,wb hin]
   exact h.b i hin
 ·by_cases z:i=n
  ·subst z
   have hjn:j < i:=by omega
   rw [wg] at e1
   rw [wb hjn] at e2
   exact dj j c hjn e2 e1
  ·have hin:i < n:=by omega
   rw [wb hin] at e1
   by_cases w:j=n
   ·subst w
    rw [wg] at e2
    exact dj i c hin e1 e2
   ·have hjn:j < n:=by omega
    rw [wb hjn] at e2
    exact h.dj i j c hin hjn hij e1 e2
 ·by_cases z:i=n
  ·subst z
   rw [wg] at e
   by_cases w:j=i
   ·subst w
    rw [wg] at e
    exact hb.np e
   ·have hjn:j < i:=by omega
    rw [wb hjn] at e
    exact n2 j hjn e
  ·have hin:i < n:=by omega
   rw [wb hin] at e
   by_cases w:j=n
   ·subst w
    rw [wg] at e
    exact n1 i hin e
   ·have hjn:j < n:=by omega
    rw [wb hjn] at e
    exact h.nb i j hin hjn e
def yoe (K:W.Frag) (a:Ads) (H G:Hp) (n:Nat) (bk dx lk dd:Nat->Addr) (kd:Nat->Fin 3) (ps:Nat->List Int) (f:Nat->List Int->Option Slt) (O:Nat->Addr->Prop):Prop :=
 Bks K a G n bk dx lk dd kd ps f O 0/\(∀ j k,j < n->f j k=none)/\(∀ j c,j < n->O j c->H c=none)/\(∀ j,j < n->H (bk j)=none)
theorem yoe.zero {K:W.Frag} {a:Ads} {H G:Hp} {bk dx lk dd:Nat->Addr} {kd:Nat->Fin 3} {ps:Nat->List Int} {f:Nat->List Int->Option Slt} {O:Nat->Addr->Prop}:yoe K a H G 0 bk dx lk dd kd ps f O :=
 ⟨⟨fun i hi=>absurd hi (Nat.not_lt_zero i),fun i hi=>absurd hi (Nat.not_lt_zero i),fun i _ _ hi=>absurd hi (Nat.not_lt_zero i),fun i _ hi=>absurd hi (Nat.not_lt_zero i)⟩,fun i _ hi=>absurd hi (Nat.not_lt_zero i),fun i _ hi=>absurd hi (Nat.not_lt_zero i),fun i hi=>absurd hi (Nat.not_lt_zero i)⟩
theorem yoe.next {K:W.Frag} {a:Ads} {H G G2:Hp} {n:Nat} {bk dx lk dd:Nat->Addr} {kd:Nat->Fin 3} {ps:Nat->List Int} {f:Nat->List Int->Option Slt} {O:Nat->Addr->Prop} (h:yoe K a H G n bk dx lk dd kd ps f O) (hl:zj K G (lk n) (.str (kdS (kd n))) (ps n))
  (S:vh H G) {q dq d D:Addr} {xs ys:List V} (hq:G q=none) (hd:G d=none) (S2:vh G G2) (hb:yam a G2 q dq (lk n) d (kd n) (fun _=>none) (fun b=>b=d) 0) (hD:G D=some (.lst xs)) :
  yoe K a H (upd G2 D (.lst ys)) (n+1) (upN bk n q) (upN dx n dq) lk (upN dd n d) kd ps (upN f n fun _=>none) (upN O n fun b=>b=d):=by
 obtain ⟨hB,h1,h2,h3⟩:=h
 have live:∀ j c,j < n->O j c->∃ o,G c=some o:=fun j c hj w=>let ⟨o,ho,_⟩:=(hB.b j hj).own c w; ⟨o,ho⟩
 have M:=(hB.same S2).snoc (hl.same S2) hb (fun j c hj w z=>by
  obtain ⟨o,ho⟩:=live j c hj w
  rw [show c=d from z,hd] at ho
  cases ho) (fun j hj w=>by
  obtain ⟨o,ho⟩:=live j q hj w
  rw [hq] at ho
  cases ho) (fun j hj z=>by
  have e:=(hB.b j hj).me
  rw [show bk j=d from z,hd] at e
  cases e)
 have hD2:=S2 _ _ hD
 have nD:=M.nlst hD2
 have SB:∀ c o,G2 c=some o->c≠D->upd G2 D (.lst ys) c=some o:=fun c o e ne=>ym ne e
 refine ⟨M.frame (O2:=fun c=>c=D) (fun c o e ne=>SB c o e ne) (fun j c hj w z=>nD j hj (z ▸ w)) (fun j hj z=>?_) (fun t xs e=>?_),fun j k hj=>?_,fun j c hj w=>?_,fun j hj=>?_⟩
 ·have e:=(M.b j hj).me
  rw [z,hD2] at e
  cases e
 ·rcases e with (e | ⟨o,e⟩) | e
  ·exact .inl (.inl (SB _ _ e (fun z=>by rw [z,hD2] at e; cases e)))
  ·exact .inl (.inr ⟨o,SB _ _ e (fun z=>by rw [z,hD2] at e; cases e)⟩)
  ·exact .inr e
 ·by_cases z:j=n
  ·rw [z,wg]
  ·rw [wb (by omega)]
   exact h1 j k (by omega)
 ·by_cases z:j=n
  ·rw [z,wg] at w
   rw [show c=d from w]
   exact S.free hd
  ·rw [wb (by omega)] at w
   exact h2 j c (by omega) w
 ·by_cases z:j=n
  ·rw [z,wg]
   exact S.free hq
  ·rw [wb (by omega)]
   exact h3 j (by omega)
theorem yoe.ag {K:W.Frag} {a:Ads} {H G:Hp} {n:Nat} {bk dx lk dd:Nat->Addr} {kd:Nat->Fin 3} {ps:Nat->List Int} {f:Nat->List Int->Option Slt} {O:Nat->Addr->Prop} (h:yoe K a H G n bk dx lk dd kd ps f O):yob n kd f (fun i _=>kd0 (kd i)):=fun i hi k=>by
 rw [h.2.1 i k hi]
 rfl
def FX0 (n:Nat) (kd:Nat->Fin 3):FX:={ g:=fun i _=>kd0 (kd i),ws:=List.replicate n 1099511627776,sg:=[],nd:=0 }
theorem ymz {g:Nat->Addr} {n:Nat} {x:V} (h:x∈refs g n):∃ i,i < n/\x=.ref (g i):=by
 unfold refs at h
 obtain ⟨i,hi,e⟩:=List.mem_map.mp h
 exact ⟨i,List.mem_range.mp hi,e.symm⟩
theorem jz.lks {H:Hp} {n:Nat} {lk:Nat->Addr} {kd:Nat->Fin 3} {tp:Nat->Addr} {ps:Nat->List Int} (h:jz H n lk kd tp ps):Lks H (refs lk n):=fun y hy=>by
 obtain ⟨i,hi,rfl⟩:=ymz hy
 exact ⟨_,_,_,h i hi⟩
theorem uy.frame {K:W.Frag} {a:Ads} {H H':Hp} {p:Addr} {A:FA} {X:FX} {f:Nat->List Int->Option Slt} {O:Nat->Addr->Prop} {m:Nat} (h:uy K a H p A X f O m) {O2:Addr->Prop} (B:yod O2 H H') (hp:¬ O2 p) (hm:¬ O2 A.mp) (hb:∀ i,i < A.n->¬ O2 (A.bk i))
  (dj:∀ i c,i < A.n->O i c->¬ O2 c) (hl:∀ l xs,(l=A.bl\/l=A.el\/l=A.ml\/l=A.pl)->H l=some (.lst xs)->H' l=some (.lst xs)) (ht:∀ t xs,SqT K H t xs->SqT K H' t xs):uy K a H' p A X f O m :=
 ⟨B _ _ h.me hp,hl _ _ (.inl rfl) h.bl,hl _ _ (.inr (.inl rfl)) h.el,⟨B _ _ h.mx.o hm,hl _ _ (.inr (.inr (.inl rfl))) h.mx.l⟩,h.wok,hl _ _ (.inr (.inr (.inr rfl))) h.pl,h.B.frame B (fun i c hi w=>dj i c hi w) hb ht,h.ag,fun j hj=>⟨(h.at' j hj).1,fun kvs e=>by
  obtain ⟨kvs0,loc,h1,_⟩:=(h.B.b j hj).tb
  rw [B _ _ h1 (dj j _ hj (h.B.b j hj).dO)] at e
  cases e
  exact (h.at' j hj).2 _ h1⟩,h.np,h.nm,h.n1,h.n6⟩
theorem yqe {K:W.Frag} {G:Hp} {t c:Addr} {xs ys zs:List V} (hc:G c=some (.lst ys)) (e:SqT K G t xs):SqT K (upd G c (.lst zs)) t xs:=by
 rcases e with (e | ⟨o,e⟩) | e
 ·exact .inl (.inl (ym (xf e hc (by intro z; cases z)) e))
 ·exact .inl (.inr ⟨o,ym (xf e hc (by intro z; cases z)) e⟩)
 ·exact .inr e
theorem uy.app {K:W.Frag} {a:Ads} {H:Hp} {p R:Addr} {A:FA} {X:FX} {f:Nat->List Int->Option Slt} {O:Nat->Addr->Prop} {m:Nat} {xs ys:List V} (h:uy K a H p A X f O m) (hR:H R=some (.lst xs)) (hq:∀ q,(q=A.bl\/q=A.el\/q=A.ml\/q=A.pl)->q≠R):uy K a (upd H R (.lst ys)) p A X f O m:=by
 refine h.frame (O2:=fun c=>c=R) (fun c o e ne=>ym ne e) (fun z=>?_) (fun z=>?_) (fun i hi z=>?_) (fun i c hi w z=>h.B.nlst hR i hi (z ▸ w)) (fun l xs w e=>ym (hq l w) e) (fun t xs e=>yqe hR e)
 ·have e:=h.me
  rw [z,hR] at e
  cases e
 ·have e:=h.mx.o
  rw [z,hR] at e
  cases e
 ·have e:=(h.B.b i hi).me
  rw [z,hR] at e
  cases e
theorem yyp (n:Nat) (n1:1 <= n) (n6:n <= 6):WOk n (List.replicate n 1099511627776):=by
 refine ⟨List.length_replicate,fun w h=>?_,fun w h=>?_⟩ <;> (rw [List.eq_of_mem_replicate h]; decide)
theorem yx3:yn ["self","looks"] ["self","looks"] (yi yss):=⟨rfl,rfl,rfl,by decide +kernel,rfl,by decide +kernel,by decide +kernel⟩
structure vci (K:W.Frag) (a:Ads) (H H':Hp) (p:Addr) (n:Nat) (lk:Nat->Addr) (kd:Nat->Fin 3) (ps:Nat->List Int) (A:FA) (f:Nat->List Int->Option Slt) (O:Nat->Addr->Prop):Prop where
 ft:uy K a H' p A (FX0 n kd) f O 6
 en:A.n=n
 elk:A.lk=lk
 ekd:A.kd=kd
 eps:A.ps=ps
 oO:∀ j c,j < n->O j c->H c=none
 oB:∀ j,j < n->H (A.bk j)=none
 oM:H A.mp=none
 oL:∀ l,(l=A.bl\/l=A.el\/l=A.ml\/l=A.pl)->H l=none
def ym6 (K:W.Frag) (a:Ads):Sp:=fun vs H Q E=>∃ (p dp:Addr) (x:V),vs=[.ref p,x]/\H p=some (.ins a.C_Ft dp []) /\
 ((vcn K H x/\∀ H',vh H H'->E (.ref a.C_NL) none H')\/∃ (l:Addr) (n:Nat) (lk:Nat->Addr) (kd:Nat->Fin 3) (tp:Nat->Addr) (ps:Nat->List Int),x=.ref l/\H l=some (.lst (refs lk n))/\1 <= n/\n <= 6/\jz H n lk kd tp ps /\
  ∀ A f O H',vci K a H H' p n lk kd ps A f O->But p H H'->Q .non H')
theorem ylh (T:Txt K mg a):wc P w K mg base (CXe P w) 6 a.f_q36 a.d_q36 ["self","looks"] (ym6 K a):=by
 refine T.y_q36.F.okE yx3 (fun vs H Q E h=>?_) (fun cdv A outer s H vs Q E hr h=>?_)
 ·obtain ⟨p,dp,x,rfl,_⟩:=h
  rfl
 ·obtain ⟨p,dp,x,rfl,hp,h⟩:=h
  refine yk (vo (pv 0) (vk (yv0 T) (hr.mono (by decide)) rfl T.y_q28.m T.y_q28.F.kp T.y_q28.B .nil v7 (yc (pv 1) yf (ya rfl))) rfl) ?_
  refine yk (vo (pv 0) (uh rfl (v8 (yx (pv 0) rfl)) (fun C s2 H2 fp=>(ykn T.k_Book (yxv T) (hr.mono (by decide)) rfl T.m_Book T.y_q31.B .nil y7 (yc (pv 0) yf (ya rfl))))) rfl) ?_
  refine yk (vo (pv 0) (ykn T.k_Mx (yvp T) (hr.mono (by decide)) rfl T.m_Mx T.y_q33.B .nil y7 (yc (yp yr rfl T.z_len (by decide +kernel) (yc (yx (pv 0) rfl) yf (ya rfl))) yf (ya rfl))) rfl) ?_
  refine yk (vo (pv 0) (w4 yf) rfl) ?_
  refine yk (vo (pv 0) yg rfl) ?_
  refine yk (vo (pv 0) (w4 yf) rfl) ?_
  refine ⟨_,(yh (y9 (wv (pv 0) T.cl_Ft T.y_q37.m (yps T) (hr.mono (by decide)) T.y_q37.B .nil y7))),?_⟩
  try dsimp only [wa]
  refine yo (σ':=[some _,some _]) rfl ?_
  walk_at "rd"
  rcases h with ⟨hb,k⟩ | ⟨l,n,lk,kd,tp,ps,rfl,hl,n1,n6,hlk,k⟩
  ·rcases hb with ⟨nm,ty,hn⟩ | ⟨l,xs,bs,rfl,hl,hz,hbs,no⟩
   ·exact .inl ⟨x,nm,rfl,ty,hn,k _ (vh.refl _)⟩
   ·exact .inr ⟨l,xs,bs,rfl,hl,hz,hbs,fun z=>absurd z no,fun _ H' S=>k _ S⟩
  ·refine .inr ⟨l,refs lk n,List.replicate (refs lk n).length true,rfl,hl,by rw [vt]; omega,hlk.lks.bs,fun _ ll H1 hll0 hll1 S1=>?_,fun no=>absurd ⟨by rw [vt]; exact n1,by rw [vt]; exact n6,yr7 _⟩ no⟩
   have hp1:=S1 _ _ hp
   have hlk1:=hlk.same S1
   walk_at "rd"
   have hpA:upd H1 p (HO.ins a.C_Ft dp ([("looks",V.ref ll)]:List (Str × V))) p=some (HO.ins a.C_Ft dp ([("looks",V.ref ll)]:List (Str × V))):=yd
   have BA:But p H1 (upd H1 p (HO.ins a.C_Ft dp ([("looks",V.ref ll)]:List (Str × V)))):=But.upd
   have nlp:ll≠p:=(ye hp hll0).symm
   have hllA:upd H1 p (HO.ins a.C_Ft dp ([("looks",V.ref ll)]:List (Str × V))) ll=some (.lst (refs lk n)):=ym nlp hll1
   generalize upd H1 p (HO.ins a.C_Ft dp ([("looks",V.ref ll)]:List (Str × V)))=HA at hpA BA hllA ⊢
   have B0A:But p H HA:=(But.of S1).trans BA
   have hRA:jz HA n lk kd tp ps:=fun i hi=>by
    obtain ⟨q,e,h1,h2,h3⟩:=hlk i hi
    exact ⟨q,e,B0A _ _ h1 (xf h1 hp (by intro z; cases z)),B0A _ _ h2 (xf h2 hp (by intro z; cases z)),h3⟩
   refine ⟨p,_,dp,_,_,rfl,hpA,T.cl_Ft,T.n_Ft_looks,rfl,?_⟩
   refine ⟨ll,rfl,⟨_,SqL.of hllA⟩,fun bl hbl0=>?_⟩
   refine uf (K:=K) (xs:=refs lk n) (fun i G=>∃ (bk dx dd:Nat->Addr) (f2:Nat->List Int->Option Slt) (O2:Nat->Addr->Prop),G bl=some (.lst (refs bk i))/\yoe K a HA G i bk dx lk dd kd ps f2 O2/\vh HA G)
    ⟨fun _=>0,fun _=>0,fun _=>0,fun _ _=>none,fun _ _=>False,yd,yoe.zero,vj hbl0⟩ (fun i G _ z=>?_) (fun i y G hy hi z=>?_) (fun G z=>?_)
   ·obtain ⟨_,_,_,_,_,_,_,SG⟩:=z
    exact SqL.of (SG _ _ hllA)
   ·obtain ⟨bk,dx,dd,f2,O2,gbl,gN,SG⟩:=z
    obtain ⟨rfl,hin⟩:=ub hy
    walk_at "rd"
    intro q dq nq ndq neq
    have SQ:vh G (upd (upd G dq (.own q)) q (.ins a.C_Book dq [])):=fun b o e=>by rw [yu (ye e nq),yu (ye e ndq)]; exact e
    refine ⟨q,dq,lk i,kd i,rfl,yd,fun d G2 hd0 hb2 B2=>⟨rfl,?_⟩⟩
    have S2':vh G G2:=fun b o e=>B2 b o (SQ b o e) (ye e nq)
    refine w9 (n:=(refs lk n).length) (S2' _ _ gbl) (vq (by rw [vt]; omega)) hi ?_
    refine ⟨_,_,_,_,_,?_,gN.next ((hRA i hin).same SG).at' SG nq (SQ.free hd0) S2' hb2 gbl,fun b o e=>ym (ye e hbl0) (S2' _ _ (SG b o e))⟩
    rw [yd,ue,wg]
    congr 3
    exact xw fun j hj=>(wb hj).symm
   obtain ⟨bk,dx,dd,f2,O2,gbl,gN,SG⟩:=z
   rw [vt] at gbl gN
   have hpG:=SG _ _ hpA
   walk_at "rd"
   have SAG:∀ c o,HA c=some o->c≠p->upd G p (HO.ins a.C_Ft dp ([("looks",V.ref ll),("books",V.ref bl)]:List (Str × V))) c=some o:=fun c o e ne=>ym ne (SG _ _ e)
   have hpB:upd G p (HO.ins a.C_Ft dp ([("looks",V.ref ll),("books",V.ref bl)]:List (Str × V))) p=some (HO.ins a.C_Ft dp ([("looks",V.ref ll),("books",V.ref bl)]:List (Str × V))):=yd
   have nbp:bl≠p:=(ye hpA hbl0).symm
   have hblB:upd G p (HO.ins a.C_Ft dp ([("looks",V.ref ll),("books",V.ref bl)]:List (Str × V))) bl=some (.lst (refs bk n)):=ym nbp gbl
   have BP:∀ {fs:List (Str × V)},But p G (upd G p (HO.ins a.C_Ft dp fs)):=But.upd
   have npO:∀ j,j < n->¬ O2 j p:=fun j hj w=>by
    have e:=gN.2.2.1 j p hj w
    rw [hpA] at e
    cases e
   have bkB:∀ {G':Hp},But p G G'->Bks K a G' n bk dx lk dd kd ps f2 O2 0:=fun {G'} B=>gN.1.frame (O2:=fun c=>c=p) (fun c o e ne=>B c o e ne) (fun j c hj w z=>npO j hj (z ▸ w)) (fun j hj z=>by
    have e:=gN.2.2.2 j hj
    rw [z,hpA] at e
    cases e) (fun t xs e=>by
    rcases e with (e | ⟨o,e⟩) | e
    ·exact .inl (.inl (B _ _ e (fun z=>by rw [z,hpG] at e; cases e)))
    ·exact .inl (.inr ⟨o,B _ _ e (fun z=>by rw [z,hpG] at e; cases e)⟩)
    ·exact .inr e)
   have BB:But p G (upd G p (HO.ins a.C_Ft dp ([("looks",V.ref ll),("books",V.ref bl)]:List (Str × V)))):=But.upd
   generalize upd G p (HO.ins a.C_Ft dp ([("looks",V.ref ll),("books",V.ref bl)]:List (Str × V)))=HB at SAG hpB hblB BB ⊢
   refine ⟨p,_,dp,_,_,rfl,hpB,T.cl_Ft,T.n_Ft_looks,rfl,?_⟩
   refine uc (SqL.of (SAG _ _ hllA nlp)) ?_
   rw [vt]
   walk_at "rd"
   intro mp mx nmp nmx nem
   have SM:vh HB (upd (upd HB mx (.own mp)) mp (.ins a.C_Mx mx [])):=fun b o e=>by rw [yu (ye e nmp),yu (ye e nmx)]; exact e
   refine ⟨mp,mx,n,rfl,n1,n6,yd,fun ml HC hml0 MC BC=>⟨rfl,?_⟩⟩
   have SC:vh HB HC:=fun b o e=>BC b o (SM b o e) (ye e nmp)
   have hpC:=SC _ _ hpB
   have hblC:=SC _ _ hblB
   have hml0':HB ml=none:=SM.free hml0
   have nmpp:mp≠p:=(ye hpB nmp).symm
   have nmlp:ml≠p:=(ye hpB hml0').symm
   walk_at "rd"
   refine ⟨by walk_at "len",fun el hel0=>?_⟩
   have nel:el≠p:=fun z=>by rw [z,yd] at hel0; cases hel0
   have hel0':HC el=none:=by rw [yu nel] at hel0; exact hel0
   have hpD:upd (upd HC p (HO.ins a.C_Ft dp ([("looks",V.ref ll),("books",V.ref bl),("mixer",V.ref mp)]:List (Str × V)))) el (.lst []) p=some (HO.ins a.C_Ft dp ([("looks",V.ref ll),("books",V.ref bl),("mixer",V.ref mp)]:List (Str × V))):=ym nel.symm yd
   have helD:upd (upd HC p (HO.ins a.C_Ft dp ([("looks",V.ref ll),("books",V.ref bl),("mixer",V.ref mp)]:List (Str × V)))) el (.lst []) el=some (.lst []):=yd
   have BD:But p HC (upd (upd HC p (HO.ins a.C_Ft dp ([("looks",V.ref ll),("books",V.ref bl),("mixer",V.ref mp)]:List (Str × V)))) el (.lst [])):=fun b o e ne=>ym (ye e hel0') (ym ne e)
   generalize upd (upd HC p (HO.ins a.C_Ft dp ([("looks",V.ref ll),("books",V.ref bl),("mixer",V.ref mp)]:List (Str × V)))) el (.lst [])=HD at hpD helD BD ⊢
   walk_at "rd"
   refine ⟨by walk_at "len",fun pl0 hpl0=>?_⟩
   have npl:pl0≠p:=fun z=>by rw [z,yd] at hpl0; cases hpl0
   have hpl0':HD pl0=none:=by rw [yu npl,yu npl] at hpl0; exact hpl0
   have hpE:upd (upd (upd HD p (HO.ins a.C_Ft dp ([("looks",V.ref ll),("books",V.ref bl),("mixer",V.ref mp),("ended",V.ref el)]:List (Str × V)))) p (HO.ins a.C_Ft dp ([("looks",V.ref ll),("books",V.ref bl),("mixer",V.ref mp),("ended",V.ref el),("place",V.int 0)]:List (Str × V)))) pl0 (.lst []) p=some (HO.ins a.C_Ft dp ([("looks",V.ref ll),("books",V.ref bl),("mixer",V.ref mp),("ended",V.ref el),("place",V.int 0)]:List (Str × V))):=ym npl.symm yd
   have BE:But p HD (upd (upd (upd HD p (HO.ins a.C_Ft dp ([("looks",V.ref ll),("books",V.ref bl),("mixer",V.ref mp),("ended",V.ref el)]:List (Str × V)))) p (HO.ins a.C_Ft dp ([("looks",V.ref ll),("books",V.ref bl),("mixer",V.ref mp),("ended",V.ref el),("place",V.int 0)]:List (Str × V)))) pl0 (.lst [])):=fun b o e ne=>ym (ye e hpl0') (ym ne (ym ne e))
   generalize upd (upd (upd HD p (HO.ins a.C_Ft dp ([("looks",V.ref ll),("books",V.ref bl),("mixer",V.ref mp),("ended",V.ref el)]:List (Str × V)))) p (HO.ins a.C_Ft dp ([("looks",V.ref ll),("books",V.ref bl),("mixer",V.ref mp),("ended",V.ref el),("place",V.int 0)]:List (Str × V)))) pl0 (.lst [])=HE at hpE BE ⊢
   walk_at "rd"
   have BF:But p HE (upd HE p (.ins a.C_Ft dp (x5 (.ref ll) (.ref bl) (.ref mp) (.ref el) (.int 0) (.ref pl0)))):=But.upd
   have hpF:upd HE p (.ins a.C_Ft dp (x5 (.ref ll) (.ref bl) (.ref mp) (.ref el) (.int 0) (.ref pl0))) p=some (.ins a.C_Ft dp (x5 (.ref ll) (.ref bl) (.ref mp) (.ref el) (.int 0) (.ref pl0))):=yd
   generalize upd HE p (.ins a.C_Ft dp (x5 (.ref ll) (.ref bl) (.ref mp) (.ref el) (.int 0) (.ref pl0)))=HF at hpF BF ⊢
   have BCF:But p HC HF:=(BD.trans BE).trans BF
   have BGF:But p G HF:=fun b o e ne=>BCF b o (SC _ _ (BB b o e ne)) ne
   have moF:=BCF _ _ MC.o nmpp
   have mlF:=BCF _ _ MC.l nmlp
   have blF:=BCF _ _ hblC nbp
   have elF:=BF _ _ (BE _ _ helD nel) nel
   refine ⟨p,dp,ll,bl,mp,el,pl0,0,[],n,0,bk,dx,lk,dd,kd,ps,f2,O2,fun i _=>kd0 (kd i),rfl,hpF,blF,elF,bkB BGF,gN.ag,n6,by omega,npO,fun pl sl f' O' H' me' pl' hpl' B' ag' at' hO' F' L'=>?_⟩
   have freeG:∀ {c:Addr},c≠p->HF c=none->G c=none:=fun {c} ne h=>by
    cases e:G c with
    | none=>rfl
    | some o=>rw [BGF _ _ e ne] at h; cases h
   have live2:∀ j c,j < n->O2 j c->∃ o,G c=some o:=fun j c hj w=>let ⟨o,ho,_⟩:=(gN.1.b j hj).own c w; ⟨o,ho⟩
   have nO:∀ {c:Addr} {o:HO},HF c=some o->yzf o=false->∀ j,j < n->¬ O2 j c:=fun {c o} e hi j hj w=>by
    obtain ⟨o',ho',hi'⟩:=((bkB BGF).b j hj).own c w
    rw [e] at ho'
    cases ho'
    rw [hi] at hi'
    cases hi'
   have nOm:∀ j,j < n->¬ O2 j mp:=fun j hj w=>by
    obtain ⟨o,ho⟩:=live2 j mp hj w
    have e:=BB _ _ ho nmpp
    rw [nmp] at e
    cases e
   have toH:∀ {c:Addr},c≠p->HA c=none->H c=none:=fun {c} ne h=>by
    cases e:H c with
    | none=>rfl
    | some o=>rw [B0A _ _ e ne] at h; cases h
   have GtoA:∀ {c:Addr},G c=none->HA c=none:=fun {c} h=>SG.free h
   have BtoG:∀ {c:Addr},c≠p->HB c=none->G c=none:=fun {c} ne h=>by
    cases e:G c with
    | none=>rfl
    | some o=>rw [BB _ _ e ne] at h; cases h
   have CtoB:∀ {c:Addr},HC c=none->HB c=none:=fun {c} h=>SC.free h
   refine k ⟨dp,ll,bl,mp,mx,ml,el,pl,n,bk,dx,lk,dd,sl,kd,ps⟩ f' O' H' ⟨⟨me',F' _ _ blF nbp (nO blF rfl),F' _ _ elF nel (nO elF rfl),⟨F' _ _ moF nmpp nOm,F' _ _ mlF nmlp (nO mlF rfl)⟩,?_,pl',⟨B'.look,fun i hi=>(B'.b i hi).up (by omega),B'.dj,B'.nb⟩,ag',at',fun j hj w=>?_,fun j hj w=>?_,n1,n6⟩,rfl,rfl,rfl,rfl,fun j c hj w=>?_,fun j hj=>?_,?_,fun c hc=>?_⟩ ?_
   ·exact yyp n n1 n6
   ·rcases hO' j p hj w with v | v
    ·exact npO j hj v
    ·rw [hpF] at v; cases v
   ·rcases hO' j mp hj w with v | v
    ·exact nOm j hj v
    ·rw [moF] at v; cases v
   ·have ncp:c≠p:=fun z=>by
     rw [z] at w
     rcases hO' j p hj w with v | v
     ·exact npO j hj v
     ·rw [hpF] at v; cases v
    rcases hO' j c hj w with v | v
    ·exact toH ncp (gN.2.2.1 j c hj v)
    ·exact toH ncp (GtoA (freeG ncp v))
   ·have nbk:bk j≠p:=fun z=>by
     have e:=gN.2.2.2 j hj
     rw [z,hpA] at e
     cases e
    exact toH nbk (gN.2.2.2 j hj)
   ·exact toH nmpp (GtoA (BtoG nmpp nmp))
   ·rcases hc with z | z | z | z
    ·rw [z]
     exact toH nbp hbl0
    ·rw [z]
     exact toH nel (GtoA (BtoG nel (CtoB hel0')))
    ·rw [z]
     exact toH nmlp (GtoA (BtoG nmlp hml0'))
    ·rw [z]
     have nplp:pl≠p:=(ye hpF hpl').symm
     exact toH nplp (GtoA (freeG nplp hpl'))
   ·intro c o e ne
    refine F' c o (BGF _ _ (SG _ _ (B0A c o e ne)) ne) ne fun j hj w=>?_
    have e2:=gN.2.2.1 j c hj w
    rw [B0A c o e ne] at e2
    cases e2
theorem yf0:∀ (ts:List Int) (q j:Nat) (s:Int),ts[q]?=some s->j <= 8->(dec ts)[9 * q+j]?=(1 :: b8 s)[j]?
 | [],_,_,_,h,_=>by simp at h
 | t :: r,0,j,s,h,hj=>by
  have e:t=s:=by simpa using h
  subst e
  show ((1 :: b8 t)++dec r)[9 * 0+j]?=_
  rw [Nat.mul_zero,Nat.zero_add,List.getElem?_append_left (by rw [List.length_cons,yok]; omega)]
 | t :: r,q+1,j,s,h,hj=>by
  have h':r[q]?=some s:=by simpa using h
  show ((1 :: b8 t)++dec r)[9 * (q+1)+j]?=_
  have l9:(1 :: b8 t).length=9:=rfl
  rw [List.getElem?_append_right (by rw [l9]; omega),l9,show 9 * (q+1)+j - 9=9 * q+j by omega]
  exact yf0 r q j s h' hj
theorem yq8 (ts:List Int):(dec ts)[9 * ts.length]?=some 0:=by
 rw [yl7,List.getElem?_append_right (by rw [uq]; exact Nat.le_refl _),uq,Nat.sub_self]
 rfl
def yev (ts:List Int) (k:Nat) (sg:List Int) (nd:Int):Prop:=∃ q j:Nat,k=9 * q+j/\j <= 8/\sg=ts.take q/\((j=0/\nd=0/\q <= ts.length)\/(1 <= j/\∃ s,ts[q]?=some s/\nd=(256+s) / 2 ^ (9 - j)))
theorem yev.zero (ts:List Int):yev ts 0 [] 0:=⟨0,0,rfl,by omega,by simp,.inl ⟨rfl,rfl,Nat.zero_le _⟩⟩
theorem yev.nd {ts:List Int} {k:Nat} {sg:List Int} {nd:Int} (h:yev ts k sg nd) (hs:Sgs ts):0 <= nd/\nd < 256:=by
 obtain ⟨q,j,_,hj,_,h⟩:=h
 rcases h with ⟨_,h,_⟩ | ⟨h1,s,hs',h⟩
 ·omega
 ·have:=hs s (List.mem_of_getElem? hs')
  obtain rfl | rfl | rfl | rfl | rfl | rfl | rfl | rfl:j=1\/j=2\/j=3\/j=4\/j=5\/j=6\/j=7\/j=8:=by omega
  all_goals (simp only [Nat.reduceSub,Int.reducePow] at h; omega)
theorem yev.len {ts:List Int} {k:Nat} {sg:List Int} {nd:Int} (h:yev ts k sg nd):sg.length <= ts.length:=by
 obtain ⟨q,j,_,_,hsg,_⟩:=h
 rw [hsg,List.length_take]
 omega
theorem yev.next {ts:List Int} {k:Nat} {sg:List Int} {nd b:Int} (h:yev ts k sg nd) (hs:Sgs ts) (hb:(dec ts)[k]?=some b) :
  (k < 9 * ts.length/\yev ts (k+1) (sgN sg nd b) (ndN nd b))\/(k=9 * ts.length/\sgN sg nd b=[]/\ndN nd b=0):=by
 obtain ⟨q,j,hk,hj,hsg,h⟩:=h
 rcases h with ⟨h0,hn,hq⟩ | ⟨h1,s,hs',hn⟩
 ·subst h0
  rcases Nat.lt_or_ge q ts.length with hl | hl
  ·refine .inl ⟨by omega,?_⟩
   have e:=yf0 ts q 0 ts[q] (List.getElem?_eq_getElem hl) (by omega)
   rw [<- hk,hb] at e
   have e:b=1:=by simpa using e
   have:=hs ts[q] (List.getElem_mem hl)
   unfold sgN ndN
   rw [if_neg (by omega),if_pos e,if_neg (by omega),if_pos e]
   refine ⟨q,1,by omega,by omega,hsg,.inr ⟨by omega,ts[q],List.getElem?_eq_getElem hl,?_⟩⟩
   simp only [Nat.reduceSub,Int.reducePow]
   omega
  ·have hq':q=ts.length:=by omega
   have e:=yq8 ts
   rw [<- hq',show 9 * q=k by omega,hb] at e
   have e:b=0:=by simpa using e
   refine .inr ⟨by omega,?_,?_⟩
   ·unfold sgN
    rw [if_neg (by omega),if_neg (by omega)]
   ·unfold ndN
    rw [if_neg (by omega),if_neg (by omega)]
    exact hn
 ·have hsg':=hs s (List.mem_of_getElem? hs')
  have hl:q < ts.length:=(List.getElem?_eq_some_iff.mp hs').1
  have e:=yf0 ts q j s hs' hj
  rw [<- hk,hb] at e
  have eb:some b=(b8 s)[j - 1]?:=by
   obtain ⟨i,rfl⟩:∃ i,j=i+1:=⟨j - 1,by omega⟩
   simpa using e
  refine .inl ⟨by omega,?_⟩
  by_cases h8:j=8
  ·subst h8
   have eb:b=s / 1 % 2:=Option.some.inj eb
   simp only [Nat.reduceSub,Int.reducePow] at hn
   have e1:2 * nd+b=256+s:=by omega
   unfold sgN ndN
   rw [if_pos (by omega),if_pos (by omega),if_pos (by omega),if_pos (by omega)]
   refine ⟨q+1,0,by omega,by omega,?_,.inl ⟨rfl,rfl,by omega⟩⟩
   rw [hsg,show 2 * nd+b - 256=s by omega,z0 hs']
  ·have main:0 < nd/\2 * nd+b < 256/\2 * nd+b=(256+s) / 2 ^ (9 - (j+1)):=by
    obtain rfl | rfl | rfl | rfl | rfl | rfl | rfl:j=1\/j=2\/j=3\/j=4\/j=5\/j=6\/j=7:=by omega
    ·have eb:b=s / 128 % 2:=Option.some.inj eb
     simp only [Nat.reduceSub,Nat.reduceAdd,Int.reducePow] at hn ⊢
     omega
    ·have eb:b=s / 64 % 2:=Option.some.inj eb
     simp only [Nat.reduceSub,Nat.reduceAdd,Int.reducePow] at hn ⊢
     omega
    ·have eb:b=s / 32 % 2:=Option.some.inj eb
     simp only [Nat.reduceSub,Nat.reduceAdd,Int.reducePow] at hn ⊢
     omega
    ·have eb:b=s / 16 % 2:=Option.some.inj eb
     simp only [Nat.reduceSub,Nat.reduceAdd,Int.reducePow] at hn ⊢
     omega
    ·have eb:b=s / 8 % 2:=Option.some.inj eb
     simp only [Nat.reduceSub,Nat.reduceAdd,Int.reducePow] at hn ⊢
     omega
    ·have eb:b=s / 4 % 2:=Option.some.inj eb
     simp only [Nat.reduceSub,Nat.reduceAdd,Int.reducePow] at hn ⊢
     omega
    ·have eb:b=s / 2 % 2:=Option.some.inj eb
     simp only [Nat.reduceSub,Nat.reduceAdd,Int.reducePow] at hn ⊢
     omega
   obtain ⟨m1,m2,m3⟩:=main
   unfold sgN ndN
   rw [if_pos m1,if_neg (by omega),if_pos m1,if_neg (by omega)]
   exact ⟨q,j+1,by omega,by omega,hsg,.inr ⟨by omega,s,hs',m3⟩⟩
theorem uy.up {K:W.Frag} {a:Ads} {H:Hp} {p:Addr} {A:FA} {X:FX} {f:Nat->List Int->Option Slt} {O:Nat->Addr->Prop} {m m':Nat} (h:uy K a H p A X f O m) (hm:m <= m'):uy K a H p A X f O m' :=
 ⟨h.me,h.bl,h.el,h.mx,h.wok,h.pl,⟨h.B.look,fun i hi=>(h.B.b i hi).up hm,h.B.dj,h.B.nb⟩,h.ag,h.at',h.np,h.nm,h.n1,h.n6⟩
structure Lw (K:W.Frag) (a:Ads) (H:Hp) (p:Addr) (A:FA) (X:FX) (f:Nat->List Int->Option Slt) (O:Nat->Addr->Prop) (m:Nat) (bk dx dd:Nat->Addr) (f2:Nat->List Int->Option Slt) (O2:Nat->Addr->Prop) (mp mx ml:Addr) (ws:List Int):Prop where
 ft:uy K a H p A X f O m
 bs:Bks K a H A.n bk dx A.lk dd A.kd A.ps f2 O2 m
 mx:yn9 a mp mx ml ws H
 dj:∀ i j c,i < A.n->j < A.n->O i c->¬ O2 j c
 n1:∀ i j,i < A.n->j < A.n->¬ O i (bk j)
 n2:∀ i j,i < A.n->j < A.n->¬ O2 i (A.bk j)
 n3:∀ i,i < A.n->¬ O2 i p/\¬ O2 i A.mp/\¬ O2 i mp/\¬ O i mp
 n4:mp≠A.mp
 n5:ml≠A.el
section
variable {K:W.Frag} {a:Ads} {H H':Hp} {p:Addr} {A:FA} {X:FX} {f:Nat->List Int->Option Slt} {O:Nat->Addr->Prop} {m:Nat} {bk dx dd:Nat->Addr} {f2:Nat->List Int->Option Slt} {O2:Nat->Addr->Prop} {mp mx ml:Addr} {ws:List Int}
theorem uj {C D d e p q:Addr} {fs gs:List (Str × V)} (hp:H p=some (.ins C d fs)) (hq:H q=some (.ins D e gs)) (hl:fs.length≠gs.length):p≠q:=fun z=>by
 rw [z,hq] at hp
 injection hp with hp
 injection hp with _ _ e
 exact hl (congrArg List.length e).symm
end
def KpA (B G:Hp) (e0 e:Addr):Prop:=∀ c o,B c=some o->yzf o=false->c≠e0->c≠e/\G c=some o
theorem KpA.lst {B G:Hp} {e0 e c:Addr} {xs:List V} (h:KpA B G e0 e) (hc:B c=some (.lst xs)) (ne:c≠e0):G c=some (.lst xs):=(h c _ hc rfl ne).2
def TxE (ts:List Int) (k:Nat) (sg:List Int) (nd:Int):Prop:=(k <= 9 * ts.length/\yev ts k sg nd)\/(k=9 * ts.length+1/\sg=[]/\nd=0)
theorem TxE.next {ts:List Int} {k:Nat} {sg:List Int} {nd b:Int} (h:TxE ts k sg nd) (hs:Sgs ts) (hb:(dec ts)[k]?=some b):yev ts k sg nd/\TxE ts (k+1) (sgN sg nd b) (ndN nd b):=by
 rcases h with ⟨hk,h⟩ | ⟨hk,_⟩
 ·refine ⟨h,?_⟩
  rcases h.next hs hb with ⟨h1,h2⟩ | ⟨h1,h2,h3⟩
  ·exact .inl ⟨by omega,h2⟩
  ·exact .inr ⟨by omega,h2,h3⟩
 ·rw [hk,List.getElem?_eq_none (by rw [ug]; exact Nat.le_refl _)] at hb
  cases hb
theorem yu6:yn ["self"] ["self"] (yi ytk):=⟨rfl,rfl,rfl,by decide +kernel,rfl,by decide +kernel,by decide +kernel⟩
def yfh (K:W.Frag) (a:Ads):Sp:=fun vs H Q _=>∃ (p:Addr) (A:FA) (X:FX) (f:Nat->List Int->Option Slt) (O:Nat->Addr->Prop) (m:Nat),vs=[.ref p]/\uy K a H p A X f O m/\∀ r H',H r=none->H' r=some (.lst ((X.cs A).map V.int))->vh H H'->Q (.ref r) H'
theorem yly (T:Txt K mg a):wc P w K mg base CX0 2 a.f_q38 a.d_q38 ["self"] (yfh K a):=by
 refine T.y_q38.F.ok yu6 (fun vs H Q E h=>?_) (fun cdv A outer s H vs Q E hr h=>?_)
 ·obtain ⟨p,A,X,f,O,m,rfl,_⟩:=h
  rfl
 ·obtain ⟨p,A',X,f,O,m,rfl,h,k⟩:=h
  have hp:=h.me
  have n6:=h.n6
  refine ⟨_,(yh (yw (uh rfl (v8 (yx (pv 0) rfl)) (fun C s2 H2 fp=>(yhf (wv (pv 0) T.cl_Even T.y_q15.m (yvd T) (hr.mono (by decide)) T.y_q15.B .nil y7) (yhf (wv (pv 0) T.cl_Quick T.y_q18.m (ywv T) (hr.mono (by decide)) T.y_q18.B .nil y7) (wv (pv 0) T.cl_Run T.y_q21.m (yxd T) (hr.mono (by decide)) T.y_q21.B .nil y7))))))),?_⟩
  try dsimp only [wa]
  refine yo (σ':=[some _]) rfl ?_
  walk_at "rd"
  refine ⟨A'.pl,rfl,⟨_,SqL.of h.pl⟩,fun D hD=>?_⟩
  refine uf (K:=K) (xs:=refs A'.sl A'.n) (Mp H D (fun i=>V.int (X.g i (X.key A' i)).due)) (Mp.zero hD) (fun _ _ _ q=>q.1.seq (SqL.of h.pl)) (fun i y H2 hy hi q=>?_) (fun H2 q=>?_)
  ·obtain ⟨S2,hD2⟩:=q
   obtain ⟨rfl,hin⟩:=ub hy
   obtain ⟨_,⟨dq,hs⟩,ok,_⟩:=h.slot hin
   refine ykc (fun Q' h=>yy7 rfl h) (S2 _ _ hs) ok ?_
   exact Mp.doneR hD (vq (by rw [vt]; omega)) hi S2 hD2 rfl
  ·obtain ⟨S2,hD2⟩:=q
   rw [vt] at hD2
   refine k D _ hD ?_ S2
   rw [hD2]
   unfold FX.cs
   rw [List.map_map]
   rfl
theorem yvi:yn ["self"] ["self"] (yi yth):=⟨rfl,rfl,rfl,by decide +kernel,rfl,by decide +kernel,by decide +kernel⟩
def yid (K:W.Frag) (a:Ads):Sp:=fun vs H Q _=>∃ (p:Addr) (A:FA) (X:FX) (f:Nat->List Int->Option Slt) (O:Nat->Addr->Prop) (m:Nat),vs=[.ref p]/\uy K a H p A X f O m/\∀ H',vh H H'->Q (.int (yl9 X.ws (X.cs A))) H'
theorem ylc (T:Txt K mg a):wc P w K mg base CX0 3 a.f_q39 a.d_q39 ["self"] (yid K a):=by
 refine T.y_q39.F.ok yvi (fun vs H Q E h=>?_) (fun cdv A outer s H vs Q E hr h=>?_)
 ·obtain ⟨p,A,X,f,O,m,rfl,_⟩:=h
  rfl
 ·obtain ⟨p,A',X,f,O,m,rfl,h,k⟩:=h
  have hp:=h.me
  have hmo:=h.mx.o
  refine ⟨_,(yh (yw (x4 (yx (pv 0) rfl) T.cl_Mx T.y_q34.m (yxj T) (hr.mono (by decide)) T.y_q34.B .nil y7 (yc (wv (pv 0) T.cl_Ft T.y_q38.m (yly T) (hr.mono (by decide)) T.y_q38.B .nil y7) yf (ya rfl))))),?_⟩
  try dsimp only [wa]
  refine yo (σ':=[some _]) rfl ?_
  walk_at "rd"
  refine ⟨p,A',X,f,O,m,rfl,h,fun r H1 hr0 hr1 S1=>?_⟩
  walk_at "rd"
  exact ⟨A'.mp,A'.mx,A'.ml,r,X.ws,X.cs A',A'.n,rfl,h.n1,h.n6,h.wok,h.cok,h.mx.same S1,SqL.of hr1,fun H2 S2=>k _ (S1.trans S2)⟩
theorem yut:yn ["self","bit"] ["self","bit"] (yi ysp):=⟨rfl,rfl,rfl,by decide +kernel,rfl,by decide +kernel,by decide +kernel⟩
def yq2 (a:Ads):Sp:=fun vs H Q _=>∃ (p dp ll bl mp el pl:Addr) (nd b:Int) (sg:List Int),vs=[.ref p,.int b]/\H p=some (.ins a.C_Ft dp (x5 (.ref ll) (.ref bl) (.ref mp) (.ref el) (.int nd) (.ref pl)))/\H el=some (.lst (sg.map V.int))/\sg.length <= 100000/\0 < nd /\
 ∀ H',H' p=some (.ins a.C_Ft dp (x5 (.ref ll) (.ref bl) (.ref mp) (.ref el) (.int (ndN nd b)) (.ref pl)))->H' el=some (.lst ((sgN sg nd b).map V.int))->(∀ c o,H c=some o->c≠p->c≠el->H' c=some o)->Q .non H'
theorem yvv (T:Txt K mg a):wc P w K mg base CX0 1 a.f_q42 a.d_q42 ["self","bit"] (yq2 a):=by
 refine T.y_q42.F.ok yut (fun vs H Q E h=>?_) (fun cdv A outer s H vs Q E hr h=>?_)
 ·obtain ⟨p,dp,ll,bl,mp,el,pl,nd,b,sg,rfl,_⟩:=h
  rfl
 ·obtain ⟨p,dp,ll,bl,mp,el,pl,nd,b,sg,rfl,hp,he,hz,h0,k⟩:=h
  refine ⟨_,(yj (vo (pv 0) (yq v6 (yq wj yg (yx (pv 0) rfl)) (pv 1)) rfl) (yh (wo (yz yyt (yx (pv 0) rfl) (vn rfl T.c_NODES_END) (vd _)) (yj (y9 (yal PySem.F.plainAttrs_list PySem.F.slot_list_append PySem.F.type_list_append wn (yx (pv 0) rfl) (yc (yq uw (yx (pv 0) rfl) (vn rfl T.c_NODES_END)) yf (ya rfl)))) (yh (vo (pv 0) yg rfl))) ve))),?_⟩
  try dsimp only [wa]
  refine yo (σ':=[some _,some _]) rfl ?_
  unfold ndN sgN at k
  rw [if_pos h0,if_pos h0] at k
  have nep:el≠p:=xf he hp (by intro z; cases z)
  walk_at "rd"
  have hp1:upd H p (.ins a.C_Ft dp (x5 (.ref ll) (.ref bl) (.ref mp) (.ref el) (.int (2 * nd+b)) (.ref pl))) p=some (.ins a.C_Ft dp (x5 (.ref ll) (.ref bl) (.ref mp) (.ref el) (.int (2 * nd+b)) (.ref pl))):=yd
  have he1:=ym (o':=HO.ins a.C_Ft dp (x5 (.ref ll) (.ref bl) (.ref mp) (.ref el) (.int (2 * nd+b)) (.ref pl))) nep he
  have B1:But p H (upd H p (.ins a.C_Ft dp (x5 (.ref ll) (.ref bl) (.ref mp) (.ref el) (.int (2 * nd+b)) (.ref pl)))):=But.upd
  generalize upd H p (.ins a.C_Ft dp (x5 (.ref ll) (.ref bl) (.ref mp) (.ref el) (.int (2 * nd+b)) (.ref pl)))=H1 at hp1 he1 B1 ⊢
  walk_at "rd"
  refine zn (fun hb=>?_) (fun hb=>?_)
  ·rw [if_pos hb,if_pos hb] at k
   walk_at "rd"
   refine yab he1 ?_
   walk_at "rd"
   refine xn he1 (vq (by rw [List.length_map]; omega)) ?_
   have hp2:=ym (o':=HO.lst (List.map V.int sg++[V.int (2 * nd+b - 256)])) (Ne.symm nep) hp1
   walk_at "rd"
   refine k _ yd ?_ fun c o e n1 n2=>ym n1 (ym n2 (B1 _ _ e n1))
   rw [yu nep,yd,List.map_append]
   rfl
  ·rw [if_neg hb,if_neg hb] at k
   walk_at "rd"
   exact k _ hp1 he1 fun c o e n1 n2=>B1 _ _ e n1
theorem yvf:yn ["self","bit"] ["self","bit"] (yi ysr):=⟨rfl,rfl,rfl,by decide +kernel,rfl,by decide +kernel,by decide +kernel⟩
def ynj (a:Ads):Sp:=fun vs H Q _=>∃ (p dp ll bl mp el pl:Addr) (nd b:Int) (sg:List Int),vs=[.ref p,.int b]/\H p=some (.ins a.C_Ft dp (x5 (.ref ll) (.ref bl) (.ref mp) (.ref el) (.int nd) (.ref pl)))/\H el=some (.lst (sg.map V.int))/\sg.length <= 100000/\0 <= nd /\
 ∀ (el':Addr) H',(el'=el\/H el'=none)->H' p=some (.ins a.C_Ft dp (x5 (.ref ll) (.ref bl) (.ref mp) (.ref el') (.int (ndN nd b)) (.ref pl)))->H' el'=some (.lst ((sgN sg nd b).map V.int))->(∀ c o,H c=some o->c≠p->c≠el->H' c=some o)->(∃ o,H' el=some o)->Q .non H'
theorem ywo (T:Txt K mg a):wc P w K mg base CX0 2 a.f_q41 a.d_q41 ["self","bit"] (ynj a):=by
 refine T.y_q41.F.ok yvf (fun vs H Q E h=>?_) (fun cdv A outer s H vs Q E hr h=>?_)
 ·obtain ⟨p,dp,ll,bl,mp,el,pl,nd,b,sg,rfl,_⟩:=h
  rfl
 ·obtain ⟨p,dp,ll,bl,mp,el,pl,nd,b,sg,rfl,hp,he,hz,h0,k⟩:=h
  refine ⟨_,(yh (wo (yz yn2 (yx (pv 0) rfl) yg (vd _)) (yh (y9 (x4 (pv 0) T.cl_Ft T.y_q42.m (yvv T) (hr.mono (by decide)) T.y_q42.B .nil y7 (yc (pv 1) yf (ya rfl))))) (yh (wo (yz zl (pv 1) yg (vd _)) (yh (vo (pv 0) yg rfl)) (yh (vo (pv 0) (w4 yf) rfl)))))),?_⟩
  try dsimp only [wa]
  refine yo (σ':=[some _,some _]) rfl ?_
  have nep:el≠p:=xf he hp (by intro z; cases z)
  walk_at "rd"
  refine zn (fun hn=>?_) (fun hn=>?_)
  ·walk_at "rd"
   exact ⟨p,dp,ll,bl,mp,el,pl,nd,b,sg,rfl,hp,he,hz,hn,fun H' h1 h2 h3=>k el H' (.inl rfl) h1 h2 h3 ⟨_,h2⟩⟩
  ·unfold ndN sgN at k
   rw [if_neg hn,if_neg hn] at k
   walk_at "rd"
   refine zn (fun hb=>?_) (fun hb=>?_)
   ·rw [if_pos hb,if_pos hb] at k
    walk_at "rd"
    exact k el _ (.inl rfl) yd (ym nep he) (fun c o e n1 _=>ym n1 e) ⟨_,ym nep he⟩
   ·rw [if_neg hb,if_neg hb] at k
    walk_at "rd"
    refine ⟨by walk_at "len",fun r hr0=>?_⟩
    with_reducible first | refine y8 hr0 fun H1 S1 e1=>?_ | refine new_obj hr0 fun H1 S1 e1=>?_
    have hp1:=S1 _ _ hp
    walk_at "rd"
    have nrp:r≠p:=fun z=>by rw [z,hp] at hr0; cases hr0
    exact k r _ (.inr hr0) yd (ym nrp e1) (fun c o e n1 _=>ym n1 (S1 _ _ e)) ⟨_,ym nep (S1 _ _ he)⟩
theorem yo6:yn ["self","bit","slot"] ["self","bit"] (yi ysy):=⟨rfl,rfl,rfl,by decide +kernel,rfl,by decide +kernel,by decide +kernel⟩
def yq0 (K:W.Frag) (a:Ads):Sp:=fun vs H Q _=>∃ (p:Addr) (A:FA) (X:FX) (f:Nat->List Int->Option Slt) (O:Nat->Addr->Prop) (m:Nat) (b:Int),vs=[.ref p,.int b]/\uy K a H p A X f O m/\0 <= b/\b <= 1/\m+20 < 1000000/\0 <= X.nd/\X.sg.length <= 100000 /\
 ∀ (ml el pl:Addr) (sl:Nat->Addr) (f':Nat->List Int->Option Slt) (O':Nat->Addr->Prop) (H':Hp),(el=A.el\/H el=none)->uy K a H' p { A with ml:=ml,el:=el,pl:=pl,sl:=sl } (X.see A b) f' O' (m+A.n)->(∀ j c,j < A.n->O' j c->O j c\/H c=none) ->
  (∀ c o,H c=some o->c≠p->c≠A.mp->c≠A.el->(∀ j,j < A.n->¬ O j c)->H' c=some o)->(∀ c o,H c=some o->∃ o',H' c=some o')->H ml=none->Q .non H'
theorem ygz (T:Txt K mg a):wc P w K mg base CX0 6 a.f_q40 a.d_q40 ["self","bit"] (yq0 K a):=by
 refine T.y_q40.F.ok yo6 (fun vs H Q E h=>?_) (fun cdv A outer s H vs Q E hr h=>?_)
 ·obtain ⟨p,A,X,f,O,m,b,rfl,_⟩:=h
  rfl
 ·obtain ⟨p,A',X,f,O,m,b,rfl,h,b0,b1,hm,hnd,hsg,k⟩:=h
  have hp:=h.me
  have hmo:=h.mx.o
  have n6:=h.n6
  have hbit:=yx7 b0 b1
  refine yk (y9 (vk (ybk T) (hr.mono (by decide)) rfl T.y_q10.m T.y_q10.F.kp T.y_q10.B .nil wf (yc (pv 1) yf (ya rfl)))) ?_
  refine yk (y9 (zb (yx (pv 0) rfl) T.cl_Mx T.y_q35.m (ywp T) (hr.mono (by decide)) T.y_q35.B .nil wf (yc (wv (pv 0) T.cl_Ft T.y_q38.m (yly T) (hr.mono (by decide)) T.y_q38.B .nil y7) (yc (pv 1) yf (ya rfl)) (ya rfl)))) ?_
  refine yk (uv PassesOwn.never rfl (v8 (yx (pv 0) rfl)) (vz (i:=2) yo6.nd rfl (Or.inl rfl)) (yh (y9 (yhf (zb (pv 2) T.cl_Even T.y_q16.m (yxc T) (hr.mono (by decide)) T.y_q16.B .nil wf (yc (pv 1) yf (ya rfl))) (yhf (zb (pv 2) T.cl_Quick T.y_q19.m (yw4 T) (hr.mono (by decide)) T.y_q19.B .nil wf (yc (pv 1) yf (ya rfl))) (zb (pv 2) T.cl_Run T.y_q22.m (yuv T) (hr.mono (by decide)) T.y_q22.B .nil wf (yc (pv 1) yf (ya rfl)))))))) ?_
  refine yk (y9 (x4 (pv 0) T.cl_Ft T.y_q41.m (ywo T) (hr.mono (by decide)) T.y_q41.B .nil y7 (yc (pv 1) yf (ya rfl)))) ?_
  refine ⟨_,(yh (y9 (wv (pv 0) T.cl_Ft T.y_q37.m (yps T) (hr.mono (by decide)) T.y_q37.B .nil y7))),?_⟩
  try dsimp only [wa]
  refine yo (σ':=[some _,some _,none]) rfl ?_
  walk_at "rd"
  refine ⟨.int b,_,rfl,.int b,fun _=>?_,fun z=>(by rw [hbit] at z; cases z)⟩
  walk_at "rd"
  refine ⟨p,A',X,f,O,m,rfl,h,fun r H1 hr0 hr1 S1=>?_⟩
  have hmo1:=S1 _ _ hmo
  walk_at "rd"
  refine ⟨A'.mp,A'.mx,A'.ml,r,X.ws,X.cs A',A'.n,.int b,_,rfl,h.n1,n6,h.wok,h.cok,h.mx.same S1,SqL.of hr1,.int b,fun b' e _ _ ml H2 hml0 M2 B2=>?_,fun z=>(by rw [hbit] at z; cases z)⟩
  cases e
  have h1:=h.same S1
  have npm:p≠A'.mp:=fun z=>by
   have:=h.me
   rw [z,hmo] at this
   injection this with this
   injection this with _ _ e
   exact absurd (congrArg List.length e) (show ¬ (1=6) by decide)
  have hp2:=B2 _ _ h1.me npm
  have nl2:∀ {l:Addr} {xs:List V},H1 l=some (.lst xs)->l≠A'.mp:=fun {l xs} e z=>by rw [z,hmo1] at e; cases e
  have hbl2:=B2 _ _ h1.bl (nl2 h1.bl)
  have hel2:=B2 _ _ h1.el (nl2 h1.el)
  have hpl2:=B2 _ _ h1.pl (nl2 h1.pl)
  have Bk2:=h1.B.frame (O2:=fun c=>c=A'.mp) (fun c o e ne=>B2 c o e ne) (fun j c hj w z=>h.nm j hj (z ▸ w)) (fun j hj z=>by
   have:=(h1.B.b j hj).me
   rw [z,hmo1] at this
   injection this with this
   injection this with _ _ e
   exact absurd (congrArg List.length e) (show ¬ (1=2) by decide)) (fun t xs e=>by
   rcases e with (e | ⟨o,e⟩) | e
   ·exact .inl (.inl (B2 _ _ e (fun z=>by rw [z,hmo1] at e; cases e)))
   ·exact .inl (.inr ⟨o,B2 _ _ e (fun z=>by rw [z,hmo1] at e; cases e)⟩)
   ·exact .inr e)
  have at2:∀ j,j < A'.n->(∃ s,f j (X.key A' j)=some s)/\AtS H2 (A'.dd j) (X.key A' j) (A'.sl j):=fun j hj=>⟨(h1.at' j hj).1,(h1.at' j hj).2.told (h1.B.b j hj) (fun z=>h.nm j hj (by rw [<- z]; exact (h1.B.b j hj).dO)) B2⟩
  walk_at "rd"
  refine ⟨A'.pl,rfl,⟨_,SqL.of hpl2⟩,ua (K:=K) (a:=A'.pl) (xs:=refs A'.sl A'.n) (fun i σ2 G=>∃ (v:Option V) (f':Nat->List Int->Option Slt),σ2=[some (.ref p),some (.int b),v]/\Bks K a G A'.n A'.bk A'.dx A'.lk A'.dd A'.kd A'.ps f' O m /\
    (∀ j,j < A'.n->∀ k,(f' j k).getD (kd0 (A'.kd j))=if j < i/\k=X.key A' j then (X.g j k).see b else X.g j k)/\(∀ j,j < A'.n->(∃ s,f' j (X.key A' j)=some s)/\AtS G (A'.dd j) (X.key A' j) (A'.sl j))/\(∀ c o,H2 c=some o->(∀ j,j < A'.n->¬ O j c)->G c=some o))
   ⟨_,f,rfl,Bk2,fun j hj k'=>by rw [if_neg (fun z=>absurd z.1 (Nat.not_lt_zero j))]; exact h.ag j hj k',at2,fun c o e _=>e⟩ (fun i σ2 G _ ⟨_,_,_,_,_,_,w⟩=>SqL.of (w _ _ hpl2 (Bk2.nlst hpl2))) ?_ ?_⟩
  ·rintro i y σ2 G hy ⟨v,f',rfl,gB,gA,gS,gF⟩
   obtain ⟨rfl,hin⟩:=ub hy
   obtain ⟨⟨s',hs'⟩,hat⟩:=gS i hin
   have es:s'=X.g i (X.key A' i):=by
    have:=gA i hin (X.key A' i)
    rw [hs',if_neg (fun z=>absurd z.1 (Nat.lt_irrefl i))] at this
    exact this
   obtain ⟨dq,hq,ok,hkd,hOq⟩:=(gB.b i hin).slot hs' hat
   walk_at "rd"
   refine yr1 (x:=.int b) (fun Q' h=>?_) (fun Q' h=>?_) hq ok (.int b) (fun b' e _ _ G3 h3 B3=>?_) (fun z=>by rw [hbit] at z; cases z) (fun z=>by rw [hbit] at z; cases z) (fun z=>by rw [hbit] at z; cases z)
   ·walk_at "rd"
    exact h
   ·walk_at "rd"
    exact h
   cases e
   have hb3:=(gB.b i hin).told hs' hat b0 b1 h3 B3
   have BO:yod (O i) G G3:=fun c o e no=>B3 _ _ e fun z=>no (by rw [z]; exact hOq)
   have M3:=gB.move hin (Nat.le_refl m) hb3 (fun c w=>.inl w) BO
   have eO:(fun j=>if j=i then O i else O j)=O:=by
    funext j
    by_cases z:j=i
    ·rw [if_pos z,z]
    ·rw [if_neg z]
   rw [eO] at M3
   have ndq:A'.dd i≠A'.sl i:=fun z=>by
    obtain ⟨kvs,loc,w1,_⟩:=(gB.b i hin).tb
    obtain ⟨C,fs,eo⟩:=yb5 a dq s'
    rw [z,hq,eo] at w1
    cases w1
   walk_at "rd"
   refine ⟨_,_,rfl,M3,fun j hj k'=>?_,fun j hj=>?_,fun c o e no=>?_⟩
   ·try dsimp only
    by_cases z:j=i
    ·subst z
     rw [if_pos rfl]
     unfold ydk
     by_cases w:k'=X.key A' j
     ·rw [if_pos w,if_pos ⟨Nat.lt_succ_self j,w⟩,w,<- es]
      rfl
     ·rw [if_neg w,if_neg (fun z=>w z.2)]
      have:=gA j hj k'
      rw [if_neg (fun z=>w z.2)] at this
      exact this
    ·rw [if_neg z,gA j hj k']
     have:(j < i/\k'=X.key A' j) ↔ (j < i+1/\k'=X.key A' j):=by constructor <;> (rintro ⟨u,v⟩; exact ⟨by omega,v⟩)
     by_cases w:j < i/\k'=X.key A' j
     ·rw [if_pos w,if_pos (this.mp w)]
     ·rw [if_neg w,if_neg (fun z=>w (this.mpr z))]
   ·try dsimp only
    by_cases z:j=i
    ·subst z
     rw [if_pos rfl]
     refine ⟨⟨s'.see b,?_⟩,hat.told (gB.b j hin) ndq B3⟩
     unfold ydk
     rw [if_pos rfl]
    ·rw [if_neg z]
     exact ⟨(gS j hj).1,(gS j hj).2.move gB hj hin z BO⟩
   ·exact BO _ _ (gF c o e no) (no i hin)
  ·rintro σ2 G ⟨v,f',rfl,gB,gA,gS,gF⟩
   rw [vt] at gA
   have gp:=gF _ _ hp2 h.np
   have gel:=gF _ _ hel2 (Bk2.nlst hel2)
   have gbl:=gF _ _ hbl2 (Bk2.nlst hbl2)
   have gmo:=gF _ _ M2.o h.nm
   have gml:=gF _ _ M2.l (Bk2.nlst M2.l)
   walk_at "rd"
   refine ⟨p,A'.dp,A'.ll,A'.bl,A'.mp,A'.el,A'.pl,X.nd,b,X.sg,rfl,gp,gel,hsg,hnd,fun el H4 hel' me4 el4 F4 L4=>?_⟩
   have nlp:∀ {l:Addr} {xs:List V},G l=some (.lst xs)->l≠p:=fun {l xs} e z=>by rw [z,gp] at e; cases e
   have npO:∀ j,j < A'.n->¬ O j p:=h.np
   have nelO:=gB.nlst gel
   have Bk4:=gB.frame (O2:=fun c=>c=p\/c=A'.el) (fun c o e ne=>F4 c o e (fun z=>ne (.inl z)) (fun z=>ne (.inr z))) (fun j c hj w z=>by
    rcases z with z | z
    ·exact npO j hj (z ▸ w)
    ·exact nelO j hj (z ▸ w)) (fun j hj z=>by
    have:=(gB.b j hj).me
    rcases z with z | z
    ·rw [z,gp] at this
     injection this with this
     injection this with _ _ e
     exact absurd (congrArg List.length e) (show ¬ (6=2) by decide)
    ·rw [z,gel] at this
     cases this) (fun t xs e=>by
    rcases e with (e | ⟨o,e⟩) | e
    ·exact .inl (.inl (F4 _ _ e (fun z=>by rw [z,gp] at e; cases e) (fun z=>by rw [z,gel] at e; cases e)))
    ·exact .inl (.inr ⟨o,F4 _ _ e (fun z=>by rw [z,gp] at e; cases e) (fun z=>by rw [z,gel] at e; cases e)⟩)
    ·exact .inr e)
   have nbe:A'.bl≠A'.el:=fun z=>by
    have e:=h.bl
    rw [z,h.el] at e
    injection e with e
    injection e with e
    have e0:=congrArg (fun l:List V=>l[0]?) e
    have r0:(refs A'.bk A'.n)[0]?=some (.ref (A'.bk 0)):=by
     unfold refs
     rw [List.getElem?_map,List.getElem?_range h.n1]
     rfl
    try dsimp only at e0
    rw [r0,List.getElem?_map] at e0
    cases hs:X.sg[0]? with
    | none=>rw [hs] at e0; cases e0
    | some c=>rw [hs] at e0; cases e0
   have nme:ml≠A'.el:=(ye h1.el hml0).symm
   have bl4:=F4 _ _ gbl (nlp gbl) nbe
   have mo4:=F4 _ _ gmo (Ne.symm npm) (fun z=>by rw [z,gel] at gmo; cases gmo)
   have ml4:=F4 _ _ gml (nlp gml) nme
   have live4:∀ c o,H c=some o->∃ o',H4 c=some o':=fun c o e=>by
    by_cases zp:c=p
    ·exact ⟨_,zp ▸ me4⟩
    by_cases ze:c=A'.el
    ·rw [ze]
     exact L4
    have gc:∃ o',G c=some o':=by
     by_cases zm:c=A'.mp
     ·exact ⟨_,zm ▸ gmo⟩
     by_cases zo:∀ j,j < A'.n->¬ O j c
     ·exact ⟨o,gF _ _ (B2 _ _ (S1 _ _ e) zm) zo⟩
     ·have:∃ j,j < A'.n/\O j c:=Classical.byContradiction fun w=>zo fun j hj w'=>w ⟨j,hj,w'⟩
      obtain ⟨j,hj,w⟩:=this
      obtain ⟨o',ho',_⟩:=(gB.b j hj).own c w
      exact ⟨o',ho'⟩
    obtain ⟨o',ho'⟩:=gc
    exact ⟨o',F4 _ _ ho' zp ze⟩
   have ag4:yob A'.n A'.kd f' (X.see A' b).g:=fun j hj k'=>by
    rw [gA j hj k']
    show _=if k'=X.key A' j then (X.g j k').see b else X.g j k'
    by_cases w:k'=X.key A' j
    ·rw [if_pos ⟨hj,w⟩,if_pos w]
    ·rw [if_neg (fun z=>w z.2),if_neg w]
   walk_at "rd"
   refine ⟨p,A'.dp,A'.ll,A'.bl,A'.mp,el,A'.pl,ndN X.nd b,sgN X.sg X.nd b,A'.n,m,A'.bk,A'.dx,A'.lk,A'.dd,A'.kd,A'.ps,f',O,(X.see A' b).g,rfl,me4,bl4,el4,Bk4,ag4,n6,by omega,h.np,fun pl sl f2 O2 H5 me5 pl5 hpl0 B5 ag5 at5 hO5 F5 L5=>?_⟩
   have nlO4:∀ {l:Addr} {xs:List V},H4 l=some (.lst xs)->l≠p:=fun {l xs} e z=>by rw [z,me4] at e; cases e
   have n2:∀ j c,j < A'.n->O2 j c->O j c\/H c=none:=fun j c hj w=>by
    rcases hO5 j c hj w with v | v
    ·exact .inl v
    ·refine .inr ?_
     cases e:H c with
     | none=>rfl
     | some o =>
      obtain ⟨o',ho'⟩:=live4 c o e
      rw [ho'] at v
      cases v
   refine k ml el pl sl f2 O2 H5 ?_ ⟨me5,F5 _ _ bl4 (nlO4 bl4) (Bk4.nlst bl4),F5 _ _ el4 (nlO4 el4) (Bk4.nlst el4),⟨F5 _ _ mo4 (Ne.symm npm) h.nm,F5 _ _ ml4 (nlO4 ml4) (Bk4.nlst ml4)⟩,ypo h.n1 n6 h.wok h.cok,pl5,B5,ag5,at5,fun j hj w=>?_,fun j hj w=>?_,h.n1,n6⟩ n2 (fun c o e c1 c2 c3 no=>F5 _ _ (F4 _ _ (gF _ _ (B2 _ _ (S1 _ _ e) c2) no) c1 c3) c1 no) (fun c o e=>let ⟨o',w⟩:=live4 c o e; L5 c o' w) (S1.free hml0)
   ·rcases hel' with z | z
    ·exact .inl z
    ·refine .inr ?_
     cases e:H el with
     | none=>rfl
     | some o =>
      exfalso
      by_cases zp:el=p
      ·rw [zp,gp] at z; cases z
      by_cases zm:el=A'.mp
      ·rw [zm,gmo] at z; cases z
      by_cases zo:∀ j,j < A'.n->¬ O j el
      ·rw [gF _ _ (B2 _ _ (S1 _ _ e) zm) zo] at z; cases z
      ·have:∃ j,j < A'.n/\O j el:=Classical.byContradiction fun w=>zo fun j hj w'=>w ⟨j,hj,w'⟩
       obtain ⟨j,hj,w⟩:=this
       obtain ⟨o',ho',_⟩:=(gB.b j hj).own el w
       rw [ho'] at z
       cases z
   ·rcases n2 j p hj w with v | v
    ·exact h.np j hj v
    ·rw [hp] at v; cases v
   ·rcases n2 j A'.mp hj w with v | v
    ·exact h.nm j hj v
    ·rw [hmo] at v; cases v
theorem yla:yn ["number","size","places"] ["number","size"] (yi ysl):=⟨rfl,rfl,rfl,by decide +kernel,rfl,by decide +kernel,by decide +kernel⟩
def yic:Sp:=fun vs H Q _=>∃ (n:Int) (k:Nat),vs=[.int n,.int k]/\k <= 100000/\∀ t H',H t=none->H' t=some (.lst ((wr k n).map V.int))->vh H H'->Q (.ref t) H'
theorem yup (T:Txt K mg a):wc P w K mg base CX0 1 a.f_q43 a.d_q43 ["number","size"] yic:=by
 refine T.y_q43.F.ok yla (fun vs H Q E h=>?_) (fun cdv A outer s H vs Q E hr h=>?_)
 ·obtain ⟨n,k',rfl,_⟩:=h
  rfl
 ·obtain ⟨n,k',rfl,hk,k⟩:=h
  refine ⟨_,(yj (y6 (i:=2) yla.nd rfl (Or.inl rfl) (w4 yf)) (yj (jr PassesOwn.never (yz yaf (yp yr rfl T.z_len (by decide +kernel) (yc (pv 2) yf (ya rfl))) (pv 1) (vd _)) (yj (y9 (yal PySem.F.plainAttrs_list PySem.F.slot_list_append PySem.F.type_list_append wn (pv 2) (yc (yq wt (pv 0) yg) yf (ya rfl)))) (yh (y6 (i:=0) yla.nd rfl (Or.inl rfl) (yq vf (pv 0) yg))))) (yj (y9 (ylr PySem.F.plainAttrs_list PySem.F.slot_list_reverse PySem.F.type_list_reverse yif (pv 2))) (yh (yw (pv 2)))))),?_⟩
  try dsimp only [wa]
  refine yo (σ':=[some _,some _,none]) rfl ?_
  walk_at "rd"
  refine ⟨by walk_at "len",fun t ht=>?_⟩
  walk_at "rd"
  refine ⟨fun m σ' H1=>∃ (n':Int) (xs:List Int),σ'=[some (.int n'),some (.int k'),some (.ref t)]/\H1 t=some (.lst (xs.map V.int))/\vh H H1/\xs++lo (k' - xs.length) n'=lo k' n/\xs.length <= k'/\m=k' - xs.length,⟨_,n,[],rfl,yd,vj ht,rfl,Nat.zero_le _,rfl⟩,?_⟩
  rintro m σ2 H2 ⟨n',xs,rfl,h2,S2,e2,l2,rfl⟩
  walk_at "rd"
  refine uc (SqL.of h2) ?_
  rw [List.length_map]
  walk_at "rd"
  refine zn (fun hb=>?_) (fun hb=>?_)
  ·refine yel ?_
   walk_at "rd"
   refine yab h2 ?_
   walk_at "rd"
   refine xn h2 (by rw [List.length_map]; exact vq (by omega)) ?_
   walk_at "rd"
   refine ⟨_,?_,n' / 256,xs++[n' % 256],rfl,(yd.trans (by rw [ymv])),fun b o e=>?_,?_,?_,rfl⟩
   ·rw [List.length_append]
    show k' - (xs.length+1) < k' - xs.length
    omega
   ·rw [yu (ye e ht)]
    exact S2 b o e
   ·have el:k' - xs.length=k' - (xs++[n' % 256]).length+1:=by
     rw [List.length_append]
     show k' - xs.length=k' - (xs.length+1)+1
     omega
    rw [el] at e2
    rw [<- e2,List.append_assoc]
    rfl
   ·rw [List.length_append]
    show xs.length+1 <= k'
    omega
  ·walk_at "rd"
   have el:k' - xs.length=0:=by omega
   rw [el] at e2
   have e3:xs=lo k' n:=by rw [<- e2]; simp [lo]
   refine yab h2 ?_
   refine yjt h2 ?_
   walk_at "rd"
   refine k t _ ht ?_ fun b o e=>?_
   ·rw [yd,yqx,e3]
    rfl
   ·rw [yu (ye e ht)]
    exact S2 b o e
theorem yx4:yn ["low","unit"] ["low","unit"] (yi ysk):=⟨rfl,rfl,rfl,by decide +kernel,rfl,by decide +kernel,by decide +kernel⟩
def ybo:Sp:=fun vs H Q _=>∃ l e:Int,vs=[.int l,.int e]/\0 < e/\e < 2 ^ 63/\Q (.int (blk l e)) H
theorem yog (T:Txt K mg a):wc P w K mg base CX0 1 a.f_q44 a.d_q44 ["low","unit"] ybo:=by
 refine T.y_q44.F.ok yx4 (fun vs H Q E h=>?_) (fun cdv A outer s H vs Q E hr h=>?_)
 ·obtain ⟨l,e,rfl,_⟩:=h
  rfl
 ·obtain ⟨l,e,rfl,h1,h2,k⟩:=h
  refine ⟨_,(yh (yw (yq vf (yq uw (yq v6 (pv 0) (pv 1)) yg) (pv 1)))),?_⟩
  try dsimp only [wa]
  refine yo (σ':=[some _,some _]) rfl ?_
  walk_at "rd"
  exact k
theorem yxf:yn ["self"] ["self"] (yi ytz):=⟨rfl,rfl,rfl,by decide +kernel,rfl,by decide +kernel,by decide +kernel⟩
def yqy (C:Addr):Sp:=fun vs H Q _=>∃ (p dx:Addr),vs=[.ref p]/\H p=some (.ins C dx [])/\∀ H',H' p=some (.ins C dx (zz s0))->But p H H'->Q .non H'
theorem yo3 (T:Txt K mg a):wc P w K mg base CX0 1 a.f_q45 a.d_q45 ["self"] (yqy a.C_Span):=by
 refine T.y_q45.F.ok yxf (fun vs H Q E h=>?_) (fun cdv A outer s H vs Q E hr h=>?_)
 ·obtain ⟨p,dx,rfl,_⟩:=h
  rfl
 ·obtain ⟨p,dx,rfl,hp,k⟩:=h
  refine ⟨_,(yj (vo (pv 0) yg rfl) (yj (vo (pv 0) (vn rfl T.c_FIRST_WIDTH) rfl) (yh (vo (pv 0) (vn rfl T.c_FIRST_SIZE) rfl)))),?_⟩
  try dsimp only [wa]
  refine yo (σ':=[some _]) rfl ?_
  walk_at "rd"
  refine ⟨p,_,dx,_,rfl,hp,T.cl_Span,T.n_Span_low,by show 0 < 1000; decide,?_⟩
  walk_at "rd"
  refine ⟨p,_,dx,_,rfl,yd,T.cl_Span,T.n_Span_width,by show 1 < 1000; decide,?_⟩
  walk_at "rd"
  refine ⟨p,_,dx,_,rfl,yd,T.cl_Span,T.n_Span_size,by show 2 < 1000; decide,?_⟩
  have e:wl "size" (.int 5) (wl "width" (.int 1099511627776) (wl "low" (.int 0) []))=zz s0:=by
   rw [xc,v9 nLW xc,v9 nLS (v9 nWS xc)]
   rfl
  refine k _ (yd.trans (congrArg (fun l=>some (HO.ins a.C_Span dx l)) e)) fun b o h n=>?_
  rw [yu n,yu n,yu n]
  exact h
theorem yvu:yn ["self","chance"] ["self","chance"] (yi ys8):=⟨rfl,rfl,rfl,by decide +kernel,rfl,by decide +kernel,by decide +kernel⟩
def yxt (C:Addr):Sp:=fun vs H Q _=>∃ (p dx:Addr) (x:Sn) (c:Int),vs=[.ref p,.int c]/\H p=some (.ins C dx (zz x))/\Ch c/\Q (.int (cut x.2.1 c)) H
theorem yoj (T:Txt K mg a):wc P w K mg base CX0 1 a.f_q46 a.d_q46 ["self","chance"] (yxt a.C_Span):=by
 refine T.y_q46.F.ok yvu (fun vs H Q E h=>?_) (fun cdv A outer s H vs Q E hr h=>?_)
 ·obtain ⟨p,dx,x,c,rfl,_⟩:=h
  rfl
 ·obtain ⟨p,dx,x,c,rfl,hp,⟨c1,c2⟩,k⟩:=h
  refine ⟨_,(yh (yw (yq vf (yq wj (yx (pv 0) rfl) (pv 1)) (vn rfl T.c_ONE)))),?_⟩
  try dsimp only [wa]
  refine yo (σ':=[some _,some _]) rfl ?_
  walk_at "rd"
  exact k
theorem yof:yn ["self","chance","bit","cut"] ["self","chance","bit"] (yi ytv):=⟨rfl,rfl,rfl,by decide +kernel,rfl,by decide +kernel,by decide +kernel⟩
def yke (K:W.Frag) (C Nc Nb:Addr):Sp:=fun vs H Q E=>∃ (p dx:Addr) (x:Sn) (vc vb:V) (n m:String),vs=[.ref p,vc,vb]/\H p=some (.ins C dx (zz x))/\Ok x/\x6 K H vc (.type n)/\x6 K H vb (.type m) /\
 (chV vc=false->E (.ref Nc) none H)/\(chV vc=true->yao vb=false->E (.ref Nb) none H) /\
 ∀ c b:Int,vc=.int c->vb=.int b->Ch c->0 <= b->b <= 1->∀ H',H' p=some (.ins C dx (zz (nar x c b)))->But p H H'->Q .non H'
theorem yom (T:Txt K mg a):wc P w K mg base (CXe P w) 4 a.f_q47 a.d_q47 ["self","chance","bit"] (yke K a.C_Span a.C_NC a.C_NB):=by
 refine T.y_q47.F.okE yof (fun vs H Q E h=>?_) (fun cdv A outer s H vs Q E hr h=>?_)
 ·obtain ⟨p,dx,x,vc,vb,n,m,rfl,_⟩:=h
  rfl
 ·obtain ⟨p,dx,x,vc,vb,n,m,rfl,hp,hx,tc,tb,k1,k2,k⟩:=h
  refine ⟨_,(yj (y9 (vk (ytw T) (hr.mono (by decide)) rfl T.y_q9.m T.y_q9.F.kp T.y_q9.B .nil v7 (yc (pv 1) yf (ya rfl)))) (yj (y9 (vk (ybk T) (hr.mono (by decide)) rfl T.y_q10.m T.y_q10.F.kp T.y_q10.B .nil v7 (yc (pv 2) yf (ya rfl)))) (yj (y6 (i:=3) yof.nd rfl (Or.inl rfl) (x4 (pv 0) T.cl_Span T.y_q46.m (yoj T) (hr.mono (by decide)) T.y_q46.B .nil y7 (yc (pv 1) yf (ya rfl)))) (yj (yb4 (wo (yz zl (pv 2) yg (vd _)) (yh (vo (pv 0) (pv 3) rfl)) (yj (vo (pv 0) (yq v6 (yx (pv 0) rfl) (pv 3)) rfl) (yh (vo (pv 0) (yq uw (yx (pv 0) rfl) (pv 3)) rfl))))) (yh (PS.nox (jr PassesOwn.never (yz yaf (yx (pv 0) rfl) (vn rfl T.c_LEAST_WIDTH) (vd _)) (yj (vo (pv 0) (yq wj (yx (pv 0) rfl) yg) rfl) (yj (vo (pv 0) (yq wj (yx (pv 0) rfl) yg) rfl) (yh (vo (pv 0) (yq v6 (yx (pv 0) rfl) yg) rfl))))))))))),?_⟩
  try dsimp only [wa]
  refine yo (σ':=[some _,some _,some _,none]) rfl ?_
  have hw0:=hx.w0
  have hw1:=hx.w1
  walk_at "rd"
  refine ⟨vc,n,rfl,tc,fun hvc=>?_,k1⟩
  walk_at "rd"
  refine ⟨vb,m,rfl,tb,fun hvb=>?_,k2 hvc⟩
  obtain ⟨c,rfl,c1,c2⟩:=yf1 hvc
  obtain ⟨b,rfl,b0,b1⟩:=ygl hvb
  have hc:Ch c:=⟨c1,c2⟩
  have k:=k c b rfl rfl hc b0 b1
  walk_at "rd"
  refine ⟨p,dx,_,rfl,hp,lkN _ (by decide +kernel) (by decide +kernel) (by decide +kernel),?_⟩
  walk_at "rd"
  refine ⟨p,dx,x,c,rfl,hp,hc,?_⟩
  walk_at "rd"
  obtain ⟨a1,a2,a3⟩:=yep hw0 hw1 hc
  refine yip (fun σ' H'=>∃ y:Sn,σ'=[some (.ref p),some (.int c),some (.int b),some (.int (cut x.2.1 c))]/\H' p=some (.ins a.C_Span dx (zz y))/\8388608 <= y.2.1/\y.2.1 <= 1099511627776/\ren y.1 y.2.1 y.2.2=nar x c b/\But p H H') ?_ ?_
  ·walk_at "rd"
   refine zn (fun hb=>?_) (fun hb=>?_)
   ·walk_at "rd"
    refine ⟨_,rfl,yd,a1,Int.le_of_lt a3,?_,But.upd⟩
    unfold nar
    (rw [if_pos hb]) <;> rfl
   ·walk_at "rd"
    refine ⟨_,rfl,yd,a2,?_,?_,But.upd.trans But.upd⟩
    ·show x.2.1 - cut x.2.1 c <= _
     omega
    ·unfold nar
     (rw [if_neg hb]) <;> rfl
  ·rintro σ' H' ⟨y,rfl,hp',y1,y2,y3,y4⟩
   refine ⟨fun m σ' H'=>∃ y:Sn,σ'=[some (.ref p),some (.int c),some (.int b),some (.int (cut x.2.1 c))]/\H' p=some (.ins a.C_Span dx (zz y))/\8388608 <= y.2.1/\y.2.1 <= 1099511627776/\ren y.1 y.2.1 y.2.2=nar x c b/\But p H H'/\m=(4294967296 - y.2.1).toNat,⟨_,y,rfl,hp',y1,y2,y3,y4,rfl⟩,?_⟩
   rintro m σ2 H2 ⟨z,rfl,hz,z1,z2,z3,z4,rfl⟩
   walk_at "rd"
   refine zn (fun hb=>?_) (fun hb=>?_)
   ·refine yel ?_
    walk_at "rd"
    refine ⟨_,?_,(z.1 * 256,z.2.1 * 256,z.2.2+1),rfl,yd,?_,?_,(ynb hb z1).trans z3,((z4.trans But.upd).trans But.upd).trans But.upd,rfl⟩
    ·show (4294967296 - z.2.1 * 256).toNat < (4294967296 - z.2.1).toNat
     omega
    ·show 8388608 <= z.2.1 * 256
     omega
    ·show z.2.1 * 256 <= 1099511627776
     omega
   ·rw [yre hb] at z3
    refine k _ ?_ z4
    rw [<- z3]
    exact hz
theorem yu5:yn ["self","unit"] ["self","unit"] (yi yte):=⟨rfl,rfl,rfl,by decide +kernel,rfl,by decide +kernel,by decide +kernel⟩
def ymi (C:Addr):Sp:=fun vs H Q _=>∃ (p dx:Addr) (x:Sn) (j:Nat),vs=[.ref p,.int (pw j)]/\H p=some (.ins C dx (zz x))/\j <= 6/\Q (.bl (decide (ycc x.1 x.2.1 j))) H
theorem yuy (T:Txt K mg a):wc P w K mg base CX0 2 a.f_q48 a.d_q48 ["self","unit"] (ymi a.C_Span):=by
 refine T.y_q48.F.ok yu5 (fun vs H Q E h=>?_) (fun cdv A outer s H vs Q E hr h=>?_)
 ·obtain ⟨p,dx,x,j,rfl,_⟩:=h
  rfl
 ·obtain ⟨p,dx,x,j,rfl,hp,hj,k⟩:=h
  refine ⟨_,(yh (yw (zw uo (yq wj (yq v6 (yv (yog T) (hr.mono (by decide)) rfl T.y_q44.m T.y_q44.F.kp T.y_q44.B .nil y7 (yc (yx (pv 0) rfl) (yc (pv 1) yf (ya rfl)) (ya rfl))) yg) (pv 1)) (yq v6 (yx (pv 0) rfl) (yx (pv 0) rfl)) (vd _)))),?_⟩
  try dsimp only [wa]
  refine yo (σ':=[some _,some _]) rfl ?_
  have q1:=ygh hj
  have q2:=xv j
  walk_at "rd"
  refine ⟨_,_,rfl,q2,by omega,?_⟩
  walk_at "rd"
  exact k
theorem yen:yn ["self","unit","size"] ["self"] (yi ys7):=⟨rfl,rfl,rfl,by decide +kernel,rfl,by decide +kernel,by decide +kernel⟩
def yqv (C:Addr):Sp:=fun vs H Q _=>∃ (p dx:Addr) (x:Sn),vs=[.ref p]/\H p=some (.ins C dx (zz x))/\OkS x/\sz x <= 100000/\∀ t H',H t=none->H' t=some (.lst ((tL x).map V.int))->vh H H'->Q (.ref t) H'
theorem yoz (T:Txt K mg a):wc P w K mg base CX0 3 a.f_q49 a.d_q49 ["self"] (yqv a.C_Span):=by
 refine T.y_q49.F.ok yen (fun vs H Q E h=>?_) (fun cdv A outer s H vs Q E hr h=>?_)
 ·obtain ⟨p,dx,x,rfl,_⟩:=h
  rfl
 ·obtain ⟨p,dx,x,rfl,hp,hx,hz,k⟩:=h
  refine ⟨_,(yj (y6 (i:=1) yen.nd rfl (Or.inl rfl) yg) (yj (y6 (i:=2) yen.nd rfl (Or.inl rfl) (yx (pv 0) rfl)) (yj (jr PassesOwn.never (wq (x4 (pv 0) T.cl_Span T.y_q48.m (yuy T) (hr.mono (by decide)) T.y_q48.B .nil y7 (yc (yq wj (pv 1) yg) yf (ya rfl)))) (yj (y6 (i:=1) yen.nd rfl (Or.inl rfl) (yq wj (pv 1) yg)) (yh (y6 (i:=2) yen.nd rfl (Or.inl rfl) (yq uw (pv 2) yg))))) (yh (yw (yv (yup T) (hr.mono (by decide)) rfl T.y_q43.m T.y_q43.F.kp T.y_q43.B .nil y7 (yc (yv (yog T) (hr.mono (by decide)) rfl T.y_q44.m T.y_q44.F.kp T.y_q44.B .nil y7 (yc (yx (pv 0) rfl) (yc (pv 1) yf (ya rfl)) (ya rfl))) (yc (pv 2) yf (ya rfl)) (ya rfl)))))))),?_⟩
  try dsimp only [wa]
  refine yo (σ':=[some _,none,none]) rfl ?_
  walk_at "rd"
  refine ⟨fun m σ' H1=>H1=H/\∃ j:Nat,σ'=[some (.ref p),some (.int (pw j)),some (.int (x.2.2 - j))]/\j <= 5/\tel x.1 x.2.1 (5 - j) j=tK x/\m=6 - j,⟨_,rfl,0,by simp [pw],by decide,rfl,rfl⟩,?_⟩
  rintro m σ2 H2 ⟨rfl,j,rfl,hj,ej,rfl⟩
  have q1:=ygh (show j <= 6 by omega)
  have q2:=xv j
  walk_at "rd"
  refine ⟨p,dx,_,rfl,hp,lkN _ (by decide +kernel) (by decide +kernel) (by decide +kernel),?_⟩
  walk_at "rd"
  refine ⟨p,dx,x,j+1,rfl,hp,by omega,?_⟩
  walk_at "rd"
  refine zn (fun hb=>?_) (fun hb=>?_)
  ·refine yel ?_
   walk_at "rd"
   have h5:=yl1 hx.ok.w1 hb
   refine ⟨_,?_,rfl,j+1,?_,h5,?_,rfl⟩
   ·show 6 - (j+1) < 6 - j
    omega
   ·have e1:x.2.2 - (j:Int) - 1=x.2.2 - ((j+1:Nat):Int):=by omega
    rw [e1]
    rfl
   ·rw [ynh hb,<- ej]
    congr 1
    omega
  ·have ej':j=tK x:=by rw [<- ej,yp7 hb]
   subst ej'
   walk_at "rd"
   refine ⟨_,_,rfl,q2,by omega,?_⟩
   walk_at "rd"
   have hs:=hx.sz
   have ht:=(yn6 hx).2
   have e1:x.2.2 - (tK x:Int)=((sz x - tK x:Nat):Int):=by omega
   rw [e1]
   exact ⟨_,_,rfl,by omega,k⟩
theorem yvc:yn ["self","place"] ["self","place"] (yi ytc):=⟨rfl,rfl,rfl,by decide +kernel,rfl,by decide +kernel,by decide +kernel⟩
def yig (C:Addr):Sp:=fun vs H Q _=>∃ (p dx pd:Addr) (v1 v2 v3:V) (d:List Int) (k:Nat),vs=[.ref p,.int k]/\H p=some (.ins C dx (jf (.ref pd) v1 v2 v3))/\H pd=some (.lst (d.map V.int))/\Q (.int ((d[k]?).getD 0)) H
theorem yw1 (T:Txt K mg a):wc P w K mg base CX0 1 a.f_q52 a.d_q52 ["self","place"] (yig a.C_Sk):=by
 refine T.y_q52.F.ok yvc (fun vs H Q E h=>?_) (fun cdv A outer s H vs Q E hr h=>?_)
 ·obtain ⟨p,dx,pd,v1,v2,v3,d,k,rfl,_⟩:=h
  rfl
 ·obtain ⟨p,dx,pd,v1,v2,v3,d,k',rfl,hp,hd,k⟩:=h
  refine ⟨_,(yh (yw (jw (yz yaf (pv 1) (yp yr rfl T.z_len (by decide +kernel) (yc (yx (pv 0) rfl) yf (ya rfl))) (vd _)) (wz vw (yx (pv 0) rfl) (pv 1) (fun _ _=>rfl)) yg))),?_⟩
  try dsimp only [wa]
  refine yo (σ':=[some _,some _]) rfl ?_
  walk_at "rd"
  refine uc (SqL.of hd) ?_
  rw [List.length_map]
  walk_at "rd"
  refine zn (fun hb=>?_) (fun hb=>?_)
  ·have hk:k' < d.length:=by omega
   rw [List.getElem?_eq_getElem hk] at k
   walk_at "rd"
   exact xt (SqL.of hd) (vv (by rw [List.getElem?_map,List.getElem?_eq_getElem hk]; rfl)) k
  ·rw [List.getElem?_eq_none (by omega)] at k
   walk_at "rd"
   exact k
theorem yxq:yn ["self"] ["self"] (yi yt5):=⟨rfl,rfl,rfl,by decide +kernel,rfl,by decide +kernel,by decide +kernel⟩
def yka (C D:Addr):Sp:=fun vs H Q _=>∃ (p dx pd ps ds:Addr) (d:List Int) (x:Sn) (r:Nat),vs=[.ref p]/\H p=some (.ins C dx (jf (.ref pd) (.ref ps) (.int (rn d r)) (.int r)))/\H pd=some (.lst (d.map V.int))/\H ps=some (.ins D ds (zz x))/\p≠ps/\OkS x/\r <= sz x /\
 ∀ H',H' p=some (.ins C dx (jf (.ref pd) (.ref ps) (.int (rn d (sz x))) (.int x.2.2)))->But p H H'->Q .non H'
theorem ypc (T:Txt K mg a):wc P w K mg base CX0 2 a.f_q51 a.d_q51 ["self"] (yka a.C_Sk a.C_Span):=by
 refine T.y_q51.F.ok yxq (fun vs H Q E h=>?_) (fun cdv A outer s H vs Q E hr h=>?_)
 ·obtain ⟨p,dx,pd,ps,ds,d,x,r,rfl,_⟩:=h
  rfl
 ·obtain ⟨p,dx,pd,ps,ds,d,x,r,rfl,hp,hd,hs,nps,hx,hr',k⟩:=h
  refine ⟨_,(yh (jr PassesOwn.never (yz yaf (yx (pv 0) rfl) (yx (yx (pv 0) rfl) rfl) (vd _)) (yj (vo (pv 0) (yq v6 (yq wj (yx (pv 0) rfl) yg) (x4 (pv 0) T.cl_Sk T.y_q52.m (yw1 T) (hr.mono (by decide)) T.y_q52.B .nil y7 (yc (yx (pv 0) rfl) yf (ya rfl)))) rfl) (yh (vo (pv 0) (yq v6 (yx (pv 0) rfl) yg) rfl))))),?_⟩
  try dsimp only [wa]
  refine yo (σ':=[some _]) rfl ?_
  have hz:=hx.sz
  refine ⟨fun m σ' H1=>∃ r:Nat,σ'=[some (.ref p)]/\H1 p=some (.ins a.C_Sk dx (jf (.ref pd) (.ref ps) (.int (rn d r)) (.int r)))/\r <= sz x/\But p H H1/\m=sz x - r,⟨_,r,rfl,hp,hr',But.refl,rfl⟩,?_⟩
  rintro m σ2 H2 ⟨r,rfl,hp2,hr2,B2,rfl⟩
  have hs2:H2 ps=some (.ins a.C_Span ds (zz x)):=B2 _ _ hs nps.symm
  have hd2:=B2.lst hp hd
  walk_at "rd"
  refine zn (fun hb=>?_) (fun hb=>?_)
  ·refine yel ?_
   walk_at "rd"
   refine ⟨p,dx,pd,_,_,_,d,r,rfl,hp2,hd2,?_⟩
   walk_at "rd"
   refine ⟨_,?_,r+1,rfl,?_,by omega,(B2.trans But.upd).trans But.upd,rfl⟩
   ·omega
   ·rw [yd]
    rfl
  ·have er:r=sz x:=by omega
   subst er
   walk_at "rd"
   refine k _ ?_ B2
   rw [<- hz]
   exact hp2
theorem yu7:yn ["self","data"] ["self","data"] (yi ysq):=⟨rfl,rfl,rfl,by decide +kernel,rfl,by decide +kernel,by decide +kernel⟩
def yjj (K:W.Frag) (a:Ads):Sp:=fun vs H Q E=>∃ (p dx:Addr) (v:V) (n:String),vs=[.ref p,v]/\H p=some (.ins a.C_Sk dx [])/\x6 K H v (.type n) /\
 ((Bad K H v n 12000/\∀ H',vh H H'->E (.ref a.C_NY) none H')\/∃ d:List Int,yzj K H v (d.map V.int) 12000/\∀ pd ps ds H',H pd=none->H ps=none->yiy a H' p dx pd ps ds d s0->But p H H'->Q .non H')
theorem yyc (T:Txt K mg a):wc P w K mg base (CXe P w) 5 a.f_q50 a.d_q50 ["self","data"] (yjj K a):=by
 refine T.y_q50.F.okE yu7 (fun vs H Q E h=>?_) (fun cdv A outer s H vs Q E hr h=>?_)
 ·obtain ⟨p,dx,v,n,rfl,_⟩:=h
  rfl
 ·obtain ⟨p,dx,v,n,rfl,hp,ty,h⟩:=h
  refine ⟨_,(yj (vo (pv 0) (vk (yzd T) (hr.mono (by decide)) rfl T.y_q7.m T.y_q7.F.kp T.y_q7.B .nil v7 (yc (pv 1) yf (ya rfl))) rfl) (yj (vo (pv 0) (jn T.k_Span (yo3 T) (hr.mono (by decide)) rfl T.m_Span T.y_q45.B .nil y7) rfl) (yj (vo (pv 0) yg rfl) (yj (vo (pv 0) yg rfl) (yh (y9 (wv (pv 0) T.cl_Sk T.y_q51.m (ypc T) (hr.mono (by decide)) T.y_q51.B .nil y7))))))),?_⟩
  try dsimp only [wa]
  refine yo (σ':=[some _,some _]) rfl ?_
  walk_at "rd"
  refine ⟨v,n,rfl,ty,?_⟩
  rcases h with ⟨hb,k⟩ | ⟨d,hg,k⟩
  ·exact .inl ⟨hb,k⟩
  ·refine .inr ⟨d.map V.int,hg,fun pd H1 hd0 hd1 S1=>?_⟩
   have hp1:=S1 _ _ hp
   have npd:pd≠p:=fun z=>by rw [z,hp] at hd0; cases hd0
   walk_at "rd"
   have B2:But p H (upd H1 p (.ins a.C_Sk dx ([("data",V.ref pd)]:List (Str × V)))):=(But.of S1).trans But.upd
   have hp2:upd H1 p (.ins a.C_Sk dx ([("data",V.ref pd)]:List (Str × V))) p=some (.ins a.C_Sk dx ([("data",V.ref pd)]:List (Str × V))):=yd
   have hd2:upd H1 p (.ins a.C_Sk dx ([("data",V.ref pd)]:List (Str × V))) pd=some (.lst (d.map V.int)):=ym npd hd1
   generalize upd H1 p (.ins a.C_Sk dx ([("data",V.ref pd)]:List (Str × V)))=H2 at B2 hp2 hd2 ⊢
   intro ps ds nps nds ne
   refine ⟨ps,ds,rfl,yd,fun H3 hs3 B3=>⟨rfl,?_⟩⟩
   have S3:vh H2 H3:=fun b o e=>B3 b o (by rw [yu (ye e nps),yu (ye e nds)]; exact e) (ye e nps)
   have hp3:=S3 _ _ hp2
   have hd3:=S3 _ _ hd2
   have nsp:p≠ps:=ye hp2 nps
   have hs0:H ps=none:=by
    cases e:H ps with
    | none=>rfl
    | some o=>exact absurd (B2 _ _ e nsp.symm) (by rw [nps]; exact fun z=>nomatch z)
   walk_at "rd"
   refine ⟨p,dx,pd,ps,ds,d,s0,0,rfl,yd,?_,?_,nsp,vbe,Nat.zero_le _,fun H4 hp4 B4=>?_⟩
   ·exact ym npd (ym npd (ym npd hd3))
   ·exact ym nsp.symm (ym nsp.symm (ym nsp.symm hs3))
   ·walk_at "rd"
    have B34:But p H3 H4:=((But.upd.trans But.upd).trans But.upd).trans B4
    exact k pd ps ds H4 hd0 hs0 ⟨hp4,B34 _ _ hd3 npd,B34 _ _ hs3 nsp.symm,nsp⟩ ((B2.trans (But.of S3)).trans B34)
theorem ypb:yn ["self","chance","bit"] ["self","chance"] (yi yt0):=⟨rfl,rfl,rfl,by decide +kernel,rfl,by decide +kernel,by decide +kernel⟩
def ynk (K:W.Frag) (a:Ads):Sp:=fun vs H Q E=>∃ (p dx pd ps ds:Addr) (d:List Int) (x:Sn) (v:V) (n:String),vs=[.ref p,v]/\yiy a H p dx pd ps ds d x/\OkS x/\x6 K H v (.type n)/\(chV v=false->E (.ref a.C_NC) none H) /\
 ∀ c:Int,v=.int c->Ch c->∀ H',yiy a H' p dx pd ps ds d (nar x c (yap d x c))->yme p ps H H'->Q (.int (yap d x c)) H'
theorem yvx {x:Sn} {c b:Int} (h:Ok x) (hc:Ch c):sz x <= sz (nar x c b):=by
 obtain ⟨r,e⟩:=yy5 (if b=1 then x.1 else x.1+cut x.2.1 c) (if b=1 then cut x.2.1 c else x.2.1 - cut x.2.1 c) x.2.2
 have e2:nar x c b=ren (if b=1 then x.1 else x.1+cut x.2.1 c) (if b=1 then cut x.2.1 c else x.2.1 - cut x.2.1 c) x.2.2:=by
  unfold nar
  split <;> rfl
 rw [e2,e]
 unfold sz
 dsimp only
 omega
theorem ywz (T:Txt K mg a):wc P w K mg base (CXe P w) 5 a.f_q53 a.d_q53 ["self","chance"] (ynk K a):=by
 refine T.y_q53.F.okE ypb (fun vs H Q E h=>?_) (fun cdv A outer s H vs Q E hr h=>?_)
 ·obtain ⟨p,dx,pd,ps,ds,d,x,v,n,rfl,_⟩:=h
  rfl
 ·obtain ⟨p,dx,pd,ps,ds,d,x,v,n,rfl,hk,hx,ty,k1,k⟩:=h
  refine ⟨_,(yj (y9 (vk (ytw T) (hr.mono (by decide)) rfl T.y_q9.m T.y_q9.F.kp T.y_q9.B .nil v7 (yc (pv 1) yf (ya rfl)))) (yj (yb4 (y6 (i:=2) ypb.nd rfl (Or.inl rfl) (jw (yz yaf (yx (pv 0) rfl) (yq v6 (yx (yx (pv 0) rfl) rfl) (x4 (yx (pv 0) rfl) T.cl_Span T.y_q46.m (yoj T) (hr.mono (by decide)) T.y_q46.B .nil y7 (yc (pv 1) yf (ya rfl)))) (vd _)) yg yg))) (yj (y9 (zb (yx (pv 0) rfl) T.cl_Span T.y_q47.m (yom T) (hr.mono (by decide)) T.y_q47.B .nil v7 (yc (pv 1) (yc (pv 2) yf (ya rfl)) (ya rfl)))) (yj (y9 (wv (pv 0) T.cl_Sk T.y_q51.m (ypc T) (hr.mono (by decide)) T.y_q51.B .nil y7)) (yh (yw (pv 2))))))),?_⟩
  try dsimp only [wa]
  refine yo (σ':=[some _,some _,none]) rfl ?_
  walk_at "rd"
  refine ⟨v,n,rfl,ty,fun hv=>?_,k1⟩
  obtain ⟨c,rfl,c1,c2⟩:=yf1 hv
  have hc:Ch c:=⟨c1,c2⟩
  have k:=k c rfl hc
  have hme:=hk.me
  have hsp:=hk.sp
  walk_at "rd"
  refine yip (fun σ' H'=>σ'=[some (.ref p),some (.int c),some (.int (yap d x c))]/\H=H') ?_ ?_
  ·walk_at "rd"
   refine ⟨ps,ds,_,rfl,hsp,lkN _ (by decide +kernel) (by decide +kernel) (by decide +kernel),?_⟩
   walk_at "rd"
   refine ⟨ps,ds,x,c,rfl,hsp,hc,?_⟩
   walk_at "rd"
   unfold yap
   refine zn (fun hb=>?_) (fun hb=>?_)
   ·rw [if_pos hb]
    walk_at "rd"
    exact ⟨rfl,rfl⟩
   ·rw [if_neg hb]
    walk_at "rd"
    exact ⟨rfl,rfl⟩
  ·rintro σ' H' ⟨rfl,rfl⟩
   have hb2:=ydb d x c
   generalize hb:yap d x c=b at hb2 k ⊢
   walk_at "rd"
   refine ⟨ps,ds,_,rfl,hsp,lkN _ (by decide +kernel) (by decide +kernel) (by decide +kernel),?_⟩
   walk_at "rd"
   refine ⟨ps,ds,x,.int c,.int b,_,_,rfl,hsp,hx.ok,.int c,.int b,(fun z=>by rw [yeo hc] at z; cases z),(fun _ z=>by rw [ydd (by omega) (by omega)] at z; cases z),fun c' b' ec eb _ _ _ H1 hs1 B1=>?_⟩
   obtain rfl:c=c':=V.int.inj ec
   obtain rfl:b=b':=V.int.inj eb
   have hme1:=B1 _ _ hme hk.ne
   have hdt1:=B1.lst hsp hk.dt
   walk_at "rd"
   have hme1':H1 p=some (.ins a.C_Sk dx (jf (.ref pd) (.ref ps) (.int (rn d (sz x))) (.int ((sz x:Nat):Int)))):=by rw [hx.sz]; exact hme1
   refine ⟨p,dx,pd,ps,ds,d,nar x c b,sz x,rfl,hme1',hdt1,hs1,hk.ne,yfu hx hc,yvx hx.ok hc,fun H2 hp2 B2=>?_⟩
   walk_at "rd"
   exact k H2 ⟨hp2,B2.lst hme1 hdt1,B2 _ _ hs1 hk.ne.symm,hk.ne⟩ (B1.two'.trans B2.two)
theorem yyg:yn ["self"] ["self"] (yi yua):=⟨rfl,rfl,rfl,by decide +kernel,rfl,by decide +kernel,by decide +kernel⟩
def yjf (a:Ads):Sp:=fun vs H Q _=>∃ (p dx pd ps ds:Addr) (d:List Int) (x:Sn),vs=[.ref p]/\yiy a H p dx pd ps ds d x/\OkS x/\sz x <= tMx/\∀ t H',H t=none->H' t=some (.lst ((tL x).map V.int))->vh H H'->Q (.ref t) H'
theorem yv6 (T:Txt K mg a):wc P w K mg base CX0 4 a.f_q54 a.d_q54 ["self"] (yjf a):=by
 refine T.y_q54.F.ok yyg (fun vs H Q E h=>?_) (fun cdv A outer s H vs Q E hr h=>?_)
 ·obtain ⟨p,dx,pd,ps,ds,d,x,rfl,_⟩:=h
  rfl
 ·obtain ⟨p,dx,pd,ps,ds,d,x,rfl,hk,hx,hz,k⟩:=h
  have hme:=hk.me
  have hsp:=hk.sp
  refine ⟨_,(yh (yw (wv (yx (pv 0) rfl) T.cl_Span T.y_q49.m (yoz T) (hr.mono (by decide)) T.y_q49.B .nil y7))),?_⟩
  try dsimp only [wa]
  refine yo (σ':=[some _]) rfl ?_
  walk_at "rd"
  refine ⟨ps,ds,_,rfl,hsp,lkN _ (by decide +kernel) (by decide +kernel) (by decide +kernel),?_⟩
  walk_at "rd"
  exact ⟨ps,ds,x,rfl,hsp,hx,hz,k⟩
abbrev FA.re (A:FA) (ml el pl:Addr) (sl:Nat->Addr):FA:={ A with ml:=ml,el:=el,pl:=pl,sl:=sl }
def FX.run (A:FA) (X:FX):List Int->FX
 | []=>X
 | b :: r=>FX.run A (X.see A b) r
theorem yft (A:FA):∀ (bs cs:List Int) (X:FX),X.run A (bs++cs)=(X.run A bs).run A cs
 | [],_,_=>rfl
 | b :: r,cs,X=>yft A r cs (X.see A b)
theorem ymt (A:FA) (bs:List Int) (b:Int) (X:FX):X.run A (bs++[b])=(X.run A bs).see A b:=yft A bs [b] X
theorem za {A:FA} {X:FX} {bs:List Int} {k:Nat} {b:Int} (h:bs[k]?=some b):X.run A (bs.take (k+1))=(X.run A (bs.take k)).see A b:=by
 rw [z0 h,ymt]
structure FGo (p:Addr) (A:FA) (O:Nat->Addr->Prop) (H H':Hp) (el:Addr) (O':Nat->Addr->Prop):Prop where
 he:el=A.el\/H el=none
 hO:∀ j c,j < A.n->O' j c->O j c\/H c=none
 fr:∀ c o,H c=some o->c≠p->c≠A.mp->c≠A.el->(∀ j,j < A.n->¬ O j c)->H' c=some o
 live:∀ c o,H c=some o->∃ o',H' c=some o'
theorem FGo.free {p:Addr} {A:FA} {O O':Nat->Addr->Prop} {H H':Hp} {el c:Addr} (h:FGo p A O H H' el O') (hc:H' c=none):H c=none:=by
 cases e:H c with
 | none=>rfl
 | some o =>
  obtain ⟨o',w⟩:=h.live c o e
  rw [hc] at w
  cases w
theorem FGo.refl {p:Addr} {A:FA} {O:Nat->Addr->Prop} {H:Hp}:FGo p A O H H A.el O:=⟨.inl rfl,fun _ _ _ w=>.inl w,fun _ _ e _ _ _ _=>e,fun _ o e=>⟨o,e⟩⟩
theorem FGo.trans {p:Addr} {A:FA} {O O1 O2:Nat->Addr->Prop} {H H1 H2:Hp} {ml el pl el2:Addr} {sl:Nat->Addr} (h:FGo p A O H H1 el O1) (k:FGo p (A.re ml el pl sl) O1 H1 H2 el2 O2):FGo p A O H H2 el2 O2:=by
 refine ⟨?_,fun j c hj w=>?_,fun c o e c1 c2 c3 no=>?_,fun c o e=>?_⟩
 ·rcases k.he with z | z
  ·rcases h.he with y | y
   ·exact .inl (z.trans y)
   ·exact .inr (by rw [show el2=el from z]; exact y)
  ·exact .inr (h.free z)
 ·rcases k.hO j c hj w with v | v
  ·exact h.hO j c hj v
  ·exact .inr (h.free v)
 ·refine k.fr c o (h.fr c o e c1 c2 c3 no) c1 c2 (fun z=>?_) (fun j hj w=>?_)
  ·rcases h.he with y | y
   ·exact c3 (z.trans y)
   ·rw [show c=el from z,y] at e
    cases e
  ·rcases h.hO j c hj w with v | v
   ·exact no j hj v
   ·rw [e] at v
    cases v
 ·obtain ⟨o1,w1⟩:=h.live c o e
  exact k.live c o1 w1
theorem FGo.same {p:Addr} {A:FA} {O O':Nat->Addr->Prop} {H H1 H2:Hp} {el:Addr} (h:FGo p A O H H1 el O') (S:vh H1 H2):FGo p A O H H2 el O' :=
 ⟨h.he,h.hO,fun c o e c1 c2 c3 no=>S _ _ (h.fr c o e c1 c2 c3 no),fun c o e=>let ⟨o',w⟩:=h.live c o e; ⟨o',S _ _ w⟩⟩
theorem FGo.ahead {p:Addr} {A:FA} {O O':Nat->Addr->Prop} {H H1 H2:Hp} {el:Addr} (S:vh H H1) (h:FGo p A O H1 H2 el O'):FGo p A O H H2 el O' :=
 ⟨h.he.imp id S.free,fun j c hj w=>(h.hO j c hj w).imp id S.free,fun c o e=>h.fr c o (S _ _ e),fun c o e=>h.live c o (S _ _ e)⟩
theorem FGo.kpa {K:W.Frag} {a:Ads} {p:Addr} {A:FA} {X:FX} {f:Nat->List Int->Option Slt} {O O':Nat->Addr->Prop} {m:Nat} {H H':Hp} {el:Addr} (hf:uy K a H p A X f O m) (h:FGo p A O H H' el O'):KpA H H' A.el el:=fun c o e hi ne=>by
 refine ⟨?_,h.fr c o e (fun z=>by rw [z,hf.me] at e; cases e; cases hi) (fun z=>by rw [z,hf.mx.o] at e; cases e; cases hi) ne fun j hj w=>?_⟩
 ·rcases h.he with z | z
  ·rw [z]
   exact ne
  ·exact ye e z
 ·obtain ⟨o',ho',hi'⟩:=(hf.B.b j hj).own c w
  rw [e] at ho'
  cases ho'
  rw [hi] at hi'
  cases hi'
theorem FGo.app {p R:Addr} {A:FA} {O O':Nat->Addr->Prop} {H H1:Hp} {el:Addr} {o':HO} (h:FGo p A O H H1 el O') (hR:H R=none):FGo p A O H (upd H1 R o') el O' :=
 ⟨h.he,h.hO,fun c o e c1 c2 c3 no=>ym (ye e hR) (h.fr c o e c1 c2 c3 no),fun c o e=>let ⟨o',w⟩:=h.live c o e; ⟨o',ym (ye e hR) w⟩⟩
theorem yg6 {g:Nat->Addr} {n:Nat} (h:1 <= n):(refs g n)[0]?=some (.ref (g 0)):=by
 unfold refs
 rw [List.getElem?_map,List.getElem?_range h]
 rfl
theorem uy.notR {K:W.Frag} {a:Ads} {G:Hp} {p R:Addr} {A:FA} {X:FX} {f:Nat->List Int->Option Slt} {O:Nat->Addr->Prop} {m j:Nat} {tu:Nat->Addr} (h:uy K a G p A X f O m) (hR:G R=some (.lst (refs tu j))) (htu:∀ i,i < j->∃ o,G (tu i)=some o/\yzf o=false) (nR:R≠A.el):∀ q,(q=A.bl\/q=A.el\/q=A.ml\/q=A.pl)->q≠R:=fun q hq z=>by
 have n1:=h.n1
 have zero:∀ (l:List V) (x:V),l[0]?=some x->refs tu j=l->1 <= j/\x=.ref (tu 0):=fun l x h0 e=>by
  rcases Nat.eq_zero_or_pos j with w | w
  ·rw [<- e,w] at h0
   cases h0
  ·rw [<- e,yg6 w] at h0
   exact ⟨w,(Option.some.inj h0).symm⟩
 rcases hq with y | y | y | y
 ·have e:=h.bl
  rw [<- y,z,hR] at e
  obtain ⟨w,e⟩:=zero _ _ (yg6 n1) (HO.lst.inj (Option.some.inj e))
  obtain ⟨o,e2,e3⟩:=htu 0 w
  rw [<- V.ref.inj e,(h.B.b 0 n1).me] at e2
  cases e2
  cases e3
 ·exact nR (z.symm.trans y)
 ·have e:=h.mx.l
  rw [<- y,z,hR] at e
  have hl:0 < X.ws.length:=by rw [h.wok.len]; exact n1
  obtain ⟨w,e⟩:=zero _ (.int X.ws[0]) (by rw [List.getElem?_map,List.getElem?_eq_getElem hl]; rfl) (HO.lst.inj (Option.some.inj e))
  cases e
 ·have e:=h.pl
  rw [<- y,z,hR] at e
  obtain ⟨w,e⟩:=zero _ _ (yg6 n1) (HO.lst.inj (Option.some.inj e))
  obtain ⟨o,e2,e3⟩:=htu 0 w
  obtain ⟨_,⟨dq,hs⟩,_,_⟩:=h.slot n1
  obtain ⟨C,fs,eo⟩:=yb5 a dq (X.g 0 (X.key A 0))
  rw [<- V.ref.inj e,hs,eo] at e2
  cases e2
  cases e3
structure ybr (H:Hp) (t:Addr) (ts:List Int) (w:Nat):Prop where
 l:H t=some (.lst (ts.map V.int))
 s:Sgs ts
 z:ts.length <= w
theorem ybr.same {H H':Hp} {t:Addr} {ts:List Int} {w:Nat} (h:ybr H t ts w) (S:vh H H'):ybr H' t ts w:=⟨S _ _ h.l,h.s,h.z⟩
def xg (tt:Nat->List Int):Nat->List Int
 | 0=>[]
 | i+1=>xg tt i++dec (tt i)
theorem yw5:yn ["thing"] ["thing"] (yi ys9):=⟨rfl,rfl,rfl,by decide +kernel,rfl,by decide +kernel,by decide +kernel⟩
def yd3 (K:W.Frag):Sp:=fun vs H Q _=>(vs=[.non]/\∀ r H',H r=none->H' r=some (.lst [])->vh H H'->Q (.ref r) H')\/∃ (l:Addr) (n:Nat) (tx:Nat->Addr) (tt:Nat->List Int),vs=[.ref l]/\H l=some (.lst (refs tx n))/\n <= 1000/\(∀ i,i < n->ybr H (tx i) (tt i) 1000) /\
 ∀ r (cx:Nat->Addr) H',H r=none->H' r=some (.lst (refs cx n))->(∀ i,i < n->H (cx i)=none/\H' (cx i)=some (.lst ((tt i).map V.int)))->vh H H'->Q (.ref r) H'
theorem yl2 (T:Txt K mg a):wc P w K mg base CX0 5 a.f_q55 a.d_q55 ["thing"] (yd3 K):=by
 refine T.y_q55.F.ok yw5 (fun vs H Q E h=>?_) (fun cdv A outer s H vs Q E hr h=>?_)
 ·rcases h with ⟨rfl,_⟩ | ⟨l,n,tx,tt,rfl,_⟩ <;> rfl
 ·rcases h with ⟨rfl,k⟩ | ⟨l,n,tx,tt,rfl,hl,hn,ht,k⟩
  ·refine ⟨_,(yj (wo (yz yp0 (pv 0) yop (vd _)) (yh (yw (w4 yf))) ve) (yj (wo (wd (wq (yp vg rfl T.z_isinstance (by decide +kernel) (yc (pv 0) (yc (xu (T:="list") rfl T.z_list (by decide +kernel)) yf (ya rfl)) (ya rfl))))) (yh ycz) ve) (yh (yw (uh rfl (v8 (pv 0)) (fun C s2 H2 fp=>(vk (yn3 T) (hr.mono (by decide)) rfl T.y_q6.m T.y_q6.F.kp T.y_q6.B .nil wf (yc (pv 0) yf (ya rfl))))))))),?_⟩
   refine yo (σ':=[some _]) rfl ?_
   walk_at "rd"
   refine vao ?_
   walk_at "rd"
   refine ⟨by walk_at "len",fun r hr0=>?_⟩
   exact k r _ hr0 yd (vj hr0)
  ·refine ⟨_,(yj (wo (yz yp0 (pv 0) yop (vd _)) (yh (yw (w4 yf))) ve) (yj (wo (wd (wq (yp vg rfl T.z_isinstance (by decide +kernel) (yc (pv 0) (yc (xu (T:="list") rfl T.z_list (by decide +kernel)) yf (ya rfl)) (ya rfl))))) (yh ycz) ve) (yh (yw (uh rfl (v8 (pv 0)) (fun C s2 H2 fp=>(vk (yn3 T) (hr.mono (by decide)) rfl T.y_q6.m T.y_q6.F.kp T.y_q6.B .nil wf (yc (pv 0) yf (ya rfl))))))))),?_⟩
   refine yo (σ':=[some _]) rfl ?_
   walk_at "rd"
   refine ydj (fun z=>nomatch z) ?_
   walk_at "rd"
   refine zg (.lst hl) (z8 _ _) ?_
   walk_at "rd"
   refine ⟨l,rfl,⟨_,SqL.of hl⟩,fun D hD=>?_⟩
   refine uf (K:=K) (xs:=refs tx n) (fun i G=>∃ cx:Nat->Addr,G D=some (.lst (refs cx i))/\(∀ j,j < i->H (cx j)=none/\G (cx j)=some (.lst ((tt j).map V.int))/\cx j≠D)/\vh H G)
    ⟨fun _=>0,yd,fun j hj=>absurd hj (Nat.not_lt_zero j),vj hD⟩ (fun i G _ ⟨_,_,_,S⟩=>SqL.of (S _ _ hl)) (fun i y G hy hi z=>?_) (fun G z=>?_)
   ·obtain ⟨cx,gD,gC,S⟩:=z
    obtain ⟨rfl,hin⟩:=ub hy
    have hti:=(ht i hin).same S
    walk_at "rd"
    refine ⟨.ref (tx i),_,rfl,.lst hti.l,.inr ⟨(tt i).map V.int,yc0 hti.l hti.s hti.z,fun c G2 hc0 hc2 S2=>?_⟩⟩
    have nc:c≠D:=(ye gD hc0).symm
    refine w9 (n:=(refs tx n).length) (S2 _ _ gD) (vq (by rw [vt]; omega)) hi ?_
    refine ⟨upN cx i c,?_,fun j hj=>?_,fun b o e=>ym (ye e hD) (S2 _ _ (S b o e))⟩
    ·rw [yd,ue,wg]
     congr 3
     exact xw fun j hj=>(wb hj).symm
    ·by_cases z:j=i
     ·rw [z,wg]
      exact ⟨S.free hc0,ym nc hc2,nc⟩
     ·have hji:j < i:=by omega
      rw [wb hji]
      obtain ⟨g1,g2,g3⟩:=gC j hji
      exact ⟨g1,ym g3 (S2 _ _ g2),g3⟩
   ·obtain ⟨cx,gD,gC,S⟩:=z
    rw [vt] at gD gC
    exact k D cx G hD gD (fun i hi=>⟨(gC i hi).1,(gC i hi).2.1⟩) S
def fa0 (n:Nat) (ps:Nat->List Int):FA:={ dp:=0,ll:=0,bl:=0,mp:=0,mx:=0,ml:=0,el:=0,pl:=0,n:=n,bk:=fun _=>0,dx:=fun _=>0,lk:=fun _=>0,dd:=fun _=>0,sl:=fun _=>0,kd:=fun _=>0,ps:=ps }
theorem j8 (A:FA):∀ (bs:List Int) (X:FX),X.run A bs=X.run (fa0 A.n A.ps) bs
 | [],_=>rfl
 | b :: r,X=>j8 A r (X.see A b)
def fX (n:Nat) (kd:Nat->Fin 3) (ps:Nat->List Int) (pre:List Int) (ts:List Int) (k:Nat):FX:=((FX0 n kd).run (fa0 n ps) pre).run (fa0 n ps) ((dec ts).take k)
def zh (n:Nat) (kd:Nat->Fin 3) (ps:Nat->List Int) (pre:List Int) (ts:List Int) (k:Nat):Int:=yl9 (fX n kd ps pre ts k).ws ((fX n kd ps pre ts k).cs (fa0 n ps))
def fCs (n:Nat) (kd:Nat->Fin 3) (ps:Nat->List Int) (pre:List Int) (ts:List Int) (k:Nat):List Int:=(fX n kd ps pre ts k).cs (fa0 n ps)
def vi (ts:List Int) (k:Nat):Int:=((dec ts)[k]?).getD 0
theorem yc4 (ts:List Int) (k:Nat) (h:k < (dec ts).length):0 <= vi ts k/\vi ts k <= 1:=by
 unfold vi
 rw [List.getElem?_eq_getElem h]
 exact zd ts _ (List.getElem_mem h)
def yoa (H:Hp) (lx:V) (N w:Nat) (lt:Nat->Addr) (tt:Nat->List Int):Prop:=((lx=.non/\N=0)\/∃ ll,lx=.ref ll/\H ll=some (.lst (refs lt N)))/\∀ i,i < N->ybr H (lt i) (tt i) w
theorem yoa.same {H H':Hp} {lx:V} {N w:Nat} {lt:Nat->Addr} {tt:Nat->List Int} (h:yoa H lx N w lt tt) (S:vh H H'):yoa H' lx N w lt tt :=
 ⟨h.1.imp id fun ⟨ll,e,z⟩=>⟨ll,e,S _ _ z⟩,fun i hi=>(h.2 i hi).same S⟩
structure yma (H:Hp) (L tx:Addr) (lx:V) (n:Nat) (lk:Nat->Addr) (kd:Nat->Fin 3) (tp:Nat->Addr) (ps:Nat->List Int) (ts:List Int) (N w:Nat) (lt:Nat->Addr) (tt:Nat->List Int):Prop where
 l:H L=some (.lst (refs lk n))
 n1:1 <= n
 n6:n <= 6
 r:jz H n lk kd tp ps
 t:ybr H tx ts 1000
 lr:yoa H lx N w lt tt
 w1:w <= 1000
 N1:N <= 1000
 b:6+6 * (N * (9 * w+1))+6 * (9 * ts.length+1)+20 < 1000000
theorem yma.same {H H':Hp} {L tx:Addr} {lx:V} {n:Nat} {lk:Nat->Addr} {kd:Nat->Fin 3} {tp:Nat->Addr} {ps:Nat->List Int} {ts:List Int} {N w:Nat} {lt:Nat->Addr} {tt:Nat->List Int} (h:yma H L tx lx n lk kd tp ps ts N w lt tt) (S:vh H H'):yma H' L tx lx n lk kd tp ps ts N w lt tt :=
 ⟨S _ _ h.l,h.n1,h.n6,h.r.same S,h.t.same S,h.lr.same S,h.w1,h.N1,h.b⟩
theorem ybf {K:W.Frag} {H:Hp} {lx:V} {N w:Nat} {lt:Nat->Addr} {tt:Nat->List Int} {Q:VK} {E:XK} (h:yoa H lx N w lt tt) (hw:w <= 1000) (hN:N <= 1000)
  (k:∀ r (cx:Nat->Addr) H',H r=none->H' r=some (.lst (refs cx N))->(∀ i,i < N->H (cx i)=none/\H' (cx i)=some (.lst ((tt i).map V.int)))->vh H H'->Q (.ref r) H'):yd3 K [lx] H Q E:=by
 obtain ⟨⟨rfl,rfl⟩ | ⟨ll,rfl,hl⟩,ht⟩:=h
 ·exact .inl ⟨rfl,fun r H' h0 h1 S=>k r (fun _=>0) H' h0 h1 (fun i hi=>absurd hi (Nat.not_lt_zero i)) S⟩
 ·exact .inr ⟨ll,N,lt,tt,rfl,hl,hN,fun i hi=>⟨(ht i hi).l,(ht i hi).s,Nat.le_trans (ht i hi).z hw⟩,k⟩
structure vcj (H H':Hp) (r:Addr) (m:Nat) (tu cl:Nat->Addr) (mx:Nat->Int) (cs:Nat->List Int) (bt:Nat->Int):Prop where
 r0:H r=none
 r:H' r=some (.lst (refs tu m))
 t:∀ j,j < m->H' (tu j)=some (.tup [.int (mx j),.ref (cl j),.int (bt j)])
 c:∀ j,j < m->H (cl j)=none/\H' (cl j)=some (.lst ((cs j).map V.int))
theorem LkG.sd {K:W.Frag} {H:Hp} {v:V} {kd:Fin 3} {tp:Addr} {ps:List Int} (h:LkG H v kd tp ps):Sd K H v (dLk kd ps) 2:=⟨h.rd,yrh kd ps,yjb kd ps,yqu kd ps⟩
theorem Sds.refs {K:W.Frag} {H:Hp} {k:Nat} {g:Nat->Addr} {d:Nat->PyData}:∀ (n:Nat),(∀ i,i < n->Sd K H (.ref (g i)) (d i) k)->Sds K H (refs g n) ((List.range n).map d) k:=fun n h=>by
 unfold Law.refs
 have key:∀ l:List Nat,(∀ i∈l,i < n)->Sds K H (l.map fun i=>V.ref (g i)) (l.map d) k:=by
  intro l
  induction l with
  | nil=>exact fun _=>.nil
  | cons i r ih=>exact fun hl=>.cons (h i (hl i (by simp))) (ih fun j hj=>hl j (by simp [hj]))
 exact key (List.range n) fun i hi=>List.mem_range.mp hi
theorem jz.sds {K:W.Frag} {H:Hp} {n:Nat} {lk:Nat->Addr} {kd:Nat->Fin 3} {tp:Nat->Addr} {ps:Nat->List Int} (h:jz H n lk kd tp ps):Sds K H (refs lk n) ((List.range n).map fun i=>dLk (kd i) (ps i)) 2:=Sds.refs n fun i hi=>(h i hi).sd
structure XOk (n:Nat) (X:FX):Prop where
 w:WOk n X.ws
 s:∀ i k,(X.g i k).ok
theorem XOk.cs {n:Nat} {X:FX} (h:XOk n X) (ps:Nat->List Int):COk n (X.cs (fa0 n ps)):=by
 refine ⟨by unfold FX.cs; rw [List.length_map,List.length_range]; rfl,fun c hc=>?_,fun c hc=>?_⟩
 ·obtain ⟨j,_,rfl⟩:=List.mem_map.mp hc
  exact (yhb (h.s _ _)).1
 ·obtain ⟨j,_,rfl⟩:=List.mem_map.mp hc
  exact (yhb (h.s _ _)).2
theorem XOk.see {n:Nat} {X:FX} (h:XOk n X) (n1:1 <= n) (n6:n <= 6) (ps:Nat->List Int) {b:Int} (b0:0 <= b) (b1:b <= 1):XOk n (X.see (fa0 n ps) b):=by
 refine ⟨ypo n1 n6 h.w (h.cs ps),fun i k=>?_⟩
 show (if k=X.key (fa0 n ps) i then (X.g i k).see b else X.g i k).ok
 split
 ·exact Slt.see_ok (h.s i k) b0 b1
 ·exact h.s i k
theorem XOk.run {n:Nat} (n1:1 <= n) (n6:n <= 6) (ps:Nat->List Int):∀ (bs:List Int) {X:FX},XOk n X->yiv bs->XOk n (X.run (fa0 n ps) bs)
 | [],_,h,_=>h
 | b :: r,_,h,hb=>XOk.run n1 n6 ps r (h.see n1 n6 ps (hb b (by simp)).1 (hb b (by simp)).2) fun c hc=>hb c (by simp [hc])
theorem XOk.zero {n:Nat} (n1:1 <= n) (n6:n <= 6) (kd:Nat->Fin 3):XOk n (FX0 n kd):=⟨yyp n n1 n6,fun i _=>yon (kd i)⟩
theorem zr (tt:Nat->List Int):∀ N,yiv (xg tt N)
 | 0=>fun _ z=>nomatch z
 | N+1=>ygk (zr tt N) (zd _)
theorem ykd {bs:List Int} (h:yiv bs) (k:Nat):yiv (bs.take k):=fun b hb=>h b (List.mem_of_mem_take hb)
theorem yy3 {n:Nat} (n1:1 <= n) (n6:n <= 6) {kd:Nat->Fin 3} {ps:Nat->List Int} {pre ts:List Int} (hp:yiv pre) (k:Nat):XOk n (fX n kd ps pre ts k):=by
 unfold fX
 exact ((XOk.zero n1 n6 kd).run n1 n6 ps pre hp).run n1 n6 ps _ (ykd (zd ts) k)
theorem yfr {n:Nat} (n1:1 <= n) (n6:n <= 6) {kd:Nat->Fin 3} {ps:Nat->List Int} {pre ts:List Int} (hp:yiv pre) (k:Nat):Ch (zh n kd ps pre ts k):=yhc n1 (yy3 (kd:=kd) (ps:=ps) (ts:=ts) n1 n6 hp k).w ((yy3 (kd:=kd) (ps:=ps) (ts:=ts) n1 n6 hp k).cs ps)
theorem ylz:yn ["foreteller","texts","text","bit"] ["foreteller","texts"] (yi ysn):=⟨rfl,rfl,rfl,by decide +kernel,rfl,by decide +kernel,by decide +kernel⟩
def yng (K:W.Frag) (a:Ads):Sp:=fun vs H Q _=>∃ (p:Addr) (A:FA) (X:FX) (f:Nat->List Int->Option Slt) (O:Nat->Addr->Prop) (m:Nat) (tl:Addr) (n w:Nat) (tx:Nat->Addr) (tt:Nat->List Int),vs=[.ref p,.ref tl]/\uy K a H p A X f O m/\X.sg=[]/\X.nd=0/\H tl=some (.lst (refs tx n))/\tl≠A.el/\(∀ i,i < n->ybr H (tx i) (tt i) w/\tx i≠A.el)/\w <= 1000/\m+6 * (n * (9 * w+1))+20 < 1000000 /\
 ∀ (ml el pl:Addr) (sl:Nat->Addr) (f':Nat->List Int->Option Slt) (O':Nat->Addr->Prop) (m':Nat) (H':Hp),uy K a H' p (A.re ml el pl sl) (X.run A (xg tt n)) f' O' m'->m' <= m+6 * (n * (9 * w+1))->FGo p A O H H' el O'->(X.run A (xg tt n)).sg=[]->(X.run A (xg tt n)).nd=0->Q .non H'
theorem yk9 (T:Txt K mg a):wc P w K mg base CX0 7 a.f_q56 a.d_q56 ["foreteller","texts"] (yng K a):=by
 refine T.y_q56.F.ok ylz (fun vs H Q E h=>?_) (fun cdv A outer s H vs Q E hr h=>?_)
 ·obtain ⟨p,A,X,f,O,m,tl,n,w,tx,tt,rfl,_⟩:=h
  rfl
 ·obtain ⟨p,A0,X,f,O,m,tl,n,w,tx,tt,rfl,hF,hsg,hnd,htl,ntl,htx,hw,hm,k⟩:=h
  refine ⟨_,(yh (uv PassesOwn.never rfl (v8 (pv 1)) (vz (i:=2) ylz.nd rfl (Or.inl rfl)) (yh (uv PassesOwn.never rfl (v8 (yv (yln T) (hr.mono (by decide)) rfl T.y_q13.m T.y_q13.F.kp T.y_q13.B .nil y7 (yc (pv 2) yf (ya rfl)))) (vz (i:=3) ylz.nd rfl (Or.inl rfl)) (yh (y9 (x4 (pv 0) T.cl_Ft T.y_q40.m (ygz T) (hr.mono (by decide)) T.y_q40.B .nil y7 (yc (pv 3) yf (ya rfl))))))))),?_⟩
  try dsimp only [wa]
  refine yo (σ':=[some _,some _,none,none]) rfl ?_
  walk_at "rd"
  refine ⟨tl,rfl,⟨_,SqL.of htl⟩,ua (K:=K) (a:=tl) (xs:=refs tx n) (fun i σ2 G=>∃ (v1 v2:Option V) (ml el pl:Addr) (sl:Nat->Addr) (f':Nat->List Int->Option Slt) (O':Nat->Addr->Prop) (m':Nat),σ2=[some (.ref p),some (.ref tl),v1,v2]/\uy K a G p (A0.re ml el pl sl) (X.run A0 (xg tt i)) f' O' m'/\m' <= m+6 * (i * (9 * w+1))/\FGo p A0 O H G el O'/\(X.run A0 (xg tt i)).sg=[]/\(X.run A0 (xg tt i)).nd=0)
   ⟨_,_,A0.ml,A0.el,A0.pl,A0.sl,f,O,m,rfl,hF,Nat.le_add_right _ _,FGo.refl,hsg,hnd⟩ (fun i σ2 G _ ⟨_,_,_,_,_,_,_,_,_,_,_,_,go,_,_⟩=>SqL.of ((go.kpa hF).lst htl ntl)) ?_ ?_⟩
  ·rintro i y σ2 G hy ⟨v1,v2,ml,el,pl,sl,f1,O1,m1,rfl,hF1,hm1,go1,hsg1,hnd1⟩
   obtain ⟨rfl,hin⟩:=ub hy
   obtain ⟨hti,nti⟩:=htx i hin
   have htiG:=(go1.kpa hF).lst hti.l nti
   have hts:=hti.s
   have hz:=hti.z
   have hbound:i * (9 * w+1)+(9 * w+1) <= n * (9 * w+1):=by
    have:(i+1) * (9 * w+1) <= n * (9 * w+1):=Nat.mul_le_mul_right _ hin
    rw [Nat.add_mul,Nat.one_mul] at this
    exact this
   have hdl:=ug (tt i)
   walk_at "rd"
   refine ⟨tx i,tt i,rfl,htiG,hts,by omega,fun bt G1 hbt0 hbt1 S1=>?_⟩
   have hF1':=hF1.same S1
   have nbt:bt≠el:=(ye hF1.el hbt0).symm
   refine ⟨bt,rfl,⟨_,SqL.of hbt1⟩,ua (K:=K) (a:=bt) (xs:=(dec (tt i)).map V.int) (fun j σ2 G'=>∃ (v2:Option V) (ml' el' pl':Addr) (sl':Nat->Addr) (f':Nat->List Int->Option Slt) (O':Nat->Addr->Prop),σ2=[some (.ref p),some (.ref tl),some (.ref (tx i)),v2]/\uy K a G' p (A0.re ml' el' pl' sl') ((X.run A0 (xg tt i)).run A0 ((dec (tt i)).take j)) f' O' (m1+6 * j)/\FGo p (A0.re ml el pl sl) O1 G1 G' el' O'/\TxE (tt i) j ((X.run A0 (xg tt i)).run A0 ((dec (tt i)).take j)).sg ((X.run A0 (xg tt i)).run A0 ((dec (tt i)).take j)).nd)
    ⟨_,ml,el,pl,sl,f1,O1,rfl,hF1',FGo.refl,.inl ⟨Nat.zero_le _,by show yev _ _ (X.run A0 (xg tt i)).sg (X.run A0 (xg tt i)).nd; rw [hsg1,hnd1]; exact yev.zero _⟩⟩ (fun j σ2 G' _ ⟨_,_,_,_,_,_,_,_,_,go,_⟩=>SqL.of ((go.kpa hF1').lst hbt1 nbt)) ?_ ?_⟩
   ·rintro j y σ3 G' hy ⟨v2,ml2,el2,pl2,sl2,f2,O2,rfl,hF2,go2,hT⟩
    obtain ⟨b,rfl,hbm,hb,hj⟩:=x8 hy
    obtain ⟨b0,b1⟩:=zd _ b hbm
    obtain ⟨hTx,hTn⟩:=hT.next hts hb
    obtain ⟨nd0,nd1⟩:=hTx.nd hts
    have hsl:=hTx.len
    have hp2:=hF2.me
    walk_at "rd"
    refine ⟨p,A0.re ml2 el2 pl2 sl2,_,f2,O2,m1+6 * j,b,rfl,hF2,b0,b1,by omega,nd0,by omega,fun ml3 el3 pl3 sl3 f3 O3 G3 he3 hF3 hO3 fr3 lv3 _=>?_⟩
    walk_at "rd"
    have n6:=hF2.n6
    refine ⟨_,ml3,el3,pl3,sl3,f3,O3,rfl,?_,go2.trans ⟨he3,hO3,fr3,lv3⟩,?_⟩
    ·rw [za hb]
     exact hF3.up (by show m1+6 * j+A0.n <= _; have:A0.n <= 6:=n6; omega)
    ·rw [za hb]
     exact hTn
   ·rintro σ3 G' ⟨v2,ml2,el2,pl2,sl2,f2,O2,rfl,hF2,go2,hT⟩
    rw [List.length_map] at hF2 hT
    rw [List.take_length] at hF2 hT
    have er:X.run A0 (xg tt (i+1))=(X.run A0 (xg tt i)).run A0 (dec (tt i)):=yft A0 _ _ X
    rw [<- er] at hF2 hT
    have hend:(X.run A0 (xg tt (i+1))).sg=[]/\(X.run A0 (xg tt (i+1))).nd=0:=by
     rcases hT with ⟨h,_⟩ | ⟨_,h⟩
     ·omega
     ·exact h
    walk_at "rd"
    exact ⟨_,_,ml2,el2,pl2,sl2,f2,O2,_,rfl,hF2,by rw [Nat.add_mul,Nat.one_mul]; omega,go1.trans (FGo.ahead S1 go2),hend.1,hend.2⟩
  ·rintro σ2 G ⟨v1,v2,ml,el,pl,sl,f1,O1,m1,rfl,hF1,hm1,go1,hsg1,hnd1⟩
   rw [vt] at hF1 hm1 hsg1 hnd1
   walk_at "rd"
   exact k ml el pl sl f1 O1 m1 G hF1 hm1 go1 hsg1 hnd1
theorem yeq:yn ["looks","text","learned","foreteller","bits","rows","bit"] ["looks","text","learned"] (yi ysi):=⟨rfl,rfl,rfl,by decide +kernel,rfl,by decide +kernel,by decide +kernel⟩
def yq6 (K:W.Frag) (a:Ads):Sp:=fun vs H Q _=>∃ (L tx:Addr) (lx:V) (n:Nat) (lk:Nat->Addr) (kd:Nat->Fin 3) (tp:Nat->Addr) (ps:Nat->List Int) (ts:List Int) (N w:Nat) (lt:Nat->Addr) (tt:Nat->List Int),vs=[.ref L,.ref tx,lx]/\yma H L tx lx n lk kd tp ps ts N w lt tt /\
 ∀ r (tu cl:Nat->Addr) H',vcj H H' r (dec ts).length tu cl (zh n kd ps (xg tt N) ts) (fCs n kd ps (xg tt N) ts) (vi ts)->(∀ k,k < (dec ts).length->Ch (zh n kd ps (xg tt N) ts k)/\WOk n (fX n kd ps (xg tt N) ts k).ws/\COk n (fCs n kd ps (xg tt N) ts k))->(∀ i j,i < (dec ts).length->j < (dec ts).length->i≠j->cl i≠cl j)->vh H H'->Q (.ref r) H'
theorem yx2 (T:Txt K mg a):wc P w K mg base CX0 8 a.f_q57 a.d_q57 ["looks","text","learned"] (yq6 K a):=by
 refine T.y_q57.F.ok yeq (fun vs H Q E h=>?_) (fun cdv A outer s H vs Q E hr h=>?_)
 ·obtain ⟨L,tx,lx,n,lk,kd,tp,ps,ts,N,w,lt,tt,rfl,_⟩:=h
  rfl
 ·obtain ⟨L,tx,lx,n,lk,kd,tp,ps,ts,N,w,lt,tt,rfl,hTl,k⟩:=h
  have hb1:=hTl.b
  have n1:=hTl.n1
  have n6:=hTl.n6
  refine yk (y6 (i:=3) yeq.nd rfl (Or.inl rfl) (yar T.k_Ft (ylh T) (hr.mono (by decide)) rfl T.m_Ft T.y_q36.B .nil wf (yc (pv 0) yf (ya rfl)))) ?_
  refine yk (y6 (i:=4) yeq.nd rfl (Or.inl rfl) (yv (yln T) (hr.mono (by decide)) rfl T.y_q13.m T.y_q13.F.kp T.y_q13.B .nil y7 (yc (pv 1) yf (ya rfl)))) ?_
  refine yk (y9 (yv (yk9 T) (hr.mono (by decide)) rfl T.y_q56.m T.y_q56.F.kp T.y_q56.B .nil y7 (yc (pv 3) (yc (yv (yl2 T) (hr.mono (by decide)) rfl T.y_q55.m T.y_q55.F.kp T.y_q55.B .nil y7 (yc (pv 2) yf (ya rfl))) yf (ya rfl)) (ya rfl)))) ?_
  refine yk (y6 (i:=5) yeq.nd rfl (Or.inl rfl) (w4 yf)) ?_
  refine yk (uv PassesOwn.never rfl (v8 (pv 4)) (vz (i:=6) yeq.nd rfl (Or.inl rfl)) (yj (y9 (yal PySem.F.plainAttrs_list PySem.F.slot_list_append PySem.F.type_list_append wn (pv 5) (yc (yhg (yc (wv (pv 3) T.cl_Ft T.y_q39.m (ylc T) (hr.mono (by decide)) T.y_q39.B .nil y7) (yc (wv (pv 3) T.cl_Ft T.y_q38.m (yly T) (hr.mono (by decide)) T.y_q38.B .nil y7) (yc (pv 6) yf (ya rfl)) (ya rfl)) (ya rfl))) yf (ya rfl)))) (yh (y9 (x4 (pv 3) T.cl_Ft T.y_q40.m (ygz T) (hr.mono (by decide)) T.y_q40.B .nil y7 (yc (pv 6) yf (ya rfl))))))) ?_
  refine ⟨_,(yh (yw (pv 5))),?_⟩
  try dsimp only [wa]
  refine yo (σ':=[some _,some _,some _,none,none,none,none]) rfl ?_
  walk_at "rd"
  intro p dp np ndp nep
  have S0:vh H (upd (upd H dp (.own p)) p (.ins a.C_Ft dp [])):=fun b o e=>by rw [yu (ye e np),yu (ye e ndp)]; exact e
  refine ⟨p,dp,.ref L,rfl,yd,.inr ⟨L,n,lk,kd,tp,ps,rfl,S0 _ _ hTl.l,n1,n6,hTl.r.same S0,fun A f O H1 N1 B1=>⟨rfl,?_⟩⟩⟩
  obtain ⟨hft,rfl,rfl,rfl,rfl,oO,oB,oM,oL⟩:=N1
  have S1:vh H H1:=fun b o e=>B1 b o (S0 b o e) (ye e np)
  have fresh:∀ {c:Addr},upd (upd H dp (.own p)) p (.ins a.C_Ft dp []) c=none->H c=none:=fun h=>S0.free h
  have hel0:H A.el=none:=fresh (oL A.el (.inr (.inl rfl)))
  walk_at "rd"
  refine ⟨tx,ts,rfl,S1 _ _ hTl.t.l,hTl.t.s,hTl.t.z,fun bt H2 hbt0 hbt2 S2=>?_⟩
  have S12:=S1.trans S2
  have hft2:=hft.same S2
  have nbt:bt≠A.el:=(ye hft.el hbt0).symm
  walk_at "rd"
  refine ybf (hTl.lr.same S12) hTl.w1 hTl.N1 fun cl0 cx H3 h0 h3 hx S3=>?_
  walk_at "rd"
  refine ⟨p,A,FX0 A.n A.kd,f,O,6,cl0,N,w,cx,tt,rfl,hft2.same S3,rfl,rfl,h3,(ye hft2.el h0).symm,fun i hi=>⟨⟨(hx i hi).2,(hTl.lr.2 i hi).s,(hTl.lr.2 i hi).z⟩,(ye hft2.el (hx i hi).1).symm⟩,hTl.w1,by omega,fun ml el pl sl f1 O1 m1 H4 hF4 hm4 go4 sg4 nd4=>?_⟩
  have go4:=FGo.ahead S3 go4
  have hF4:=hF4.up hm4
  have hbt4:=(go4.kpa hft2).lst hbt2 nbt
  have hdl:=ug ts
  have htz:=hTl.t.z
  have hts:=hTl.t.s
  generalize hX:(FX0 A.n A.kd).run A (xg tt N)=XX at hF4 sg4 nd4
  generalize hM:6+6 * (N * (9 * w+1))=M at hF4 hb1
  walk_at "rd"
  refine ⟨by walk_at "len",fun R hR0=>?_⟩
  with_reducible first | refine y8 hR0 fun H5 S5 hR5=>?_ | refine new_obj hR0 fun H5 S5 hR5=>?_
  have hR2:H2 R=none:=go4.free hR0
  walk_at "rd"
  refine ⟨bt,rfl,⟨_,SqL.of (S5 _ _ hbt4)⟩,ua (K:=K) (a:=bt) (xs:=(dec ts).map V.int) (fun j σ2 G=>∃ (v:Option V) (ml el pl:Addr) (sl:Nat->Addr) (f':Nat->List Int->Option Slt) (O':Nat->Addr->Prop) (tu cl:Nat->Addr),σ2=[some (.ref L),some (.ref tx),some lx,some (.ref p),some (.ref bt),some (.ref R),v] /\
    uy K a G p (A.re ml el pl sl) (XX.run A ((dec ts).take j)) f' O' (M+6 * j)/\FGo p A O H2 G el O'/\TxE ts j (XX.run A ((dec ts).take j)).sg (XX.run A ((dec ts).take j)).nd/\(G R=some (.lst (refs tu j))/\R≠el) /\
    (∀ i,i < j->G (tu i)=some (.tup [.int (yl9 (XX.run A ((dec ts).take i)).ws ((XX.run A ((dec ts).take i)).cs A)),.ref (cl i),.int (vi ts i)])/\G (cl i)=some (.lst (((XX.run A ((dec ts).take i)).cs A).map V.int))/\cl i≠el/\H2 (cl i)=none/\cl i≠R) /\
    (∀ i,i < j->WOk A.n (XX.run A ((dec ts).take i)).ws/\COk A.n ((XX.run A ((dec ts).take i)).cs A))/\(∀ i l,i < j->l < j->i≠l->cl i≠cl l))
   ⟨_,ml,el,pl,sl,f1,O1,fun _=>0,fun _=>0,rfl,hF4.same S5,go4.same S5,.inl ⟨Nat.zero_le _,by show yev _ _ XX.sg XX.nd; rw [sg4,nd4]; exact yev.zero _⟩,⟨hR5,(ye hF4.el hR0).symm⟩,fun i hi=>absurd hi (Nat.not_lt_zero i),fun i hi=>absurd hi (Nat.not_lt_zero i),fun i _ hi=>absurd hi (Nat.not_lt_zero i)⟩
   (fun j σ2 G _ ⟨_,_,_,_,_,_,_,_,_,_,_,go,_⟩=>SqL.of ((go.kpa hft2).lst hbt2 nbt)) ?_ ?_⟩
  ·rintro j y σ2 G hy ⟨v,ml1,el1,pl1,sl1,f2,O2,tu,cl,rfl,hF,go,hT,⟨hR,nR⟩,hrow,hok,hdis⟩
   obtain ⟨b,rfl,hbm,hb,hj⟩:=x8 hy
   obtain ⟨b0,b1⟩:=zd _ b hbm
   obtain ⟨hTx,hTn⟩:=hT.next hts hb
   obtain ⟨nd0,nd1⟩:=hTx.nd hts
   have hsl:=hTx.len
   have hbt:vi ts j=b:=by unfold vi; rw [hb]; rfl
   have hpG:=hF.me
   walk_at "rd"
   refine yab hR ?_
   walk_at "rd"
   refine ⟨p,A.re ml1 el1 pl1 sl1,_,f2,O2,_,rfl,hF,fun G1 T1=>?_⟩
   have hpG1:=T1 _ _ hpG
   walk_at "rd"
   refine ⟨p,A.re ml1 el1 pl1 sl1,_,f2,O2,_,rfl,hF.same T1,fun c G2 hc0 hc2 T2=>?_⟩
   walk_at "rd"
   refine ⟨by walk_at "len",fun t ht0=>?_⟩
   with_reducible first | refine y8 ht0 fun G3 T3 ht3=>?_ | refine new_obj ht0 fun G3 T3 ht3=>?_
   have T13:=T1.trans (T2.trans T3)
   walk_at "rd"
   refine xn (T13 _ _ hR) (vq (by rw [vt]; omega)) ?_
   have hF3:=hF.same T13
   have hR3:=T13 _ _ hR
   have hF4':uy K a (upd G3 R (.lst (refs tu j++[V.ref t]))) p (A.re ml1 el1 pl1 sl1) (XX.run A ((dec ts).take j)) f2 O2 (M+6 * j):=hF3.app hR3 (hF3.notR hR3 (fun i hi=>⟨_,T13 _ _ (hrow i hi).1,rfl⟩) nR)
   have go4':FGo p A O H2 (upd G3 R (.lst (refs tu j++[V.ref t]))) el1 O2:=(go.same T13).app hR2
   have ncR:c≠R:=(ye (T1 _ _ hR) hc0).symm
   have nce:c≠el1:=(ye (hF.same T1).el hc0).symm
   have hc4:upd G3 R (.lst (refs tu j++[V.ref t])) c=some (.lst (((XX.run A ((dec ts).take j)).cs A).map V.int)):=ym ncR (T3 _ _ hc2)
   have ht4:upd G3 R (.lst (refs tu j++[V.ref t])) t=some (.tup [.int (yl9 (XX.run A ((dec ts).take j)).ws ((XX.run A ((dec ts).take j)).cs A)),.ref c,.int b]):=ym (xf ht3 hR3 (by intro z; cases z)) ht3
   have hR4:upd G3 R (.lst (refs tu j++[V.ref t])) R=some (.lst (refs (upN tu j t) (j+1))):=by
    rw [yd,ue,wg]
    congr 3
    exact xw fun i hi=>(wb hi).symm
   have ycc:∀ i,i < j->upd G3 R (.lst (refs tu j++[V.ref t])) (tu i)=some (.tup [.int (yl9 (XX.run A ((dec ts).take i)).ws ((XX.run A ((dec ts).take i)).cs A)),.ref (cl i),.int (vi ts i)])/\upd G3 R (.lst (refs tu j++[V.ref t])) (cl i)=some (.lst (((XX.run A ((dec ts).take i)).cs A).map V.int)):=fun i hi=>⟨ym (xf (T13 _ _ (hrow i hi).1) hR3 (by intro z; cases z)) (T13 _ _ (hrow i hi).1),ym (hrow i hi).2.2.2.2 (T13 _ _ (hrow i hi).2.1)⟩
   have hcfree:H2 c=none:=go.free (T1.free hc0)
   have hcnew:∀ i,i < j->cl i≠c:=fun i hi=>ye (T1 _ _ (hrow i hi).2.1) hc0
   have wok1:=hF.wok
   have cok1:=hF.cok
   generalize upd G3 R (.lst (refs tu j++[V.ref t]))=G4 at hF4' go4' hc4 ht4 hR4 ycc ⊢
   have hp4:=hF4'.me
   walk_at "rd"
   have n6':=hF.n6
   refine ⟨p,A.re ml1 el1 pl1 sl1,_,f2,O2,M+6 * j,b,rfl,hF4',b0,b1,by omega,nd0,by omega,fun ml3 el3 pl3 sl3 f3 O3 G5 he5 hF5 hO5 fr5 lv5 _=>?_⟩
   have go5:FGo p (A.re ml1 el1 pl1 sl1) O2 G4 G5 el3 O3:=⟨he5,hO5,fr5,lv5⟩
   have kp5:=go5.kpa hF4'
   have hel4:=hF4'.el
   walk_at "rd"
   refine ⟨_,ml3,el3,pl3,sl3,f3,O3,upN tu j t,upN cl j c,rfl,?_,go4'.trans go5,?_,⟨(kp5 _ _ hR4 rfl nR).2,(kp5 _ _ hR4 rfl nR).1⟩,fun i hi=>?_,fun i hi=>?_,fun i l hi hl hil=>?_⟩
   ·rw [za hb]
    exact hF5.up (by show M+6 * j+A.n <= _; omega)
   ·rw [za hb]
    exact hTn
   ·by_cases z:i=j
    ·rw [z,wg,wg,hbt]
     exact ⟨(kp5 _ _ ht4 rfl (xf ht4 hel4 (by intro z; cases z))).2,(kp5 _ _ hc4 rfl nce).2,(kp5 _ _ hc4 rfl nce).1,hcfree,ncR⟩
    ·have hij:i < j:=by omega
     rw [wb hij,wb hij]
     obtain ⟨o1,o2⟩:=ycc i hij
     obtain ⟨_,_,r3,r4,r5⟩:=hrow i hij
     exact ⟨(kp5 _ _ o1 rfl (xf o1 hel4 (by intro z; cases z))).2,(kp5 _ _ o2 rfl r3).2,(kp5 _ _ o2 rfl r3).1,r4,r5⟩
   ·by_cases z:i=j
    ·rw [z]
     exact ⟨wok1,cok1⟩
    ·exact hok i (by omega)
   ·by_cases z:i=j
    ·have hlj:l < j:=by omega
     rw [z,wg,wb hlj]
     exact (hcnew l hlj).symm
    ·have hij:i < j:=by omega
     rw [wb hij]
     by_cases z2:l=j
     ·rw [z2,wg]
      exact hcnew i hij
     ·rw [wb (by omega)]
      exact hdis i l hij (by omega) hil
  ·rintro σ2 G ⟨v,ml1,el1,pl1,sl1,f2,O2,tu,cl,rfl,hF,go,hT,⟨hR,nR⟩,hrow,hok,hdis⟩
   rw [List.length_map] at hrow hok hdis
   rw [List.length_map] at hR
   have eX:∀ i,fX A.n A.kd A.ps (xg tt N) ts i=XX.run A ((dec ts).take i):=fun i=>by
    unfold fX
    rw [<- j8,<- j8,hX]
   walk_at "rd"
   refine k R tu cl G ⟨S12.free hR2,hR,fun i hi=>?_,fun i hi=>⟨S12.free (hrow i hi).2.2.2.1,?_⟩⟩ (fun i hi=>⟨?_,?_,?_⟩) hdis ?_
   ·rw [(hrow i hi).1]
    unfold zh
    rw [eX]
    rfl
   ·rw [(hrow i hi).2.1]
    unfold fCs
    rw [eX]
    rfl
   ·unfold zh
    rw [eX]
    exact yhc n1 (hok i hi).1 (hok i hi).2
   ·rw [eX]
    exact (hok i hi).1
   ·unfold fCs
    rw [eX]
    exact (hok i hi).2
   ·intro c o e
    refine go.fr c o (S12 _ _ e) (fun z=>?_) (fun z=>?_) (fun z=>?_) (fun i hi w'=>?_)
    ·rw [z,np] at e
     cases e
    ·rw [z,fresh oM] at e
     cases e
    ·rw [z,hel0] at e
     cases e
    ·rw [fresh (oO i c hi w')] at e
     cases e
theorem yvl:yn ["looks","text","learned"] ["looks","text","learned"] (yi yiq):=⟨rfl,rfl,rfl,by decide +kernel,rfl,by decide +kernel,by decide +kernel⟩
structure vct (H H':Hp) (r:Addr) (m:Nat) (tu:Nat->Addr) (mx bt:Nat->Int):Prop where
 r0:H r=none
 r:H' r=some (.lst (refs tu m))
 t:∀ j,j < m->H' (tu j)=some (.tup [.int (mx j),.int (bt j)])
def ynv (K:W.Frag):Sp:=fun vs H Q _=>∃ (L tx:Addr) (lx:V) (n:Nat) (lk:Nat->Addr) (kd:Nat->Fin 3) (tp:Nat->Addr) (ps:Nat->List Int) (ts:List Int) (N w:Nat) (lt:Nat->Addr) (tt:Nat->List Int),vs=[.ref L,.ref tx,lx]/\yma H L tx lx n lk kd tp ps ts N w lt tt /\
 ∀ r (tu:Nat->Addr) H',vct H H' r (dec ts).length tu (zh n kd ps (xg tt N) ts) (vi ts)->(∀ k,k < (dec ts).length->Ch (zh n kd ps (xg tt N) ts k)/\WOk n (fX n kd ps (xg tt N) ts k).ws/\COk n (fCs n kd ps (xg tt N) ts k))->vh H H'->Q (.ref r) H'
theorem ypx (T:Txt K mg a):wc P w K mg base CX0 9 a.f_q58 a.d_q58 ["looks","text","learned"] (ynv K):=by
 refine T.F_q58.ok yvl (fun vs H Q E h=>?_) (fun cdv A outer s H vs Q E hr h=>?_)
 ·obtain ⟨L,tx,lx,n,lk,kd,tp,ps,ts,N,w,lt,tt,rfl,_⟩:=h
  rfl
 ·obtain ⟨L,tx,lx,n,lk,kd,tp,ps,ts,N,w,lt,tt,rfl,hTl,k⟩:=h
  have hz:=hTl.t.z
  have hdl:=ug ts
  refine ⟨_,(yh (yw (yc7 (js:=[]) (ys:=[]) (xs:=["chance","chances","bit"]) (g:=yub K 3 (ul (wy 0) (ul (wy 1) (ul (wy 2) ymb)))) rfl (v8 (yv (yx2 T) (hr.mono (by decide)) rfl T.y_q57.m T.y_q57.F.kp T.y_q57.B .nil y7 (yc (pv 0) (yc (pv 1) (yc (pv 2) yf (ya rfl)) (ya rfl)) (ya rfl)))) (fun C s2 H2 fp=>(yhg (yc (pv 0) (yc (pv 2) yf (ya rfl)) (ya rfl)))) rfl (fun C s2 H2 fp=>yb8 rfl (w6 (vz (i:=0) (show List.Nodup ((["chance","chances","bit"]:List Str)++([]:List Str)) by decide +kernel) rfl (Or.inl rfl)) (w6 (vz (i:=1) (show List.Nodup ((["chance","chances","bit"]:List Str)++([]:List Str)) by decide +kernel) rfl (Or.inl rfl)) (w6 (vz (i:=2) (show List.Nodup ((["chance","chances","bit"]:List Str)++([]:List Str)) by decide +kernel) rfl (Or.inl rfl)) j9)))) rfl (hyc:=vy) (hrel:=vy)))),?_⟩
  try dsimp only [wa]
  refine yo (σ':=[some _,some _,some _]) rfl ?_
  walk_at "rd"
  refine ⟨L,tx,lx,n,lk,kd,tp,ps,ts,N,w,lt,tt,rfl,hTl,fun r0 tu0 cl H1 hRw hok _ S1=>?_⟩
  generalize zh n kd ps (xg tt N) ts=mx at hRw hok k
  generalize fCs n kd ps (xg tt N) ts=cs at hRw hok k
  refine ⟨r0,rfl,⟨_,SqL.of hRw.r⟩,fun D hD=>?_⟩
  refine yil (K:=K) (xs:=refs tu0 (dec ts).length) (fun i G=>∃ tu:Nat->Addr,G D=some (.lst (refs tu i))/\(∀ j,j < i->G (tu j)=some (.tup [.int (mx j),.int (vi ts j)]))/\vh H1 G) ⟨fun _=>0,yd,fun j hj=>absurd hj (Nat.not_lt_zero j),vj hD⟩ (fun i G _ ⟨_,_,_,S⟩=>SqL.of (S _ _ hRw.r)) (fun i x G pre hx hi z hpre=>?_) (fun G z=>?_)
  ·obtain ⟨tu,gD,gT,S⟩:=z
   obtain ⟨rfl,hin⟩:=ub hx
   obtain ⟨v1,v2,v3,rfl⟩:=ynn hpre
   refine yb6 (SqT.of (S _ _ (hRw.t i hin))) rfl ?_
   show ul (wy 0) (ul (wy 1) (ul (wy 2) ymb)) [V.int (mx i),V.ref (cl i),V.int (vi ts i)] (v1 :: v2 :: v3 :: w5 [] [some (V.ref L),some (V.ref tx),some lx]) G _
   walk_at "rd"
   refine ⟨⟨[some (.int (mx i)),some (.ref (cl i)),some (.int (vi ts i))],rfl,rfl⟩,?_⟩
   walk_at "rd"
   refine ⟨by walk_at "len",fun t ht0=>?_⟩
   have ntD:t≠D:=(ye gD ht0).symm
   have gD2:=xo (o':=HO.tup [V.int (mx i),V.int (vi ts i)]) ht0 gD
   refine w9 (n:=(refs tu0 (dec ts).length).length) gD2 (vq (by rw [vt]; omega)) hi ?_
   refine ⟨upN tu i t,?_,fun j hj=>?_,fun b o e=>ym (ye e hD) (xo ht0 (S b o e))⟩
   ·rw [yd,ue,wg]
    congr 3
    exact xw fun j hj=>(wb hj).symm
   ·by_cases z:j=i
    ·rw [z,wg]
     exact ym ntD yd
    ·have hji:j < i:=by omega
     rw [wb hji]
     exact ym (xf (gT j hji) gD (by intro z; cases z)) (xo ht0 (gT j hji))
  ·obtain ⟨tu,gD,gT,S⟩:=z
   rw [vt] at gD gT
   exact k D tu G ⟨S1.free hD,gD,gT⟩ hok (S1.trans S)
theorem yca:yn ["looks","text","learned","steps","given","chance","bit"] ["looks","text","learned"] (yi yio):=⟨rfl,rfl,rfl,by decide +kernel,rfl,by decide +kernel,by decide +kernel⟩
def yac (mx bt:Nat->Int):Nat->Int
 | 0=>1
 | j+1=>yac mx bt j * giv (mx j) (bt j)
theorem yc6 {mx bt:Nat->Int}:∀ (m:Nat),(∀ j,j < m->Ch (mx j))->1 <= yac mx bt m/\yac mx bt m <= 16777216 ^ m
 | 0,_=>⟨Int.le_refl 1,by rw [Int.pow_zero]; exact Int.le_refl 1⟩
 | m+1,h=>by
  obtain ⟨i1,i2⟩:=yc6 (bt:=bt) m fun j hj=>h j (by omega)
  obtain ⟨c1,c2⟩:=h m (by omega)
  have g1:=yhi (b:=bt m) c1 c2
  have g2:=yli (b:=bt m) c1 c2
  show 1 <= yac mx bt m * giv (mx m) (bt m)/\yac mx bt m * giv (mx m) (bt m) <= 16777216 ^ (m+1)
  refine ⟨?_,?_⟩
  ·have:=Int.mul_le_mul i1 (show 1 <= giv (mx m) (bt m) by omega) (by omega) (by omega)
   simpa using this
  ·rw [Int.pow_succ]
   exact Int.mul_le_mul i2 (by omega) (by omega) (Int.le_trans (by omega) i2)
theorem j6 {x:Int} {m:Nat} (h1:1 <= x) (h2:x <= 16777216 ^ m):x.natAbs < 2 ^ (24 * m+1):=by
 have e:(16777216:Int) ^ m=((2 ^ (24 * m):Nat):Int):=by
  rw [Nat.pow_mul]
  simp
 rw [e] at h2
 have:x.natAbs <= 2 ^ (24 * m):=by omega
 exact Nat.lt_of_le_of_lt this (Nat.pow_lt_pow_right (by decide) (by omega))
def yad (m:Nat) (G:Int):Int:=24 * (m:Int)+1 - (Builtin.Int.intBits G:Nat)
def yr8 (K:W.Frag):Sp:=fun vs H Q _=>∃ (L tx:Addr) (lx:V) (n:Nat) (lk:Nat->Addr) (kd:Nat->Fin 3) (tp:Nat->Addr) (ps:Nat->List Int) (ts:List Int) (N w:Nat) (lt:Nat->Addr) (tt:Nat->List Int),vs=[.ref L,.ref tx,lx]/\yma H L tx lx n lk kd tp ps ts N w lt tt /\
 ∀ H',vh H H'->Q (.int (yad (dec ts).length (yac (zh n kd ps (xg tt N) ts) (vi ts) (dec ts).length))) H'
theorem yul (T:Txt K mg a):wc P w K mg base CX0 10 a.f_q59 a.d_q59 ["looks","text","learned"] (yr8 K):=by
 refine T.F_q59.ok yca (fun vs H Q E h=>?_) (fun cdv A outer s H vs Q E hr h=>?_)
 ·obtain ⟨L,tx,lx,n,lk,kd,tp,ps,ts,N,w,lt,tt,rfl,_⟩:=h
  rfl
 ·obtain ⟨L,tx,lx,n,lk,kd,tp,ps,ts,N,w,lt,tt,rfl,hTl,k⟩:=h
  have hz:=hTl.t.z
  have hdl:=ug ts
  refine yk (y6 (i:=3) yca.nd rfl (Or.inl rfl) (yv (ypx T) (hr.mono (by decide)) rfl T.m_q58 T.F_q58.kp T.B_q58 .nil y7 (yc (pv 0) (yc (pv 1) (yc (pv 2) yf (ya rfl)) (ya rfl)) (ya rfl)))) ?_
  refine yk (y6 (i:=4) yca.nd rfl (Or.inl rfl) yg) ?_
  refine yk (uv PassesOwn.never rfl (v8 (pv 3)) (yb8 rfl (w6 (vz (i:=5) yca.nd rfl (Or.inl rfl)) (w6 (vz (i:=6) yca.nd rfl (Or.inl rfl)) j9))) (yh (y6 (i:=4) yca.nd rfl (Or.inl rfl) (yq ysa (pv 4) (vk (ypz T) (hr.mono (by decide)) rfl T.y_q11.m T.y_q11.F.kp T.y_q11.B .nil wf (yc (pv 5) (yc (pv 6) yf (ya rfl)) (ya rfl))))))) ?_
  refine ⟨_,(yh (yw (yq uw (yq v6 (yq wj (vn rfl T.c_FIGURES) (yp yr rfl T.z_len (by decide +kernel) (yc (pv 3) yf (ya rfl)))) yg) (ylr PySem.F.plainAttrs_int PySem.F.slot_int_bit_length PySem.F.type_int_bit_length ykq (pv 4))))),?_⟩
  try dsimp only [wa]
  refine yo (σ':=[some _,some _,some _,none,none,none,none]) rfl ?_
  walk_at "rd"
  refine ⟨L,tx,lx,n,lk,kd,tp,ps,ts,N,w,lt,tt,rfl,hTl,fun r tu H1 hP hok S1=>?_⟩
  generalize zh n kd ps (xg tt N) ts=mx at hP hok k
  walk_at "rd"
  refine ⟨r,rfl,⟨_,SqL.of hP.r⟩,ua (K:=K) (a:=r) (xs:=refs tu (dec ts).length) (fun i σ2 G=>H1=G/\∃ v1 v2:Option V,σ2=[some (.ref L),some (.ref tx),some lx,some (.ref r),some (.int (yac mx (vi ts) i)),v1,v2]) ⟨rfl,_,_,rfl⟩ (fun i σ2 G _ ⟨e,_⟩=>e ▸ SqL.of hP.r) ?_ ?_⟩
  ·rintro i y σ2 G hy ⟨rfl,v1,v2,rfl⟩
   obtain ⟨rfl,hin⟩:=ub hy
   have hc:=(hok i hin).1
   obtain ⟨b0,b1⟩:=yc4 ts i hin
   have hcu:=yeo hc
   have hbu:=ydd b0 b1
   obtain ⟨p1,p2⟩:=yc6 (mx:=mx) (bt:=vi ts) i fun j hj=>(hok j (by omega)).1
   refine yb6 (SqT.of (hP.t i hin)) rfl ?_
   walk_at "rd"
   refine ⟨.int (mx i),_,.int (vi ts i),_,rfl,.int _,.int _,fun z=>(by rw [hcu] at z; cases z),fun _ z=>(by rw [hbu] at z; cases z),fun c' b' ec eb _ _=>?_⟩
   cases ec
   cases eb
   have g1:=yhi (b:=vi ts i) hc.1 hc.2
   have g2:=yli (b:=vi ts i) hc.1 hc.2
   walk_at "rd"
   refine ywl (24 * i+25) ?_ ?_ ?_ ?_
   ·exact Nat.lt_of_lt_of_le (j6 p1 p2) (Nat.pow_le_pow_right (by decide) (by omega))
   ·have:(giv (mx i) (vi ts i)).natAbs < 2 ^ 25:=by omega
    exact Nat.lt_of_lt_of_le this (Nat.pow_le_pow_right (by decide) (by omega))
   ·omega
   walk_at "rd"
   exact ⟨rfl,_,_,rfl⟩
  ·rintro σ2 G ⟨rfl,v1,v2,rfl⟩
   rw [vt]
   walk_at "rd"
   refine uc (SqL.of hP.r) ?_
   rw [vt]
   walk_at "rd"
   exact k _ S1
def snK (mx bt:Nat->Int):Nat->Sn
 | 0=>s0
 | k+1=>nar (snK mx bt k) (mx k) (bt k)
theorem yah {mx bt:Nat->Int}:∀ m,(∀ j,j < m->Ch (mx j))->OkS (snK mx bt m)/\(snK mx bt m).2.2 <= 5+2 * (m:Int)
 | 0,_=>⟨vbe,by show (5:Int) <= 5+2 * ((0:Nat):Int); decide⟩
 | m+1,h=>by
  obtain ⟨h1,h2⟩:=yah m fun j hj=>h j (by omega)
  refine ⟨yfu h1 (h m (by omega)),?_⟩
  have:=yyf (c:=mx m) (b:=bt m) h1.ok
  show (nar (snK mx bt m) (mx m) (bt m)).2.2 <= _
  omega
theorem yd9 {mx my bt bu:Nat->Int}:∀ m,(∀ j,j < m->mx j=my j/\bt j=bu j)->snK mx bt m=snK my bu m
 | 0,_=>rfl
 | m+1,h=>by
  show nar (snK mx bt m) (mx m) (bt m)=nar (snK my bu m) (my m) (bu m)
  rw [yd9 m fun j hj=>h j (by omega),(h m (by omega)).1,(h m (by omega)).2]
theorem FGo.but {p q:Addr} {A:FA} {O O':Nat->Addr->Prop} {H H1 H2:Hp} {el:Addr} {o':HO} (h:FGo p A O H H1 el O') (hq:H q=none) (B:But q H1 H2) (hq2:H2 q=some o'):FGo p A O H H2 el O' :=
 ⟨h.he,h.hO,fun c o e c1 c2 c3 no=>B _ _ (h.fr c o e c1 c2 c3 no) (ye e hq),fun c o e=>let ⟨o1,w⟩:=h.live c o e; ⟨o1,B _ _ w (ye e hq)⟩⟩
theorem uy.but {K:W.Frag} {a:Ads} {H H':Hp} {p q C dq:Addr} {A:FA} {X:FX} {f:Nat->List Int->Option Slt} {O:Nat->Addr->Prop} {m:Nat} {fs:List (Str × V)} (h:uy K a H p A X f O m) (hq:H q=some (.ins C dq fs)) (hl:fs.length=3) (nO:∀ i,i < A.n->¬ O i q) (B:But q H H'):uy K a H' p A X f O m:=by
 refine h.frame (O2:=fun c=>c=q) (fun c o e ne=>B c o e ne) (fun z=>uj h.me hq (by rw [hl]; show ¬ (6=3); decide) z) (fun z=>uj h.mx.o hq (by rw [hl]; show ¬ (1=3); decide) z) (fun i hi z=>uj (h.B.b i hi).me hq (by rw [hl]; show ¬ (2=3); decide) z) (fun i c hi w z=>nO i hi (z ▸ w)) (fun l xs _ e=>B.lst hq e) (fun t xs e=>?_)
 rcases e with (e | ⟨o,e⟩) | e
 ·exact .inl (.inl (B _ _ e (fun z=>by rw [z,hq] at e; cases e)))
 ·exact .inl (.inr ⟨o,B _ _ e (fun z=>by rw [z,hq] at e; cases e)⟩)
 ·exact .inr e
theorem yov (A:FA) (ml el pl:Addr) (sl:Nat->Addr):∀ (bs:List Int) (X:FX),X.run (A.re ml el pl sl) bs=X.run A bs
 | [],_=>rfl
 | b :: r,X=>yov A ml el pl sl r (X.see A b)
def yiw (A:FA) (X:FX) (ts:List Int) (k:Nat):Int:=yl9 (X.run A ((dec ts).take k)).ws ((X.run A ((dec ts).take k)).cs A)
theorem ylt:yn ["foreteller","text","span","bit"] ["foreteller","text"] (yi ys0):=⟨rfl,rfl,rfl,by decide +kernel,rfl,by decide +kernel,by decide +kernel⟩
def ync (K:W.Frag) (a:Ads):Sp:=fun vs H Q _=>∃ (p:Addr) (A:FA) (X:FX) (f:Nat->List Int->Option Slt) (O:Nat->Addr->Prop) (m:Nat) (tx:Addr) (ts:List Int),vs=[.ref p,.ref tx]/\uy K a H p A X f O m/\X.sg=[]/\X.nd=0/\ybr H tx ts 1000/\tx≠A.el/\m+6 * (dec ts).length+20 < 1000000 /\
 ∀ (r ml el pl:Addr) (sl:Nat->Addr) (f':Nat->List Int->Option Slt) (O':Nat->Addr->Prop) (m':Nat) (H':Hp),H r=none->H' r=some (.lst ((tL (snK (yiw A X ts) (vi ts) (dec ts).length)).map V.int))->uy K a H' p (A.re ml el pl sl) (X.run A (dec ts)) f' O' m'->m' <= m+6 * (dec ts).length->FGo p A O H H' el O'->Q (.ref r) H'
theorem yw2 (T:Txt K mg a):wc P w K mg base CX0 7 a.f_q60 a.d_q60 ["foreteller","text"] (ync K a):=by
 refine T.y_q60.F.ok ylt (fun vs H Q E h=>?_) (fun cdv A outer s H vs Q E hr h=>?_)
 ·obtain ⟨p,A,X,f,O,m,tx,ts,rfl,_⟩:=h
  rfl
 ·obtain ⟨p,A0,X,f,O,m,tx,ts,rfl,hF,hsg,hnd,htx,ntx,hm,k⟩:=h
  have hdl:=ug ts
  have hz:=htx.z
  have hts:=htx.s
  refine yk (y6 (i:=2) ylt.nd rfl (Or.inl rfl) (jn T.k_Span (yo3 T) (hr.mono (by decide)) rfl T.m_Span T.y_q45.B .nil y7)) ?_
  refine yk (uv PassesOwn.never rfl (v8 (yv (yln T) (hr.mono (by decide)) rfl T.y_q13.m T.y_q13.F.kp T.y_q13.B .nil y7 (yc (pv 1) yf (ya rfl)))) (vz (i:=3) ylt.nd rfl (Or.inl rfl)) (yj (y9 (zb (pv 2) T.cl_Span T.y_q47.m (yom T) (hr.mono (by decide)) T.y_q47.B .nil wf (yc (wv (pv 0) T.cl_Ft T.y_q39.m (ylc T) (hr.mono (by decide)) T.y_q39.B .nil y7) (yc (pv 3) yf (ya rfl)) (ya rfl)))) (yh (y9 (x4 (pv 0) T.cl_Ft T.y_q40.m (ygz T) (hr.mono (by decide)) T.y_q40.B .nil y7 (yc (pv 3) yf (ya rfl))))))) ?_
  refine ⟨_,(yh (yw (wv (pv 2) T.cl_Span T.y_q49.m (yoz T) (hr.mono (by decide)) T.y_q49.B .nil y7))),?_⟩
  try dsimp only [wa]
  refine yo (σ':=[some _,some _,none,none]) rfl ?_
  walk_at "rd"
  intro q dq nq ndq neq
  have SQ:vh H (upd (upd H dq (.own q)) q (.ins a.C_Span dq [])):=fun b o e=>by rw [yu (ye e nq),yu (ye e ndq)]; exact e
  refine ⟨q,dq,rfl,yd,fun H1 hq1 B1=>⟨rfl,?_⟩⟩
  have S1:vh H H1:=fun b o e=>B1 b o (SQ b o e) (ye e nq)
  walk_at "rd"
  refine ⟨tx,ts,rfl,S1 _ _ htx.l,hts,by omega,fun bt H2 hbt0 hbt2 S2=>?_⟩
  have S12:=S1.trans S2
  have hF2:=hF.same S12
  have nbt:bt≠A0.el:=(ye (hF.same S1).el hbt0).symm
  have nOq:∀ i,i < A0.n->¬ O i q:=fun i hi w=>by
   obtain ⟨o,ho,_⟩:=(hF.B.b i hi).own q w
   rw [nq] at ho
   cases ho
  refine ⟨bt,rfl,⟨_,SqL.of hbt2⟩,ua (K:=K) (a:=bt) (xs:=(dec ts).map V.int) (fun j σ2 G=>∃ (v:Option V) (ml el pl:Addr) (sl:Nat->Addr) (f':Nat->List Int->Option Slt) (O':Nat->Addr->Prop),σ2=[some (.ref p),some (.ref tx),some (.ref q),v]/\uy K a G p (A0.re ml el pl sl) (X.run A0 ((dec ts).take j)) f' O' (m+6 * j)/\FGo p A0 O H G el O'/\TxE ts j (X.run A0 ((dec ts).take j)).sg (X.run A0 ((dec ts).take j)).nd/\G q=some (.ins a.C_Span dq (zz (snK (yiw A0 X ts) (vi ts) j)))/\(∀ i,i < A0.n->¬ O' i q)/\(G bt=some (.lst ((dec ts).map V.int))/\bt≠el)/\(∀ i,i < j->Ch (yiw A0 X ts i)))
   ⟨_,A0.ml,A0.el,A0.pl,A0.sl,f,O,rfl,hF2,FGo.refl.same S12,.inl ⟨Nat.zero_le _,by show yev _ _ X.sg X.nd; rw [hsg,hnd]; exact yev.zero _⟩,S2 _ _ hq1,nOq,⟨hbt2,nbt⟩,fun i hi=>absurd hi (Nat.not_lt_zero i)⟩ (fun j σ2 G _ ⟨_,_,_,_,_,_,_,_,_,_,_,_,_,z,_⟩=>SqL.of z.1) ?_ ?_⟩
  ·rintro j y σ2 G hy ⟨v,ml1,el1,pl1,sl1,f1,O1,rfl,hF1,go,hT,hqG,nO1,⟨hbtG,nbt1⟩,hch⟩
   obtain ⟨b,rfl,hbm,hb,hj⟩:=x8 hy
   obtain ⟨b0,b1⟩:=zd _ b hbm
   obtain ⟨hTx,hTn⟩:=hT.next hts hb
   obtain ⟨nd0,nd1⟩:=hTx.nd hts
   have hsl:=hTx.len
   have hbt':vi ts j=b:=by unfold vi; rw [hb]; rfl
   have hpG:=hF1.me
   have hcm:Ch (yiw A0 X ts j):=yhc hF1.n1 hF1.wok hF1.cok
   have hcu:=yeo hcm
   have hbu:=ydd b0 b1
   obtain ⟨sk1,sk2⟩:=yah (mx:=yiw A0 X ts) (bt:=vi ts) j hch
   walk_at "rd"
   refine ⟨q,dq,_,rfl,hqG,lkN _ (by decide +kernel) (by decide +kernel) (by decide +kernel),?_⟩
   walk_at "rd"
   refine ⟨p,A0.re ml1 el1 pl1 sl1,_,f1,O1,_,rfl,hF1,fun G1 T1=>?_⟩
   walk_at "rd"
   refine ⟨q,dq,_,.int (yiw A0 X ts j),.int b,_,_,rfl,T1 _ _ hqG,sk1.ok,.int _,.int _,fun z=>(by rw [hcu] at z; cases z),fun _ z=>(by rw [hbu] at z; cases z),fun c' b' ec eb _ _ _ G2 hq2 B2=>?_⟩
   cases ec
   cases eb
   have hF2':=(hF1.same T1).but (T1 _ _ hqG) rfl nO1 B2
   have go2:FGo p A0 O H G2 el1 O1:=(go.same T1).but nq B2 hq2
   have hbt2':G2 bt=some (.lst ((dec ts).map V.int)):=B2.lst (T1 _ _ hqG) (T1 _ _ hbtG)
   have hp2:=hF2'.me
   have n6:=hF1.n6
   walk_at "rd"
   refine ⟨p,A0.re ml1 el1 pl1 sl1,_,f1,O1,m+6 * j,b,rfl,hF2',b0,b1,by omega,nd0,by omega,fun ml3 el3 pl3 sl3 f3 O3 G3 he3 hF3 hO3 fr3 lv3 _=>?_⟩
   have go3:FGo p (A0.re ml1 el1 pl1 sl1) O1 G2 G3 el3 O3:=⟨he3,hO3,fr3,lv3⟩
   have kp3:=go3.kpa hF2'
   walk_at "rd"
   refine ⟨_,ml3,el3,pl3,sl3,f3,O3,rfl,?_,go2.trans go3,?_,?_,fun i hi w=>?_,⟨(kp3 _ _ hbt2' rfl nbt1).2,(kp3 _ _ hbt2' rfl nbt1).1⟩,fun i hi=>?_⟩
   ·rw [za hb]
    exact hF3.up (by show m+6 * j+A0.n <= _; have:A0.n <= 6:=n6; omega)
   ·rw [za hb]
    exact hTn
   ·have e:snK (yiw A0 X ts) (vi ts) (j+1)=nar (snK (yiw A0 X ts) (vi ts) j) (yiw A0 X ts j) b:=by show nar _ _ (vi ts j)=_; rw [hbt']
    rw [e]
    exact fr3 _ _ hq2 (uj hq2 hF2'.me (show ¬ (3=6) by decide)) (uj hq2 hF2'.mx.o (show ¬ (3=1) by decide)) (fun z=>by have e:=hF2'.el; rw [<- z,hq2] at e; cases e) nO1
   ·rcases hO3 i q hi w with v | v
    ·exact nO1 i hi v
    ·rw [hq2] at v
     cases v
   ·by_cases z:i=j
    ·rw [z]
     exact hcm
    ·exact hch i (by omega)
  ·rintro σ2 G ⟨v,ml1,el1,pl1,sl1,f1,O1,rfl,hF1,go,hT,hqG,nO1,_,hch⟩
   rw [List.length_map] at hF1 hqG hch
   rw [List.take_length] at hF1
   obtain ⟨sk1,sk2⟩:=yah (mx:=yiw A0 X ts) (bt:=vi ts) (dec ts).length hch
   walk_at "rd"
   refine ⟨q,dq,_,rfl,hqG,lkN _ (by decide +kernel) (by decide +kernel) (by decide +kernel),?_⟩
   walk_at "rd"
   refine ⟨q,dq,_,rfl,hqG,sk1,by show Int.toNat _ <= 100000; omega,fun r G1 hr0 hr1 T1=>?_⟩
   exact k r ml1 el1 pl1 sl1 f1 O1 _ G1 (go.free hr0) hr1 (hF1.same T1) (Nat.le_refl _) (go.same T1)
theorem ylv:yn ["looks","text","learned","foreteller","signs"] ["looks","text","learned"] (yi yis):=⟨rfl,rfl,rfl,by decide +kernel,rfl,by decide +kernel,by decide +kernel⟩
def yh2 (K:W.Frag):Sp:=fun vs H Q _=>∃ (L tx:Addr) (lx:V) (n:Nat) (lk:Nat->Addr) (kd:Nat->Fin 3) (tp:Nat->Addr) (ps:Nat->List Int) (ts:List Int) (N w:Nat) (lt:Nat->Addr) (tt:Nat->List Int),vs=[.ref L,.ref tx,lx]/\yma H L tx lx n lk kd tp ps ts N w lt tt/\ts.length <= 1000 /\
 ∀ r H',H r=none->H' r=some (.lst ((tL (snK (zh n kd ps (xg tt N) ts) (vi ts) (dec ts).length)).map V.int))->vh H H'->Q (.ref r) H'
theorem yl3 (T:Txt K mg a):wc P w K mg base CX0 8 a.f_q61 a.d_q61 ["looks","text","learned"] (yh2 K):=by
 refine T.F_q61.ok ylv (fun vs H Q E h=>?_) (fun cdv A outer s H vs Q E hr h=>?_)
 ·obtain ⟨L,tx,lx,n,lk,kd,tp,ps,ts,N,w,lt,tt,rfl,_⟩:=h
  rfl
 ·obtain ⟨L,tx,lx,n,lk,kd,tp,ps,ts,N,w,lt,tt,rfl,hTl,hz50,k⟩:=h
  have hb1:=hTl.b
  have n1:=hTl.n1
  have n6:=hTl.n6
  have hdl:=ug ts
  refine yk (y6 (i:=3) ylv.nd rfl (Or.inl rfl) (yar T.k_Ft (ylh T) (hr.mono (by decide)) rfl T.m_Ft T.y_q36.B .nil wf (yc (pv 0) yf (ya rfl)))) ?_
  refine yk (y6 (i:=4) ylv.nd rfl (Or.inl rfl) (vk (yn3 T) (hr.mono (by decide)) rfl T.y_q6.m T.y_q6.F.kp T.y_q6.B .nil wf (yc (pv 1) yf (ya rfl)))) ?_
  refine yk (y9 (yv (yk9 T) (hr.mono (by decide)) rfl T.y_q56.m T.y_q56.F.kp T.y_q56.B .nil y7 (yc (pv 3) (yc (yv (yl2 T) (hr.mono (by decide)) rfl T.y_q55.m T.y_q55.F.kp T.y_q55.B .nil y7 (yc (pv 2) yf (ya rfl))) yf (ya rfl)) (ya rfl)))) ?_
  refine ⟨_,(yh (yw (yv (yw2 T) (hr.mono (by decide)) rfl T.y_q60.m T.y_q60.F.kp T.y_q60.B .nil y7 (yc (pv 3) (yc (pv 4) yf (ya rfl)) (ya rfl))))),?_⟩
  try dsimp only [wa]
  refine yo (σ':=[some _,some _,some _,none,none]) rfl ?_
  walk_at "rd"
  intro p dp np ndp nep
  have S0:vh H (upd (upd H dp (.own p)) p (.ins a.C_Ft dp [])):=fun b o e=>by rw [yu (ye e np),yu (ye e ndp)]; exact e
  refine ⟨p,dp,.ref L,rfl,yd,.inr ⟨L,n,lk,kd,tp,ps,rfl,S0 _ _ hTl.l,n1,n6,hTl.r.same S0,fun A f O H1 N1 B1=>⟨rfl,?_⟩⟩⟩
  obtain ⟨hft,rfl,rfl,rfl,rfl,oO,oB,oM,oL⟩:=N1
  have S1:vh H H1:=fun b o e=>B1 b o (S0 b o e) (ye e np)
  have fresh:∀ {c:Addr},upd (upd H dp (.own p)) p (.ins a.C_Ft dp []) c=none->H c=none:=fun h=>S0.free h
  have hel0:H A.el=none:=fresh (oL A.el (.inr (.inl rfl)))
  walk_at "rd"
  refine ⟨.ref tx,_,rfl,.lst (S1 _ _ hTl.t.l),.inr ⟨ts.map V.int,yc0 (S1 _ _ hTl.t.l) hTl.t.s hTl.t.z,fun sg H2 hsg0 hsg2 S2=>?_⟩⟩
  have S12:=S1.trans S2
  have hft2:=hft.same S2
  have nsg:sg≠A.el:=(ye hft.el hsg0).symm
  walk_at "rd"
  refine ybf (hTl.lr.same S12) hTl.w1 hTl.N1 fun cl0 cx H3 h0 h3 hx S3=>?_
  walk_at "rd"
  refine ⟨p,A,FX0 A.n A.kd,f,O,6,cl0,N,w,cx,tt,rfl,hft2.same S3,rfl,rfl,h3,(ye hft2.el h0).symm,fun i hi=>⟨⟨(hx i hi).2,(hTl.lr.2 i hi).s,(hTl.lr.2 i hi).z⟩,(ye hft2.el (hx i hi).1).symm⟩,hTl.w1,by omega,fun ml el pl sl f1 O1 m1 H4 hF4 hm4 go4 sg4 nd4=>?_⟩
  have go4:=FGo.ahead S3 go4
  have kp4:=go4.kpa hft2
  have hsg4:=kp4 _ _ hsg2 rfl nsg
  have eX:∀ i,yiw (A.re ml el pl sl) ((FX0 A.n A.kd).run A (xg tt N)) ts i=zh A.n A.kd A.ps (xg tt N) ts i:=fun i=>by
   unfold zh yiw fX
   rw [yov,<- j8 A,<- j8 A]
   rfl
  generalize hX:(FX0 A.n A.kd).run A (xg tt N)=XX at hF4 sg4 nd4 eX
  walk_at "rd"
  refine ⟨p,A.re ml el pl sl,XX,f1,O1,m1,sg,ts,rfl,hF4,sg4,nd4,⟨hsg4.2,hTl.t.s,hz50⟩,hsg4.1,by omega,fun r ml2 el2 pl2 sl2 f2 O2 m2 H5 hr0 hr5 hF5 hm5 go5=>?_⟩
  have go:=go4.trans go5
  rw [yd9 _ fun j _=>⟨eX j,rfl⟩] at hr5
  refine k r H5 (S12.free (go4.free hr0)) hr5 fun c o e=>go.fr c o (S12 _ _ e) (fun z=>?_) (fun z=>?_) (fun z=>?_) (fun i hi w'=>?_)
  ·rw [z,np] at e
   cases e
  ·rw [z,fresh oM] at e
   cases e
  ·rw [z,hel0] at e
   cases e
  ·rw [fresh (oO i c hi w')] at e
   cases e
structure RGo (p q s:Addr) (A:FA) (O:Nat->Addr->Prop) (H H':Hp) (ml el:Addr) (O':Nat->Addr->Prop):Prop where
 hm:ml=A.ml\/H ml=none
 he:el=A.el\/H el=none
 hO:∀ j c,j < A.n->O' j c->O j c\/H c=none
 fr:∀ c o,H c=some o->c≠p->c≠A.mp->c≠A.el->c≠q->c≠s->(∀ j,j < A.n->¬ O j c)->H' c=some o
 live:∀ c o,H c=some o->∃ o',H' c=some o'
theorem RGo.free {p q s:Addr} {A:FA} {O O':Nat->Addr->Prop} {H H':Hp} {ml el c:Addr} (h:RGo p q s A O H H' ml el O') (hc:H' c=none):H c=none:=by
 cases e:H c with
 | none=>rfl
 | some o =>
  obtain ⟨o',w⟩:=h.live c o e
  rw [hc] at w
  cases w
theorem RGo.refl {p q s:Addr} {A:FA} {O:Nat->Addr->Prop} {H:Hp}:RGo p q s A O H H A.ml A.el O:=⟨.inl rfl,.inl rfl,fun _ _ _ w=>.inl w,fun _ _ e _ _ _ _ _ _=>e,fun _ o e=>⟨o,e⟩⟩
theorem RGo.trans {p q s:Addr} {A:FA} {O O1 O2:Nat->Addr->Prop} {H H1 H2:Hp} {ml el pl ml2 el2:Addr} {sl:Nat->Addr} (h:RGo p q s A O H H1 ml el O1) (k:RGo p q s (A.re ml el pl sl) O1 H1 H2 ml2 el2 O2):RGo p q s A O H H2 ml2 el2 O2:=by
 refine ⟨?_,?_,fun j c hj w=>?_,fun c o e c1 c2 c3 c4 c5 no=>?_,fun c o e=>?_⟩
 ·rcases k.hm with z | z
  ·rcases h.hm with y | y
   ·exact .inl (z.trans y)
   ·exact .inr (by rw [show ml2=ml from z]; exact y)
  ·exact .inr (h.free z)
 ·rcases k.he with z | z
  ·rcases h.he with y | y
   ·exact .inl (z.trans y)
   ·exact .inr (by rw [show el2=el from z]; exact y)
  ·exact .inr (h.free z)
 ·rcases k.hO j c hj w with v | v
  ·exact h.hO j c hj v
  ·exact .inr (h.free v)
 ·refine k.fr c o (h.fr c o e c1 c2 c3 c4 c5 no) c1 c2 (fun z=>?_) c4 c5 (fun j hj w=>?_)
  ·rcases h.he with y | y
   ·exact c3 (z.trans y)
   ·rw [show c=el from z,y] at e
    cases e
  ·rcases h.hO j c hj w with v | v
   ·exact no j hj v
   ·rw [e] at v
    cases v
 ·obtain ⟨o1,w1⟩:=h.live c o e
  exact k.live c o1 w1
theorem RGo.same {p q s:Addr} {A:FA} {O O':Nat->Addr->Prop} {H H1 H2:Hp} {ml el:Addr} (h:RGo p q s A O H H1 ml el O') (S:vh H1 H2):RGo p q s A O H H2 ml el O' :=
 ⟨h.hm,h.he,h.hO,fun c o e c1 c2 c3 c4 c5 no=>S _ _ (h.fr c o e c1 c2 c3 c4 c5 no),fun c o e=>let ⟨o',w⟩:=h.live c o e; ⟨o',S _ _ w⟩⟩
structure jg (K:W.Frag) (a:Ads) (H:Hp) (p:Addr) (A:FA) (X:FX) (f:Nat->List Int->Option Slt) (O:Nat->Addr->Prop) (m:Nat) (q dx pd s ds:Addr) (d:List Int) (x:Sn):Prop where
 ft:uy K a H p A X f O m
 sk:yiy a H q dx pd s ds d x
 ok:OkS x
 nO:∀ i,i < A.n->¬ O i q/\¬ O i s
 nd:pd≠A.el
theorem jg.same {K:W.Frag} {a:Ads} {H H':Hp} {p:Addr} {A:FA} {X:FX} {f:Nat->List Int->Option Slt} {O:Nat->Addr->Prop} {m:Nat} {q dx pd s ds:Addr} {d:List Int} {x:Sn} (h:jg K a H p A X f O m q dx pd s ds d x) (S:vh H H'):jg K a H' p A X f O m q dx pd s ds d x:=⟨h.ft.same S,h.sk.same S,h.ok,h.nO,h.nd⟩
def chX (A:FA) (X:FX):Int:=yl9 X.ws (X.cs A)
theorem uy.but2 {K:W.Frag} {a:Ads} {H H':Hp} {p:Addr} {A:FA} {X:FX} {f:Nat->List Int->Option Slt} {O:Nat->Addr->Prop} {m:Nat} {q dx pd s ds:Addr} {d:List Int} {x:Sn} (h:jg K a H p A X f O m q dx pd s ds d x) (B:yme q s H H'):uy K a H' p A X f O m:=by
 have hq:=h.sk.me
 have hs:=h.sk.sp
 refine h.ft.frame (O2:=fun c=>c=q\/c=s) (fun c o e ne=>B c o e (fun z=>ne (.inl z)) (fun z=>ne (.inr z))) (fun z=>?_) (fun z=>?_) (fun i hi z=>?_) (fun i c hi w z=>?_) (fun l xs _ e=>h.sk.lst B e) (fun t xs e=>?_)
 ·rcases z with z | z
  ·exact uj h.ft.me hq (show ¬ (6=4) by decide) z
  ·exact uj h.ft.me hs (show ¬ (6=3) by decide) z
 ·rcases z with z | z
  ·exact uj h.ft.mx.o hq (show ¬ (1=4) by decide) z
  ·exact uj h.ft.mx.o hs (show ¬ (1=3) by decide) z
 ·rcases z with z | z
  ·exact uj (h.ft.B.b i hi).me hq (show ¬ (2=4) by decide) z
  ·exact uj (h.ft.B.b i hi).me hs (show ¬ (2=3) by decide) z
 ·rcases z with z | z
  ·exact (h.nO i hi).1 (z ▸ w)
  ·exact (h.nO i hi).2 (z ▸ w)
 ·rcases e with (e | ⟨o,e⟩) | e
  ·exact .inl (.inl (h.sk.tup B e))
  ·exact .inl (.inr ⟨o,B _ _ e (xf e hq (by intro z; cases z)) (xf e hs (by intro z; cases z))⟩)
  ·exact .inr e
theorem ypp:yn ["foreteller","seeker","bit"] ["foreteller","seeker"] (yi yto):=⟨rfl,rfl,rfl,by decide +kernel,rfl,by decide +kernel,by decide +kernel⟩
def ygn (K:W.Frag) (a:Ads):Sp:=fun vs H Q _=>∃ (p:Addr) (A:FA) (X:FX) (f:Nat->List Int->Option Slt) (O:Nat->Addr->Prop) (m:Nat) (q dx pd s ds:Addr) (d:List Int) (x:Sn),vs=[.ref p,.ref q]/\jg K a H p A X f O m q dx pd s ds d x/\m+20 < 1000000/\0 <= X.nd/\X.sg.length <= 100000 /\
 ∀ (ml el pl:Addr) (sl:Nat->Addr) (f':Nat->List Int->Option Slt) (O':Nat->Addr->Prop) (H':Hp),jg K a H' p (A.re ml el pl sl) (X.see A (yap d x (chX A X))) f' O' (m+A.n) q dx pd s ds d (nar x (chX A X) (yap d x (chX A X)))->RGo p q s A O H H' ml el O'->Q (.int (yap d x (chX A X))) H'
theorem yo8 (T:Txt K mg a):wc P w K mg base CX0 7 a.f_q62 a.d_q62 ["foreteller","seeker"] (ygn K a):=by
 refine T.y_q62.F.ok ypp (fun vs H Q E h=>?_) (fun cdv A outer s H vs Q E hr h=>?_)
 ·obtain ⟨p,A,X,f,O,m,q,dx,pd,s',ds,d,x,rfl,_⟩:=h
  rfl
 ·obtain ⟨p,A0,X,f,O,m,q,dx,pd,s',ds,d,x,rfl,hR,hm,nd0,hsg,k⟩:=h
  have hp:=hR.ft.me
  have hq:=hR.sk.me
  have hcm:Ch (chX A0 X):=yhc hR.ft.n1 hR.ft.wok hR.ft.cok
  have hcu:=yeo hcm
  refine ⟨_,(yj (y6 (i:=2) ypp.nd rfl (Or.inl rfl) (zb (pv 1) T.cl_Sk T.y_q53.m (ywz T) (hr.mono (by decide)) T.y_q53.B .nil wf (yc (wv (pv 0) T.cl_Ft T.y_q39.m (ylc T) (hr.mono (by decide)) T.y_q39.B .nil y7) yf (ya rfl)))) (yj (y9 (x4 (pv 0) T.cl_Ft T.y_q40.m (ygz T) (hr.mono (by decide)) T.y_q40.B .nil y7 (yc (pv 2) yf (ya rfl)))) (yh (yw (pv 2))))),?_⟩
  try dsimp only [wa]
  refine yo (σ':=[some _,some _,none]) rfl ?_
  walk_at "rd"
  refine ⟨p,A0,X,f,O,m,rfl,hR.ft,fun H1 S1=>?_⟩
  have hR1:=hR.same S1
  walk_at "rd"
  refine ⟨q,dx,pd,s',ds,d,x,.int (chX A0 X),_,rfl,hR1.sk,hR.ok,.int _,fun z=>(by rw [hcu] at z; cases z),fun c' ec _ H2 hsk2 B2=>?_⟩
  cases ec
  have hF2:=uy.but2 hR1 B2
  have hp2:=hF2.me
  obtain ⟨b0,b1⟩:0 <= yap d x (chX A0 X)/\yap d x (chX A0 X) <= 1:=by
   rcases ydb d x (chX A0 X) with e | e <;> (rw [e]; decide)
  generalize hb:yap d x (chX A0 X)=b at b0 b1 hsk2 k
  walk_at "rd"
  refine ⟨p,A0,X,f,O,m,b,rfl,hF2,b0,b1,hm,nd0,hsg,fun ml el pl sl f' O' H3 he hF3 hO fr lv hml=>?_⟩
  have nqp:q≠p:=uj hsk2.me hF2.me (show ¬ (4=6) by decide)
  have nqm:q≠A0.mp:=uj hsk2.me hF2.mx.o (show ¬ (4=1) by decide)
  have nsp:s'≠p:=uj hsk2.sp hF2.me (show ¬ (3=6) by decide)
  have nsm:s'≠A0.mp:=uj hsk2.sp hF2.mx.o (show ¬ (3=1) by decide)
  have nel:∀ {c C dc:Addr} {fs:List (Str × V)},H2 c=some (.ins C dc fs)->c≠A0.el:=fun e z=>by
   have e2:=hF2.el
   rw [<- z,e] at e2
   cases e2
  have hq3:=fr _ _ hsk2.me nqp nqm (nel hsk2.me) fun i hi=>(hR.nO i hi).1
  have hs3:=fr _ _ hsk2.sp nsp nsm (nel hsk2.sp) fun i hi=>(hR.nO i hi).2
  have hd3:H3 pd=some (.lst (d.map V.int)):=fr _ _ hsk2.dt (fun z=>by have e:=hsk2.dt; rw [z,hF2.me] at e; cases e) (fun z=>by have e:=hsk2.dt; rw [z,hF2.mx.o] at e; cases e) hR.nd (hF2.B.nlst hsk2.dt)
  walk_at "rd"
  refine k ml el pl sl f' O' H3 ⟨hF3,⟨hq3,hd3,hs3,hsk2.ne⟩,yfu hR.ok hcm,fun i hi=>⟨fun w=>?_,fun w=>?_⟩,?_⟩ ⟨.inr ?_,?_,fun j c hj w=>?_,fun c o e c1 c2 c3 c4 c5 no=>?_,fun c o e=>?_⟩
  ·rcases hO i q hi w with v | v
   ·exact (hR.nO i hi).1 v
   ·rw [hsk2.me] at v
    cases v
  ·rcases hO i s' hi w with v | v
   ·exact (hR.nO i hi).2 v
   ·rw [hsk2.sp] at v
    cases v
  ·rcases he with z | z
   ·rw [show (A0.re ml el pl sl).el=A0.el from z]
    exact hR.nd
   ·exact ye hsk2.dt z
  ·cases e:H ml with
   | none=>rfl
   | some o =>
    by_cases z1:ml=q
    ·rw [z1,hsk2.me] at hml
     cases hml
    by_cases z2:ml=s'
    ·rw [z2,hsk2.sp] at hml
     cases hml
    rw [B2 _ _ (S1 _ _ e) z1 z2] at hml
    cases hml
  ·rcases he with z | z
   ·exact .inl z
   ·refine .inr ?_
    cases e:H el with
    | none=>rfl
    | some o =>
     by_cases z1:el=q
     ·rw [z1,hsk2.me] at z
      cases z
     by_cases z2:el=s'
     ·rw [z2,hsk2.sp] at z
      cases z
     rw [B2 _ _ (S1 _ _ e) z1 z2] at z
     cases z
  ·rcases hO j c hj w with v | v
   ·exact .inl v
   ·refine .inr ?_
    cases e:H c with
    | none=>rfl
    | some o =>
     by_cases z1:c=q
     ·rw [z1,hsk2.me] at v
      cases v
     by_cases z2:c=s'
     ·rw [z2,hsk2.sp] at v
      cases v
     rw [B2 _ _ (S1 _ _ e) z1 z2] at v
     cases v
  ·exact fr c o (B2 _ _ (S1 _ _ e) c4 c5) c1 c2 c3 no
  ·by_cases z1:c=q
   ·exact ⟨_,z1 ▸ hq3⟩
   by_cases z2:c=s'
   ·exact ⟨_,z2 ▸ hs3⟩
   exact lv c o (B2 _ _ (S1 _ _ e) z1 z2)
def rnx (A:FA) (d:List Int) (S:FX × Sn):FX × Sn:=(S.1.see A (yap d S.2 (chX A S.1)),nar S.2 (chX A S.1) (yap d S.2 (chX A S.1)))
def rst (A:FA) (d:List Int) (S:FX × Sn):Nat->FX × Sn
 | 0=>S
 | n+1=>rnx A d (rst A d S n)
def j0 (A:FA) (d:List Int) (S:FX × Sn) (n:Nat):Int:=yap d (rst A d S n).2 (chX A (rst A d S n).1)
theorem yoh (A:FA) (d:List Int) (S:FX × Sn) (n:Nat):j0 A d S n=0\/j0 A d S n=1:=ydb _ _ _
theorem yf4 (A:FA) (d:List Int) (S:FX × Sn) (k:Nat):∀ n,rst A d (rst A d S k) n=rst A d S (k+n)
 | 0=>rfl
 | n+1=>congrArg (rnx A d) (yf4 A d S k n)
theorem yk7 (A:FA) (d:List Int) (S:FX × Sn) (ml el pl:Addr) (sl:Nat->Addr):∀ n,rst (A.re ml el pl sl) d S n=rst A d S n
 | 0=>rfl
 | n+1=>by
  show rnx (A.re ml el pl sl) d (rst (A.re ml el pl sl) d S n)=_
  rw [yk7 A d S ml el pl sl n]
  rfl
theorem yx5 (A:FA) (X:FX) (b:Int) (h:0 <= X.nd) (hb:0 <= b):0 <= (X.see A b).nd:=by
 show 0 <= ndN X.nd b
 unfold ndN
 split
 ·split <;> omega
 ·split <;> omega
theorem yvw (A:FA) (X:FX) (b:Int):(X.see A b).sg.length <= X.sg.length+1:=by
 show (sgN X.sg X.nd b).length <= _
 unfold sgN
 split
 ·split
  ·rw [List.length_append]; exact Nat.le_refl _
  ·omega
 ·split
  ·omega
  ·exact Nat.zero_le _
theorem ygx (A:FA) (d:List Int) (S:FX × Sn) (h:0 <= S.1.nd):∀ n,0 <= (rst A d S n).1.nd
 | 0=>h
 | n+1=>yx5 A _ _ (ygx A d S h n) (by rcases yoh A d S n with e | e <;> (unfold j0 at e; rw [e]; decide))
theorem yg0 (A:FA) (d:List Int) (S:FX × Sn):∀ n,(rst A d S n).1.sg.length <= S.1.sg.length+n
 | 0=>Nat.le_refl _
 | n+1=>Nat.le_trans (yvw A _ _) (Nat.succ_le_succ (yg0 A d S n))
theorem jg.app {K:W.Frag} {a:Ads} {H:Hp} {p R:Addr} {A:FA} {X:FX} {f:Nat->List Int->Option Slt} {O:Nat->Addr->Prop} {m:Nat} {q dx pd s ds:Addr} {d:List Int} {x:Sn} {xs ys:List V} (h:jg K a H p A X f O m q dx pd s ds d x) (hR:H R=some (.lst xs)) (hq:∀ q,(q=A.bl\/q=A.el\/q=A.ml\/q=A.pl)->q≠R) (np:pd≠R):jg K a (upd H R (.lst ys)) p A X f O m q dx pd s ds d x:=by
 refine ⟨h.ft.app hR hq,⟨ym (fun z=>?_) h.sk.me,ym np h.sk.dt,ym (fun z=>?_) h.sk.sp,h.sk.ne⟩,h.ok,h.nO,h.nd⟩
 ·have e:=h.sk.me
  rw [z,hR] at e
  cases e
 ·have e:=h.sk.sp
  rw [z,hR] at e
  cases e
theorem jg.notN {K:W.Frag} {a:Ads} {H:Hp} {p R:Addr} {A:FA} {X:FX} {f:Nat->List Int->Option Slt} {O:Nat->Addr->Prop} {m:Nat} {q dx pd s ds:Addr} {d:List Int} {x:Sn} {xs:List Int} (h:jg K a H p A X f O m q dx pd s ds d x) (hR:H R=some (.lst (xs.map V.int))) (nm:R≠A.ml) (ne:R≠A.el):∀ q,(q=A.bl\/q=A.el\/q=A.ml\/q=A.pl)->q≠R:=fun q hq z=>by
 have n1:=h.ft.n1
 have zero:∀ (g:Nat->Addr),xs.map V.int=refs g A.n->False:=fun g e=>by
  have h0:(refs g A.n)[0]?=some (V.ref (g 0)):=yg6 n1
  rw [<- e,List.getElem?_map] at h0
  cases w:xs[0]? with
  | none=>rw [w] at h0; cases h0
  | some y=>rw [w] at h0; cases h0
 rcases hq with y | y | y | y
 ·have e:=h.ft.bl
  rw [<- y,z,hR] at e
  exact zero _ (HO.lst.inj (Option.some.inj e))
 ·exact ne (z.symm.trans y)
 ·exact nm (z.symm.trans y)
 ·have e:=h.ft.pl
  rw [<- y,z,hR] at e
  exact zero _ (HO.lst.inj (Option.some.inj e))
theorem RGo.app {p q s R:Addr} {A:FA} {O O':Nat->Addr->Prop} {H H1:Hp} {ml el:Addr} {o':HO} (h:RGo p q s A O H H1 ml el O') (hR:H R=none):RGo p q s A O H (upd H1 R o') ml el O' :=
 ⟨h.hm,h.he,h.hO,fun c o e c1 c2 c3 c4 c5 no=>ym (ye e hR) (h.fr c o e c1 c2 c3 c4 c5 no),fun c o e=>let ⟨o1,w⟩:=h.live c o e; ⟨o1,ym (ye e hR) w⟩⟩
def wB (i:Nat):Int:=([128,64,32,16,8,4,2,1]:List Int)[i]?.getD 0
theorem yy6 (i:Nat):0 <= wB i/\wB i <= 128:=by
 rcases i with _ | _ | _ | _ | _ | _ | _ | _ | i
 ·exact ⟨by decide,by decide⟩
 ·exact ⟨by decide,by decide⟩
 ·exact ⟨by decide,by decide⟩
 ·exact ⟨by decide,by decide⟩
 ·exact ⟨by decide,by decide⟩
 ·exact ⟨by decide,by decide⟩
 ·exact ⟨by decide,by decide⟩
 ·exact ⟨by decide,by decide⟩
 ·exact ⟨by show (0:Int) <= 0; decide,by show (0:Int) <= 128; decide⟩
def sgB (A:FA) (d:List Int) (S:FX × Sn) (i:Nat):List Int:=(List.range i).map fun j=>wB j * j0 A d S j
theorem ynq (A:FA) (d:List Int) (S:FX × Sn) (i:Nat):sgB A d S (i+1)=sgB A d S i++[wB i * j0 A d S i]:=by
 unfold sgB
 rw [List.range_succ,List.map_append]
 rfl
theorem yvg:yn ["foreteller","seeker"] ["foreteller","seeker"] (yi yt8):=⟨rfl,rfl,rfl,by decide +kernel,rfl,by decide +kernel,by decide +kernel⟩
def yeh (K:W.Frag) (a:Ads):Sp:=fun vs H Q _=>∃ (p:Addr) (A:FA) (S:FX × Sn) (f:Nat->List Int->Option Slt) (O:Nat->Addr->Prop) (m:Nat) (q dx pd s ds:Addr) (d:List Int),vs=[.ref p,.ref q]/\jg K a H p A S.1 f O m q dx pd s ds d S.2/\m+80 < 1000000/\0 <= S.1.nd/\S.1.sg.length <= 90000 /\
 ∀ (ml el pl:Addr) (sl:Nat->Addr) (f':Nat->List Int->Option Slt) (O':Nat->Addr->Prop) (H':Hp),jg K a H' p (A.re ml el pl sl) (rst A d S 8).1 f' O' (m+8 * A.n) q dx pd s ds d (rst A d S 8).2->RGo p q s A O H H' ml el O'->Q (.int (sgB A d S 8).sum) H'
theorem yvq (T:Txt K mg a):wc P w K mg base CX0 8 a.f_q63 a.d_q63 ["foreteller","seeker"] (yeh K a):=by
 refine T.y_q63.F.ok yvg (fun vs H Q E h=>?_) (fun cdv A outer s H vs Q E hr h=>?_)
 ·obtain ⟨p,A,S,f,O,m,q,dx,pd,s',ds,d,rfl,_⟩:=h
  rfl
 ·obtain ⟨p,A0,S,f,O,m,q,dx,pd,s',ds,d,rfl,hR,hm,nd0,hsg,k⟩:=h
  have n6:=hR.ft.n6
  refine ⟨_,(yh (yw (yp (jp rfl) rfl T.z_sum (by decide +kernel) (yc (ur (js:=[1,0]) (ys:=["seeker","foreteller"]) rfl (yha (yfv rfl T.m_WORTHS)) (fun C s2 H2 fp=>(yq wj (pv 0) (yv (yo8 T) (hr.mono (by decide)) rfl T.y_q62.m T.y_q62.F.kp T.y_q62.B .nil y7 (yc (pv 2) (yc (pv 1) yf (ya rfl)) (ya rfl))))) rfl rfl (hyc:=(all_cons rfl (all_cons rfl vy))) (hrel:=(all_cons rfl (all_cons rfl vy)))) yf (ya rfl))))),?_⟩
  try dsimp only [wa]
  refine yo (σ':=[some _,some _]) rfl ?_
  walk_at "rd"
  refine ⟨a.W_WORTHS,rfl,⟨_,T.w_WORTHS H⟩,fun D hD=>?_⟩
  refine yea (xs:=[.int 128,.int 64,.int 32,.int 16,.int 8,.int 4,.int 2,.int 1]) (fun i G=>∃ (ml el pl:Addr) (sl:Nat->Addr) (f':Nat->List Int->Option Slt) (O':Nat->Addr->Prop),jg K a G p (A0.re ml el pl sl) (rst A0 d S i).1 f' O' (m+i * A0.n) q dx pd s' ds d (rst A0 d S i).2/\RGo p q s' A0 O H G ml el O'/\G D=some (.lst ((sgB A0 d S i).map V.int))/\D≠ml/\D≠el) ?_ (fun i G _ _=>T.w_WORTHS G) ?_ ?_
  ·have S1:vh H (upd H D (.lst [])):=vj hD
   refine ⟨A0.ml,A0.el,A0.pl,A0.sl,f,O,?_,RGo.refl.same S1,yd,(ye hR.ft.mx.l hD).symm,(ye hR.ft.el hD).symm⟩
   rw [Nat.zero_mul]
   exact hR.same S1
  ·rintro i y G hy hi8 ⟨ml,el,pl,sl,f1,O1,hR1,go1,hD1,nm1,ne1⟩
   have hi:i < 8:=hi8
   obtain rfl:y=V.int (wB i):=by
    rcases i with _ | _ | _ | _ | _ | _ | _ | _ | i
    ·exact (Option.some.inj hy).symm
    ·exact (Option.some.inj hy).symm
    ·exact (Option.some.inj hy).symm
    ·exact (Option.some.inj hy).symm
    ·exact (Option.some.inj hy).symm
    ·exact (Option.some.inj hy).symm
    ·exact (Option.some.inj hy).symm
    ·exact (Option.some.inj hy).symm
    ·omega
   have hin:i * A0.n <= 8 * A0.n:=Nat.mul_le_mul_right _ (by omega)
   obtain ⟨wb0,wb1⟩:=yy6 i
   have nd1:=ygx A0 d S nd0 i
   have sg1:=yg0 A0 d S i
   walk_at "rd"
   refine ⟨p,A0.re ml el pl sl,(rst A0 d S i).1,f1,O1,m+i * A0.n,q,dx,pd,s',ds,d,(rst A0 d S i).2,rfl,hR1,by omega,nd1,by omega,fun ml2 el2 pl2 sl2 f2 O2 G2 hR2 go2=>?_⟩
   have hD2:G2 D=some (.lst ((sgB A0 d S i).map V.int)):=go2.fr _ _ hD1 (xf hD1 hR1.ft.me (by intro z; cases z)) (xf hD1 hR1.ft.mx.o (by intro z; cases z)) ne1 (xf hD1 hR1.sk.me (by intro z; cases z)) (xf hD1 hR1.sk.sp (by intro z; cases z)) (hR1.ft.B.nlst hD1)
   have nm2:D≠ml2:=by
    rcases go2.hm with z | z
    ·rw [z]; exact nm1
    ·exact ye hD1 z
   have ne2:D≠el2:=by
    rcases go2.he with z | z
    ·rw [z]; exact ne1
    ·exact ye hD1 z
   refine ⟨wB i,_,rfl,rfl,.inl ⟨by omega,by omega⟩,?_⟩
   refine ⟨_,hD2,?_,8 - (i+1),by show 8 - (i+1) < 8 - i; omega,rfl,hi,ml2,el2,pl2,sl2,f2,O2,?_,?_,?_,nm2,ne2⟩
   ·unfold sgB
    rw [List.length_map,List.length_map,List.length_range]
    exact Nat.lt_trans hi (by decide)
   ·rw [show m+(i+1) * A0.n=m+i * A0.n+A0.n by rw [Nat.succ_mul,Nat.add_assoc]]
    exact jg.app hR2 hD2 (hR2.notN hD2 nm2 ne2) (ye hR.sk.dt hD)
   ·exact (go1.trans go2).app hD
   ·rw [ynq,List.map_append]
    exact yd
  ·rintro G ⟨ml,el,pl,sl,f1,O1,hR1,go1,hD1,nm1,ne1⟩
   walk_at "rd"
   refine ⟨D,sgB A0 d S 8,rfl,SqL.of hD1,?_⟩
   walk_at "rd"
   exact k ml el pl sl f1 O1 G hR1 go1
theorem jg.up {K:W.Frag} {a:Ads} {H:Hp} {p:Addr} {A:FA} {X:FX} {f:Nat->List Int->Option Slt} {O:Nat->Addr->Prop} {m m':Nat} {q dx pd s ds:Addr} {d:List Int} {x:Sn} (h:jg K a H p A X f O m q dx pd s ds d x) (hm:m <= m'):jg K a H p A X f O m' q dx pd s ds d x:=⟨h.ft.up hm,h.sk,h.ok,h.nO,h.nd⟩
theorem yq7 (A:FA) (d:List Int) (S:FX × Sn) (ml el pl:Addr) (sl:Nat->Addr) (n:Nat):j0 (A.re ml el pl sl) d S n=j0 A d S n:=by
 unfold j0
 rw [yk7]
 rfl
theorem yur (A:FA) (d:List Int) (S:FX × Sn) (ml el pl:Addr) (sl:Nat->Addr) (n:Nat):sgB (A.re ml el pl sl) d S n=sgB A d S n:=by
 unfold sgB
 exact List.map_congr_left fun j _=>by rw [yq7]
def rsg (A:FA) (d:List Int) (S:FX × Sn) (k:Nat):Int:=(sgB A d (rst A d S (9 * k+1)) 8).sum
def rtx (A:FA) (d:List Int) (S:FX × Sn) (k:Nat):List Int:=(List.range k).map (rsg A d S)
theorem yns (A:FA) (d:List Int) (S:FX × Sn) (k:Nat):rtx A d S (k+1)=rtx A d S k++[rsg A d S k]:=by
 unfold rtx
 rw [List.range_succ,List.map_append]
 rfl
theorem ykw (A:FA) (d:List Int) (S:FX × Sn) (k:Nat):(rtx A d S k).length=k:=by
 unfold rtx
 rw [List.length_map,List.length_range]
section
variable {K:W.Frag} {a:Ads} {G:Hp} {p:Addr} {A:FA} {S:FX × Sn} {f:Nat->List Int->Option Slt} {O:Nat->Addr->Prop} {m n:Nat} {q dx pd s ds ml el pl:Addr} {sl:Nat->Addr} {d:List Int} {Q:VK} {E:XK}
theorem yyl (hR:jg K a G p (A.re ml el pl sl) (rst A d S n).1 f O m q dx pd s ds d (rst A d S n).2) (hm:m+20 < 1000000) (nd0:0 <= S.1.nd) (hsg:S.1.sg.length+n <= 100000)
  (k:∀ (ml2 el2 pl2:Addr) (sl2:Nat->Addr) (f':Nat->List Int->Option Slt) (O':Nat->Addr->Prop) (H':Hp),jg K a H' p (A.re ml2 el2 pl2 sl2) (rst A d S (n+1)).1 f' O' (m+6) q dx pd s ds d (rst A d S (n+1)).2->RGo p q s (A.re ml el pl sl) O G H' ml2 el2 O'->Q (.int (j0 A d S n)) H'):ygn K a [.ref p,.ref q] G Q E :=
 ⟨p,A.re ml el pl sl,(rst A d S n).1,f,O,m,q,dx,pd,s,ds,d,(rst A d S n).2,rfl,hR,hm,ygx A d S nd0 n,Nat.le_trans (yg0 A d S n) hsg,fun ml2 el2 pl2 sl2 f' O' H' h1 h2=>k ml2 el2 pl2 sl2 f' O' H' (jg.up h1 (Nat.add_le_add_left hR.ft.n6 m)) h2⟩
theorem yqq (hR:jg K a G p (A.re ml el pl sl) (rst A d S n).1 f O m q dx pd s ds d (rst A d S n).2) (hm:m+80 < 1000000) (nd0:0 <= S.1.nd) (hsg:S.1.sg.length+n <= 90000)
  (k:∀ (ml2 el2 pl2:Addr) (sl2:Nat->Addr) (f':Nat->List Int->Option Slt) (O':Nat->Addr->Prop) (H':Hp),jg K a H' p (A.re ml2 el2 pl2 sl2) (rst A d S (n+8)).1 f' O' (m+48) q dx pd s ds d (rst A d S (n+8)).2->RGo p q s (A.re ml el pl sl) O G H' ml2 el2 O'->Q (.int (sgB A d (rst A d S n) 8).sum) H'):yeh K a [.ref p,.ref q] G Q E:=by
 refine ⟨p,A.re ml el pl sl,rst A d S n,f,O,m,q,dx,pd,s,ds,d,rfl,hR,hm,ygx A d S nd0 n,Nat.le_trans (yg0 A d S n) hsg,fun ml2 el2 pl2 sl2 f' O' H' h1 h2=>?_⟩
 have h3:A.n <= 6:=hR.ft.n6
 have h1:=jg.up h1 (show m+8 * A.n <= m+48 by omega)
 rw [yk7,yf4] at h1
 rw [yur]
 exact k ml2 el2 pl2 sl2 f' O' H' h1 h2
end
theorem yor:yn ["foreteller","seeker","most","text"] ["foreteller","seeker","most"] (yi ys3):=⟨rfl,rfl,rfl,by decide +kernel,rfl,by decide +kernel,by decide +kernel⟩
def yji (K:W.Frag) (a:Ads):Sp:=fun vs H Q E=>∃ (p:Addr) (A:FA) (S:FX × Sn) (f:Nat->List Int->Option Slt) (O:Nat->Addr->Prop) (m:Nat) (q dx pd s ds:Addr) (d:List Int) (mo:Nat),vs=[.ref p,.ref q,.int mo]/\jg K a H p A S.1 f O m q dx pd s ds d S.2/\mo <= 1000/\m+54 * mo+200 < 1000000/\0 <= S.1.nd/\S.1.sg.length <= 10000 /\
 (∀ (N:Nat) (r ml el pl:Addr) (sl:Nat->Addr) (f':Nat->List Int->Option Slt) (O':Nat->Addr->Prop) (H':Hp),N <= mo->(∀ j,j < N->j0 A d S (9 * j)=1)->j0 A d S (9 * N)=0->H r=none->H' r=some (.lst ((rtx A d S N).map V.int))->jg K a H' p (A.re ml el pl sl) (rst A d S (9 * N+1)).1 f' O' (m+54 * N+6) q dx pd s ds d (rst A d S (9 * N+1)).2->RGo p q s A O H H' ml el O'->Q (.ref r) H') /\
 ((∀ j,j <= mo->j0 A d S (9 * j)=1)->∀ (ml el:Addr) (O':Nat->Addr->Prop) (H':Hp),RGo p q s A O H H' ml el O'->E (.ref a.C_NP) none H')
theorem yv3 (T:Txt K mg a):wc P w K mg base (CXe P w) 9 a.f_q64 a.d_q64 ["foreteller","seeker","most"] (yji K a):=by
 refine T.y_q64.F.okE yor (fun vs H Q E h=>?_) (fun cdv A outer s H vs Q E hr h=>?_)
 ·obtain ⟨p,A,S,f,O,m,q,dx,pd,s',ds,d,mo,rfl,_⟩:=h
  rfl
 ·obtain ⟨p,A0,S,f,O,m,q,dx,pd,s',ds,d,mo,rfl,hR,hmo,hm,nd0,hsg,kQ,kE⟩:=h
  refine ⟨_,(yj (y6 (i:=3) yor.nd rfl (Or.inl rfl) (w4 yf)) (yj (jr PassesOwn.leaving (yz zl (yv (yo8 T) (hr.mono (by decide)) rfl T.y_q62.m T.y_q62.F.kp T.y_q62.B .nil y7 (yc (pv 0) (yc (pv 1) yf (ya rfl)) (ya rfl))) yg (vd _)) (yj (wo (yz zl (yp yr rfl T.z_len (by decide +kernel) (yc (pv 3) yf (ya rfl))) (pv 2) (vd _)) (yh (x3 rfl T.m_NP T.r_NP (yc x9 yf (ya rfl)))) ve) (yh (y9 (yal PySem.F.plainAttrs_list PySem.F.slot_list_append PySem.F.type_list_append wn (pv 3) (yc (yv (yvq T) (hr.mono (by decide)) rfl T.y_q63.m T.y_q63.F.kp T.y_q63.B .nil y7 (yc (pv 0) (yc (pv 1) yf (ya rfl)) (ya rfl))) yf (ya rfl))))))) (yh (yw (pv 3))))),?_⟩
  try dsimp only [wa]
  refine yo (σ':=[some _,some _,some _,none]) rfl ?_
  walk_at "rd"
  refine ⟨by walk_at "len",fun r hr0=>?_⟩
  with_reducible first | refine y8 hr0 fun H1 S1 hr1=>?_ | refine new_obj hr0 fun H1 S1 hr1=>?_
  have npr:pd≠r:=ye hR.sk.dt hr0
  walk_at "rd"
  refine ⟨fun w σ' G=>∃ (N:Nat) (ml el pl:Addr) (sl:Nat->Addr) (f':Nat->List Int->Option Slt) (O':Nat->Addr->Prop),σ'=[some (.ref p),some (.ref q),some (.int mo),some (.ref r)]/\N <= mo/\(∀ j,j < N->j0 A0 d S (9 * j)=1)/\jg K a G p (A0.re ml el pl sl) (rst A0 d S (9 * N)).1 f' O' (m+54 * N) q dx pd s' ds d (rst A0 d S (9 * N)).2/\RGo p q s' A0 O H G ml el O'/\G r=some (.lst ((rtx A0 d S N).map V.int))/\r≠ml/\r≠el/\w=mo - N,
   ⟨_,0,A0.ml,A0.el,A0.pl,A0.sl,f,O,rfl,Nat.zero_le _,fun j hj=>absurd hj (Nat.not_lt_zero j),hR.same S1,RGo.refl.same S1,hr1,(ye hR.ft.mx.l hr0).symm,(ye hR.ft.el hr0).symm,rfl⟩,?_⟩
  rintro w σ2 G ⟨N,ml,el,pl,sl,f1,O1,rfl,hN,hb1,hR1,go1,hrG,nm1,ne1,rfl⟩
  walk_at "rd"
  refine yyl hR1 (by omega) nd0 (by omega) fun ml2 el2 pl2 sl2 f2 O2 G2 hR2 go2=>?_
  have keepR:∀ {G G2:Hp} {ml el pl ml2 el2:Addr} {sl:Nat->Addr} {X:FX} {f1:Nat->List Int->Option Slt} {O1 O2:Nat->Addr->Prop} {m x} {xs:List V},jg K a G p (A0.re ml el pl sl) X f1 O1 m q dx pd s' ds d x->RGo p q s' (A0.re ml el pl sl) O1 G G2 ml2 el2 O2->G r=some (.lst xs)->r≠ml->r≠el->G2 r=some (.lst xs)/\r≠ml2/\r≠el2:=fun hR1 go2 hD1 nm1 ne1=>by
   refine ⟨go2.fr _ _ hD1 (xf hD1 hR1.ft.me (by intro z; cases z)) (xf hD1 hR1.ft.mx.o (by intro z; cases z)) ne1 (xf hD1 hR1.sk.me (by intro z; cases z)) (xf hD1 hR1.sk.sp (by intro z; cases z)) (hR1.ft.B.nlst hD1),?_,?_⟩
   ·rcases go2.hm with z | z
    ·rw [z]; exact nm1
    ·exact ye hD1 z
   ·rcases go2.he with z | z
    ·rw [z]; exact ne1
    ·exact ye hD1 z
  obtain ⟨hr2,nm2,ne2⟩:=keepR hR1 go2 hrG nm1 ne1
  have go12:=go1.trans go2
  have hb01:=yoh A0 d S (9 * N)
  generalize hbv:j0 A0 d S (9 * N)=b at hb01
  walk_at "rd"
  refine zn (fun hb=>?_) (fun hb=>?_)
  ·subst hb
   have hb2:∀ j,j < N+1->j0 A0 d S (9 * j)=1:=fun j hj=>by
    by_cases z:j=N
    ·rw [z]; exact hbv
    ·exact hb1 j (by omega)
   refine yel ?_
   walk_at "rd"
   refine uc (SqL.of hr2) ?_
   rw [List.length_map,ykw]
   walk_at "rd"
   refine zn (fun hc=>?_) (fun hc=>?_)
   ·have hNm:N=mo:=by omega
    walk_at "rd"
    exact ⟨by walk_at "len",kE (fun j hj=>hb2 j (by omega)) ml2 el2 O2 G2 go12⟩
   ·walk_at "rd"
    refine yab hr2 ?_
    walk_at "rd"
    refine yqq hR2 (by omega) nd0 (by omega) fun ml3 el3 pl3 sl3 f3 O3 G3 hR3 go3=>?_
    obtain ⟨hr3,nm3,ne3⟩:=keepR hR2 go3 hr2 nm2 ne2
    have go13:=go12.trans go3
    walk_at "rd"
    refine xn hr3 (vq (by rw [List.length_map,ykw]; omega)) ?_
    walk_at "rd"
    refine ⟨_,?_,N+1,ml3,el3,pl3,sl3,f3,O3,rfl,by omega,hb2,?_,go13.app hr0,?_,nm3,ne3,rfl⟩
    ·omega
    ·exact jg.app hR3 hr3 (hR3.notN hr3 nm3 ne3) npr
    ·rw [yd,yns,List.map_append]
     rfl
  ·have hb0:j0 A0 d S (9 * N)=0:=by omega
   walk_at "rd"
   exact kQ N r ml2 el2 pl2 sl2 f2 O2 G2 hN hb1 hb0 hr0 hr2 hR2 go12
theorem yrq (x:Sn) (c b:Int):(nar x c b).2.2 <= x.2.2+2:=by
 unfold nar ren
 (repeat' split) <;> (dsimp only; omega)
theorem yo7 (A:FA) (d:List Int) (S:FX × Sn):∀ n:Nat,(rst A d S n).2.2.2 <= S.2.2.2+2 * (n:Int)
 | 0=>by show S.2.2.2 <= S.2.2.2+2 * ((0:Nat):Int); omega
 | n+1=>by
  have h1:=yo7 A d S n
  have h2:=yrq (rst A d S n).2 (chX A (rst A d S n).1) (yap d (rst A d S n).2 (chX A (rst A d S n).1))
  show (nar (rst A d S n).2 (chX A (rst A d S n).1) (yap d (rst A d S n).2 (chX A (rst A d S n).1))).2.2 <= _
  omega
structure ROk (A:FA) (d:List Int) (S:FX × Sn) (N:Nat):Prop where
 b1:∀ j,j < N->j0 A d S (9 * j)=1
 b0:j0 A d S (9 * N)=0
 tk:d.take (tL (rst A d S (9 * N+1)).2).length=tL (rst A d S (9 * N+1)).2
theorem ROk.uniq {A:FA} {d:List Int} {S:FX × Sn} {N M:Nat} (h:ROk A d S N) (b1:∀ j,j < M->j0 A d S (9 * j)=1) (b0:j0 A d S (9 * M)=0):M=N:=by
 rcases Nat.lt_trichotomy M N with z | z | z
 ·have e:=h.b1 M z
  rw [b0] at e
  cases e
 ·exact z
 ·have e:=b1 N z
  rw [h.b0] at e
  cases e
def rTL (A:FA) (d:List Int) (S:FX × Sn) (N:Nat):Nat:=(tL (rst A d S (9 * N+1)).2).length
theorem RGo.fgo {p q s:Addr} {A:FA} {O O':Nat->Addr->Prop} {H0 H H':Hp} {ml el:Addr} (S:vh H0 H) (hq:H0 q=none) (hs:H0 s=none) (h:RGo p q s A O H H' ml el O'):FGo p A O H0 H' el O' :=
 ⟨h.he.imp id S.free,fun j c hj w=>(h.hO j c hj w).imp id S.free,fun c o e c1 c2 c3 no=>h.fr c o (S _ _ e) c1 c2 c3 (ye e hq) (ye e hs) no,fun c o e=>h.live c o (S _ _ e)⟩
theorem yg4:yn ["foreteller","data","most","seeker","text","own"] ["foreteller","data","most"] (yi ytm):=⟨rfl,rfl,rfl,by decide +kernel,rfl,by decide +kernel,by decide +kernel⟩
def yi2 (K:W.Frag) (a:Ads):Sp:=fun vs H Q E=>∃ (p:Addr) (A:FA) (X:FX) (f:Nat->List Int->Option Slt) (O:Nat->Addr->Prop) (m:Nat) (dt:Addr) (d:List Int) (mo:Nat),vs=[.ref p,.ref dt,.int mo]/\uy K a H p A X f O m/\H dt=some (.lst (d.map V.int))/\dt≠A.el/\Byt d/\d.length <= 12000/\mo <= 1000/\m+54 * mo+200 < 1000000/\0 <= X.nd/\X.sg.length <= 10000 /\
 (∀ (N:Nat) (t r el:Addr) (O':Nat->Addr->Prop) (H':Hp),N <= mo->ROk A d (X,s0) N->H t=none->H r=none->H' t=some (.tup [.ref r,.int (rTL A d (X,s0) N)])->H' r=some (.lst ((rtx A d (X,s0) N).map V.int))->FGo p A O H H' el O'->Q (.ref t) H') /\
 ((∀ N,N <= mo->¬ ROk A d (X,s0) N)->∀ (el:Addr) (O':Nat->Addr->Prop) (H':Hp),FGo p A O H H' el O'->E (.ref a.C_NP) none H')
theorem yyi (T:Txt K mg a):wc P w K mg base (CXe P w) 10 a.f_q65 a.d_q65 ["foreteller","data","most"] (yi2 K a):=by
 refine T.y_q65.F.okE yg4 (fun vs H Q E h=>?_) (fun cdv A outer s H vs Q E hr h=>?_)
 ·obtain ⟨p,A,X,f,O,m,dt,d,mo,rfl,_⟩:=h
  rfl
 ·obtain ⟨p,A0,X,f,O,m,dt,d,mo,rfl,hF,hdt,ndt,hby,hdl,hmo,hm,nd0,hsg,kQ,kE⟩:=h
  refine yk (y6 (i:=3) yg4.nd rfl (Or.inl rfl) (yar T.k_Sk (yyc T) (hr.mono (by decide)) rfl T.m_Sk T.y_q50.B .nil v7 (yc (pv 1) yf (ya rfl)))) ?_
  refine yk (y6 (i:=4) yg4.nd rfl (Or.inl rfl) (vk (yv3 T) (hr.mono (by decide)) rfl T.y_q64.m T.y_q64.F.kp T.y_q64.B .nil v7 (yc (pv 0) (yc (pv 3) (yc (pv 2) yf (ya rfl)) (ya rfl)) (ya rfl)))) ?_
  refine yk (y6 (i:=5) yg4.nd rfl (Or.inl rfl) (wv (pv 3) T.cl_Sk T.y_q54.m (yv6 T) (hr.mono (by decide)) T.y_q54.B .nil y7)) ?_
  refine yk (wo (yz (ygy hr.units) (xz zf (pv 1) jd (xx (yp yr rfl T.z_len (by decide +kernel) (yc (pv 5) yf (ya rfl))))) (pv 5) (vd _)) (yh (x3 rfl T.m_NP T.r_NP (yc x9 yf (ya rfl)))) ve) ?_
  refine ⟨_,(yh (yw (yhg (yc (pv 4) (yc (yp yr rfl T.z_len (by decide +kernel) (yc (pv 5) yf (ya rfl))) yf (ya rfl)) (ya rfl))))),?_⟩
  try dsimp only [wa]
  refine yo (σ':=[some _,some _,some _,none,none,none]) rfl ?_
  walk_at "rd"
  intro q dq nq ndq neq
  have SQ:vh H (upd (upd H dq (.own q)) q (.ins a.C_Sk dq [])):=fun b o e=>by rw [yu (ye e nq),yu (ye e ndq)]; exact e
  refine ⟨q,dq,.ref dt,_,rfl,yd,.lst (SQ _ _ hdt),.inr ⟨d,ygo (SQ _ _ hdt) hby hdl,fun pd ps ds H1 hpd0 hps0 hsk B1=>⟨rfl,?_⟩⟩⟩
  have S1:vh H H1:=fun b o e=>B1 b o (SQ b o e) (ye e nq)
  have hps:H ps=none:=SQ.free hps0
  have hpd:H pd=none:=SQ.free hpd0
  have nO:∀ {c:Addr},H c=none->∀ i,i < A0.n->¬ O i c:=fun hc i hi w=>by
   obtain ⟨o,ho,_⟩:=(hF.B.b i hi).own _ w
   rw [hc] at ho
   cases ho
  have hR:jg K a H1 p A0 X f O m q dq pd ps ds d s0:=⟨hF.same S1,hsk,vbe,fun i hi=>⟨nO nq i hi,nO hps i hi⟩,(ye hF.el hpd).symm⟩
  walk_at "rd"
  refine ⟨p,A0,(X,s0),f,O,m,q,dq,pd,ps,ds,d,mo,rfl,hR,hmo,hm,nd0,hsg,fun N r ml el pl sl f2 O2 H2 hN hb1 hb0 hr0 hr2 hR2 go2=>?_,fun hall ml el O2 H2 go2=>?_⟩
  ·have hsz:=yo7 A0 d (X,s0) (9 * N+1)
   have hs5:((X,s0):FX × Sn).2.2.2=5:=rfl
   rw [hs5] at hsz
   have go:=go2.fgo S1 nq hps
   have hq2:=hR2.sk.me
   have hdt2:H2 dt=some (.lst (d.map V.int)):=(go.kpa hF).lst hdt ndt
   walk_at "rd"
   refine ⟨q,dq,pd,ps,ds,d,_,rfl,hR2.sk,hR2.ok,by show Int.toNat _ <= 100000; omega,fun w H3 hw0 hw3 S3=>?_⟩
   walk_at "rd"
   refine uc (SqL.of hw3) ?_
   rw [List.length_map]
   walk_at "rd"
   refine ydh (SqL.of (S3 _ _ hdt2)) fun u hu=>?_
   have ec:yeu (d.map V.int) none (some (((tL (rst A0 d (X,s0) (9 * N+1)).2).length:Nat):Int))=(d.take (tL (rst A0 d (X,s0) (9 * N+1)).2).length).map V.int:=by rw [List.map_take]; exact z7 _
   rw [ec]
   with_reducible first | refine y8 hu fun H4 S4 hu4=>?_ | refine new_obj hu fun H4 S4 hu4=>?_
   have go4:=go.same (S3.trans S4)
   walk_at "rd"
   refine yny _ _ (SqL.of hu4) (SqL.of (S4 _ _ hw3)) ?_
   by_cases hc:d.take (tL (rst A0 d (X,s0) (9 * N+1)).2).length=tL (rst A0 d (X,s0) (9 * N+1)).2
   ·rw [decide_eq_true hc]
    walk_at "rd"
    refine uc (SqL.of (S4 _ _ hw3)) ?_
    rw [List.length_map]
    walk_at "rd"
    refine ⟨by walk_at "len",fun t ht0=>?_⟩
    refine kQ N t r el O2 _ hN ⟨hb1,hb0,hc⟩ (go4.free ht0) (S1.free hr0) yd (xo ht0 ((S3.trans S4) _ _ hr2)) (go4.same (vj ht0))
   ·rw [decide_eq_false hc]
    walk_at "rd"
    exact ⟨by walk_at "len",kE (fun M hM hok=>hc (by rw [hok.uniq hb1 hb0]; exact hok.tk)) el O2 _ go4⟩
  ·exact kE (fun M hM hok=>by have e:=hall M hM; rw [hok.b0] at e; cases e) el O2 H2 (go2.fgo S1 nq hps)
structure va4 (H:Hp) (L dt:Addr) (lx:V) (n:Nat) (lk:Nat->Addr) (kd:Nat->Fin 3) (tp:Nat->Addr) (ps:Nat->List Int) (d:List Int) (mo N w:Nat) (lt:Nat->Addr) (tt:Nat->List Int):Prop where
 l:H L=some (.lst (refs lk n))
 n1:1 <= n
 n6:n <= 6
 r:jz H n lk kd tp ps
 dat:H dt=some (.lst (d.map V.int))
 by':Byt d
 dl:d.length <= 12000
 mo1:mo <= 1000
 lr:yoa H lx N w lt tt
 w1:w <= 1000
 N1:N <= 1000
 b:6+6 * (N * (9 * w+1))+54 * mo+200 < 1000000
theorem yoa.of {H:Hp} {ll:Addr} {N w:Nat} {lt:Nat->Addr} {tt:Nat->List Int} (h:H ll=some (.lst (refs lt N))) (t:∀ i,i < N->ybr H (lt i) (tt i) w):yoa H (.ref ll) N w lt tt:=⟨.inr ⟨ll,rfl,h⟩,t⟩
def rS (n:Nat) (kd:Nat->Fin 3) (ps:Nat->List Int) (pre:List Int):FX × Sn:=((FX0 n kd).run (fa0 n ps) pre,s0)
theorem yaa (A:FA) (d:List Int) (S:FX × Sn):∀ k,rst A d S k=rst (fa0 A.n A.ps) d S k
 | 0=>rfl
 | k+1=>by
  show rnx A d (rst A d S k)=rnx (fa0 A.n A.ps) d (rst (fa0 A.n A.ps) d S k)
  rw [yaa A d S k]
  rfl
theorem ju (A:FA) (d:List Int) (S:FX × Sn) (k:Nat):j0 A d S k=j0 (fa0 A.n A.ps) d S k:=by
 unfold j0
 rw [yaa]
 rfl
theorem yr5 (A:FA) (d:List Int) (S:FX × Sn) (k:Nat):rsg A d S k=rsg (fa0 A.n A.ps) d S k:=by
 unfold rsg sgB
 rw [yaa]
 exact congrArg List.sum (List.map_congr_left fun j _=>by rw [ju])
theorem yrw (A:FA) (d:List Int) (S:FX × Sn) (k:Nat):rtx A d S k=rtx (fa0 A.n A.ps) d S k:=by
 unfold rtx
 exact List.map_congr_left fun j _=>yr5 A d S j
theorem yru (A:FA) (d:List Int) (S:FX × Sn) (k:Nat):rTL A d S k=rTL (fa0 A.n A.ps) d S k:=by
 unfold rTL
 rw [yaa]
theorem ROk.fa0 {A:FA} {d:List Int} {S:FX × Sn} {N:Nat}:ROk A d S N ↔ ROk (fa0 A.n A.ps) d S N:=by
 constructor
 ·intro h
  exact ⟨fun j hj=>by rw [<- ju]; exact h.b1 j hj,by rw [<- ju]; exact h.b0,by rw [<- yaa]; exact h.tk⟩
 ·intro h
  exact ⟨fun j hj=>by rw [ju]; exact h.b1 j hj,by rw [ju]; exact h.b0,by rw [yaa]; exact h.tk⟩
theorem ywd {m:Nat} (h:m <= 1000):yue (.int m)=true:=by
 show (decide ((0:Int) <= m) && decide ((m:Int) <= 1000))=true
 rw [decide_eq_true (by omega),decide_eq_true (by omega)]
 rfl
theorem yp2 {mx bt:Nat->Int} {d:List Int} (hd:Byt d) {m:Nat} (hc:∀ j,j < m->Ch (mx j)) (hb:∀ j,j < m->bt j=0\/bt j=1) (i:InS d (snK mx bt m)):∀ k,k < m->bt k=yap d (snK mx bt k) (mx k)/\InS d (snK mx bt k):=by
 induction m with
 | zero=>exact fun k hk=>absurd hk (Nat.not_lt_zero k)
 | succ m ih =>
  have hx:=(yah (mx:=mx) (bt:=bt) m fun j hj=>hc j (by omega)).1
  obtain ⟨i1,i2⟩:=yqh hd hx (hc m (by omega)) (hb m (by omega)) i
  intro k hk
  by_cases z:k=m
  ·rw [z]
   exact ⟨i2,i1⟩
  ·exact ih (fun j hj=>hc j (by omega)) (fun j hj=>hb j (by omega)) i1 k (by omega)
theorem yyx {ts:List Int} {k:Nat} (h:k < (dec ts).length):vi ts k=0\/vi ts k=1:=by
 obtain ⟨h0,h1⟩:=yc4 ts k h
 omega
theorem yem (x:Sn):Byt (tL x):=fun b hb=>yqi _ _ b hb
theorem yc5 {n:Nat} {kd:Nat->Fin 3} {ps:Nat->List Int} {pre ts d:List Int} (hd:Byt d) (hc:∀ j,j < (dec ts).length->Ch (zh n kd ps pre ts j)) (hi:InS d (snK (zh n kd ps pre ts) (vi ts) (dec ts).length)):∀ k,k <= (dec ts).length->rst (fa0 n ps) d (rS n kd ps pre) k=(fX n kd ps pre ts k,snK (zh n kd ps pre ts) (vi ts) k)
 | 0,_=>rfl
 | k+1,hk=>by
  have e2:=(yp2 hd hc (fun j hj=>yyx hj) hi k (by omega)).1
  have hb:(dec ts)[k]?=some (vi ts k):=by unfold vi; rw [List.getElem?_eq_getElem (by omega)]; rfl
  show rnx (fa0 n ps) d (rst (fa0 n ps) d (rS n kd ps pre) k)=_
  rw [yc5 hd hc hi k (by omega)]
  show ((fX n kd ps pre ts k).see (fa0 n ps) (yap d (snK (zh n kd ps pre ts) (vi ts) k) (zh n kd ps pre ts k)),nar (snK (zh n kd ps pre ts) (vi ts) k) (zh n kd ps pre ts k) (yap d (snK (zh n kd ps pre ts) (vi ts) k) (zh n kd ps pre ts k)))=(fX n kd ps pre ts (k+1),nar (snK (zh n kd ps pre ts) (vi ts) k) (zh n kd ps pre ts k) (vi ts k))
  rw [<- e2]
  have e3:fX n kd ps pre ts (k+1)=(fX n kd ps pre ts k).see (fa0 n ps) (vi ts k):=by
   unfold fX
   rw [za hb]
  rw [e3]
theorem yjc {n:Nat} {kd:Nat->Fin 3} {ps:Nat->List Int} {pre ts d:List Int} (hd:Byt d) (hc:∀ j,j < (dec ts).length->Ch (zh n kd ps pre ts j)) (hi:InS d (snK (zh n kd ps pre ts) (vi ts) (dec ts).length)) (k:Nat) (hk:k < (dec ts).length):j0 (fa0 n ps) d (rS n kd ps pre) k=vi ts k:=by
 have e2:=(yp2 hd hc (fun j hj=>yyx hj) hi k hk).1
 unfold j0
 rw [yc5 hd hc hi k (by omega)]
 exact e2.symm
theorem j7 (t:Int) (r:List Int) (k:Nat):vi (t :: r) (k+9)=vi r k:=rfl
theorem yhp (t:Int) (r:List Int):∀ i,i < 8->vi (t :: r) (1+i)=t / wB i % 2:=fun i hi=>by
 rcases i with _ | _ | _ | _ | _ | _ | _ | _ | i
 ·rfl
 ·rfl
 ·rfl
 ·rfl
 ·rfl
 ·rfl
 ·rfl
 ·rfl
 ·omega
theorem ybe:∀ (ts:List Int) (j:Nat) (hj:j < ts.length),vi ts (9 * j)=1/\∀ i,i < 8->vi ts (9 * j+1+i)=ts[j] / wB i % 2
 | [],j,hj=>absurd hj (Nat.not_lt_zero j)
 | t :: r,0,_=>⟨rfl,fun i hi=>by rw [show 9 * 0+1+i=1+i by omega]; exact yhp t r i hi⟩
 | t :: r,j+1,hj=>by
  obtain ⟨h1,h2⟩:=ybe r j (by simpa using hj)
  refine ⟨?_,fun i hi=>?_⟩
  ·rw [show 9 * (j+1)=9 * j+9 by omega,j7]
   exact h1
  ·rw [show 9 * (j+1)+1+i=9 * j+1+i+9 by omega,j7]
   exact h2 i hi
theorem ygq:∀ ts:List Int,vi ts (9 * ts.length)=0
 | []=>rfl
 | t :: r=>by
  rw [show 9 * (t :: r).length=9 * r.length+9 by rw [List.length_cons]; omega,j7]
  exact ygq r
theorem ynf (A:FA) (d:List Int) (S:FX × Sn) (c i:Nat):j0 A d (rst A d S c) i=j0 A d S (c+i):=by
 unfold j0
 rw [yf4]
theorem yjm {n:Nat} {kd:Nat->Fin 3} {ps:Nat->List Int} {pre ts d:List Int} (hts:Sgs ts) (hd:Byt d) (hc:∀ j,j < (dec ts).length->Ch (zh n kd ps pre ts j)) (hl:(tL (snK (zh n kd ps pre ts) (vi ts) (dec ts).length)).length <= d.length) (h:d.take (tL (snK (zh n kd ps pre ts) (vi ts) (dec ts).length)).length=tL (snK (zh n kd ps pre ts) (vi ts) (dec ts).length)) :
  ROk (fa0 n ps) d (rS n kd ps pre) ts.length/\rtx (fa0 n ps) d (rS n kd ps pre) ts.length=ts/\rTL (fa0 n ps) d (rS n kd ps pre) ts.length=(tL (snK (zh n kd ps pre ts) (vi ts) (dec ts).length)).length:=by
 have o1:=(yah (bt:=vi ts) _ hc).1
 have hi:=yq3 hd o1 hl h
 have hdl:=ug ts
 have e1:rst (fa0 n ps) d (rS n kd ps pre) (9 * ts.length+1)=(fX n kd ps pre ts (dec ts).length,snK (zh n kd ps pre ts) (vi ts) (dec ts).length):=by
  rw [<- hdl]
  exact yc5 hd hc hi _ (Nat.le_refl _)
 have hb:=yjc hd hc hi
 refine ⟨⟨fun j hj=>?_,?_,?_⟩,?_,?_⟩
 ·rw [hb _ (by omega)]
  exact (ybe ts j hj).1
 ·rw [hb _ (by omega)]
  exact ygq ts
 ·rw [e1]
  exact h
 ·show (List.range ts.length).map (rsg (fa0 n ps) d (rS n kd ps pre))=ts
  refine List.ext_getElem (by rw [List.length_map,List.length_range]) fun j h1 h2=>?_
  rw [List.getElem_map,List.getElem_range]
  have hs:=hts ts[j] (List.getElem_mem h2)
  have ht:=(ybe ts j h2).2
  have e:∀ i,i < 8->wB i * j0 (fa0 n ps) d (rst (fa0 n ps) d (rS n kd ps pre) (9 * j+1)) i=wB i * (ts[j] / wB i % 2):=fun i hi=>by
   rw [ynf,hb _ (by omega),ht i hi]
  have e2:sgB (fa0 n ps) d (rst (fa0 n ps) d (rS n kd ps pre) (9 * j+1)) 8=(List.range 8).map fun i=>wB i * (ts[j] / wB i % 2):=by
   unfold sgB
   exact List.map_congr_left fun i hi=>e i (List.mem_range.mp hi)
  unfold rsg
  rw [e2]
  exact vav hs.1 hs.2
 ·unfold rTL
  rw [e1]
theorem yf9 {xs ys:List Int} (h1:Byt xs) (h2:Byt ys):Byt (xs++ys):=fun b hb=>by
 rcases List.mem_append.mp hb with h | h
 ·exact h1 b h
 ·exact h2 b h
def yiz (n:Nat) (kd:Nat->Fin 3) (ps:Nat->List Int) (pre ts:List Int):List Int:=tL (snK (zh n kd ps pre ts) (vi ts) (dec ts).length)
theorem yc2 {n:Nat} {kd:Nat->Fin 3} {ps:Nat->List Int} {pre ts:List Int} (n1:1 <= n) (n6:n <= 6) (hp:yiv pre) (hz:ts.length <= 300):(yiz n kd ps pre ts).length <= 5500:=by
 have hdl:=ug ts
 obtain ⟨sk1,sk2⟩:=yah (mx:=zh n kd ps pre ts) (bt:=vi ts) (dec ts).length fun j _=>yfr n1 n6 hp j
 unfold yiz
 rw [ylk]
 have:sz (snK (zh n kd ps pre ts) (vi ts) (dec ts).length) <= 5500:=by show Int.toNat _ <= 5500; omega
 omega
theorem yc1 {n:Nat} {kd:Nat->Fin 3} {ps:Nat->List Int} {pre ts bs:List Int} (n1:1 <= n) (n6:n <= 6) (hp:yiv pre) (hts:Sgs ts) (hb:Byt bs) :
  ROk (fa0 n ps) (yiz n kd ps pre ts++bs) (rS n kd ps pre) ts.length/\rtx (fa0 n ps) (yiz n kd ps pre ts++bs) (rS n kd ps pre) ts.length=ts/\rTL (fa0 n ps) (yiz n kd ps pre ts++bs) (rS n kd ps pre) ts.length=(yiz n kd ps pre ts).length :=
 yjm hts (yf9 (yem _) hb) (fun j _=>yfr n1 n6 hp j) (by rw [List.length_append]; exact Nat.le_add_right _ _) List.take_left
theorem ylo:yn ["looks","data","most","learned","foreteller","row"] ["looks","data","most","learned"] (yi yir):=⟨rfl,rfl,rfl,by decide +kernel,rfl,by decide +kernel,by decide +kernel⟩
def yj9 (K:W.Frag) (a:Ads):Sp:=fun vs H Q E=>∃ (L dt:Addr) (lx:V) (n:Nat) (lk:Nat->Addr) (kd:Nat->Fin 3) (tp:Nat->Addr) (ps:Nat->List Int) (d:List Int) (mo N w:Nat) (lt:Nat->Addr) (tt:Nat->List Int),vs=[.ref L,.ref dt,.int mo,lx]/\va4 H L dt lx n lk kd tp ps d mo N w lt tt /\
 (∀ (M:Nat) (t r:Addr) (H':Hp),M <= mo->ROk (fa0 n ps) d (rS n kd ps (xg tt N)) M->H t=none->H r=none->H' t=some (.tup [.ref r,.int (rTL (fa0 n ps) d (rS n kd ps (xg tt N)) M)])->H' r=some (.lst ((rtx (fa0 n ps) d (rS n kd ps (xg tt N)) M).map V.int))->vh H H'->Q (.ref t) H') /\
 ((∀ M,M <= mo->¬ ROk (fa0 n ps) d (rS n kd ps (xg tt N)) M)->∀ H',vh H H'->E (.ref a.C_NP) none H')
theorem ypm (T:Txt K mg a):wc P w K mg base (CXe P w) 11 a.f_q66 a.d_q66 ["looks","data","most","learned"] (yj9 K a):=by
 refine T.F_q66.okE ylo (fun vs H Q E h=>?_) (fun cdv A outer s H vs Q E hr h=>?_)
 ·obtain ⟨L,dt,lx,n,lk,kd,tp,ps,d,mo,N,w,lt,tt,rfl,_⟩:=h
  rfl
 ·obtain ⟨L,dt,lx,n,lk,kd,tp,ps,d,mo,N,w,lt,tt,rfl,hI,kQ,kE⟩:=h
  have hb1:=hI.b
  have n1:=hI.n1
  have n6:=hI.n6
  have hmo:=ywd hI.mo1
  refine yk (y6 (i:=4) ylo.nd rfl (Or.inl rfl) (yar T.k_Ft (ylh T) (hr.mono (by decide)) rfl T.m_Ft T.y_q36.B .nil v7 (yc (pv 0) yf (ya rfl)))) ?_
  refine yk (y6 (i:=5) ylo.nd rfl (Or.inl rfl) (vk (yzd T) (hr.mono (by decide)) rfl T.y_q7.m T.y_q7.F.kp T.y_q7.B .nil v7 (yc (pv 1) yf (ya rfl)))) ?_
  refine yk (y9 (vk (vaf T) (hr.mono (by decide)) rfl T.y_q8.m T.y_q8.F.kp T.y_q8.B .nil v7 (yc (pv 2) yf (ya rfl)))) ?_
  refine yk (y9 (yv (yk9 T) (hr.mono (by decide)) rfl T.y_q56.m T.y_q56.F.kp T.y_q56.B .nil y7 (yc (pv 4) (yc (yv (yl2 T) (hr.mono (by decide)) rfl T.y_q55.m T.y_q55.F.kp T.y_q55.B .nil y7 (yc (pv 3) yf (ya rfl))) yf (ya rfl)) (ya rfl)))) ?_
  refine ⟨_,(yh (yw (vk (yyi T) (hr.mono (by decide)) rfl T.y_q65.m T.y_q65.F.kp T.y_q65.B .nil v7 (yc (pv 4) (yc (pv 5) (yc (pv 2) yf (ya rfl)) (ya rfl)) (ya rfl))))),?_⟩
  try dsimp only [wa]
  refine yo (σ':=[some _,some _,some _,some _,none,none]) rfl ?_
  walk_at "rd"
  intro p dp np ndp nep
  have S0:vh H (upd (upd H dp (.own p)) p (.ins a.C_Ft dp [])):=fun b o e=>by rw [yu (ye e np),yu (ye e ndp)]; exact e
  refine ⟨p,dp,.ref L,rfl,yd,.inr ⟨L,n,lk,kd,tp,ps,rfl,S0 _ _ hI.l,n1,n6,hI.r.same S0,fun A f O H1 N1 B1=>⟨rfl,?_⟩⟩⟩
  obtain ⟨hft,rfl,rfl,rfl,rfl,oO,oB,oM,oL⟩:=N1
  have S1:vh H H1:=fun b o e=>B1 b o (S0 b o e) (ye e np)
  have fresh:∀ {c:Addr},upd (upd H dp (.own p)) p (.ins a.C_Ft dp []) c=none->H c=none:=fun h=>S0.free h
  have hel0:H A.el=none:=fresh (oL A.el (.inr (.inl rfl)))
  walk_at "rd"
  refine ⟨.ref dt,_,rfl,.lst (S1 _ _ hI.dat),.inr ⟨d.map V.int,ygo (S1 _ _ hI.dat) hI.by' hI.dl,fun rw H2 hrw0 hrw2 S2=>?_⟩⟩
  have S12:=S1.trans S2
  have hft2:=hft.same S2
  have nrw:rw≠A.el:=(ye hft.el hrw0).symm
  walk_at "rd"
  refine ⟨.int mo,_,rfl,.int _,fun _=>?_,fun z=>(by rw [hmo] at z; cases z)⟩
  walk_at "rd"
  refine ybf (hI.lr.same S12) hI.w1 hI.N1 fun cl0 cx H3 h0 h3 hx S3=>?_
  walk_at "rd"
  refine ⟨p,A,FX0 A.n A.kd,f,O,6,cl0,N,w,cx,tt,rfl,hft2.same S3,rfl,rfl,h3,(ye hft2.el h0).symm,fun i hi=>⟨⟨(hx i hi).2,(hI.lr.2 i hi).s,(hI.lr.2 i hi).z⟩,(ye hft2.el (hx i hi).1).symm⟩,hI.w1,by omega,fun ml el pl sl f1 O1 m1 H4 hF4 hm4 go4 sg4 nd4=>?_⟩
  have go4:=FGo.ahead S3 go4
  have kp4:=go4.kpa hft2
  have hrw4:=kp4 _ _ hrw2 rfl nrw
  have eX:(FX0 A.n A.kd).run A (xg tt N)=(FX0 A.n A.kd).run (fa0 A.n A.ps) (xg tt N):=j8 A _ _
  rw [eX] at hF4 sg4 nd4
  have eS:(((FX0 A.n A.kd).run (fa0 A.n A.ps) (xg tt N),s0):FX × Sn)=rS A.n A.kd A.ps (xg tt N):=rfl
  generalize (FX0 A.n A.kd).run (fa0 A.n A.ps) (xg tt N)=XX at hF4 sg4 nd4 eS
  have fin:∀ {el2:Addr} {O2:Nat->Addr->Prop} {H5:Hp},FGo p (A.re ml el pl sl) O1 H4 H5 el2 O2->vh H H5:=fun go5 c o e=>by
   have go:=go4.trans go5
   refine go.fr c o (S12 _ _ e) (fun z=>?_) (fun z=>?_) (fun z=>?_) (fun i hi w'=>?_)
   ·rw [z,np] at e
    cases e
   ·rw [z,fresh oM] at e
    cases e
   ·rw [z,hel0] at e
    cases e
   ·rw [fresh (oO i c hi w')] at e
    cases e
  walk_at "rd"
  refine ⟨p,A.re ml el pl sl,XX,f1,O1,m1,rw,d,mo,rfl,hF4,hrw4.2,hrw4.1,hI.by',hI.dl,hI.mo1,by omega,by rw [nd4]; decide,by rw [sg4]; exact Nat.zero_le _,fun M t r el2 O2 H5 hM hok ht0 hr0 ht hr go5=>?_,fun hno el2 O2 H5 go5=>?_⟩
  ·rw [yru,eS] at ht
   rw [yrw,eS] at hr
   rw [ROk.fa0,eS] at hok
   exact kQ M t r H5 hM hok (S12.free (go4.free ht0)) (S12.free (go4.free hr0)) ht hr (fin go5)
  ·refine kE (fun M hM hok=>hno M hM ?_) H5 (fin go5)
   rw [ROk.fa0,eS]
   exact hok
theorem yox:yn ["looks","data","most","learned","first"] ["looks","data","most","learned"] (yi yit):=⟨rfl,rfl,rfl,by decide +kernel,rfl,by decide +kernel,by decide +kernel⟩
def yp6 (K:W.Frag) (a:Ads):Sp:=fun vs H Q E=>∃ (L dt:Addr) (lx:V) (n:Nat) (lk:Nat->Addr) (kd:Nat->Fin 3) (tp:Nat->Addr) (ps:Nat->List Int) (d:List Int) (mo N w:Nat) (lt:Nat->Addr) (tt:Nat->List Int),vs=[.ref L,.ref dt,.int mo,lx]/\va4 H L dt lx n lk kd tp ps d mo N w lt tt /\
 (∀ (M:Nat) (r:Addr) (H':Hp),M <= mo->ROk (fa0 n ps) d (rS n kd ps (xg tt N)) M->rTL (fa0 n ps) d (rS n kd ps (xg tt N)) M=d.length->H r=none->H' r=some (.lst ((rtx (fa0 n ps) d (rS n kd ps (xg tt N)) M).map V.int))->vh H H'->Q (.ref r) H') /\
 ((∀ M,M <= mo->ROk (fa0 n ps) d (rS n kd ps (xg tt N)) M->rTL (fa0 n ps) d (rS n kd ps (xg tt N)) M≠d.length)->∀ H',vh H H'->E (.ref a.C_NP) none H')
theorem ROk.le {A:FA} {d:List Int} {S:FX × Sn} {N:Nat} (h:ROk A d S N):rTL A d S N <= d.length:=by
 have e:=congrArg List.length h.tk
 rw [List.length_take] at e
 unfold rTL
 omega
theorem ypa (T:Txt K mg a):wc P w K mg base (CXe P w) 12 a.f_q67 a.d_q67 ["looks","data","most","learned"] (yp6 K a):=by
 refine T.F_q67.okE yox (fun vs H Q E h=>?_) (fun cdv A outer s H vs Q E hr h=>?_)
 ·obtain ⟨L,dt,lx,n,lk,kd,tp,ps,d,mo,N,w,lt,tt,rfl,_⟩:=h
  rfl
 ·obtain ⟨L,dt,lx,n,lk,kd,tp,ps,d,mo,N,w,lt,tt,rfl,hI,kQ,kE⟩:=h
  refine yk (y6 (i:=4) yox.nd rfl (Or.inl rfl) (vk (ypm T) (hr.mono (by decide)) rfl T.m_q66 T.F_q66.kp T.B_q66 .nil v7 (yc (pv 0) (yc (pv 1) (yc (pv 2) (yc (pv 3) yf (ya rfl)) (ya rfl)) (ya rfl)) (ya rfl)))) ?_
  refine yk (wo (yz yaf (wz jx (pv 4) yg (fun _ _=>rfl)) (yp yr rfl T.z_len (by decide +kernel) (yc (pv 1) yf (ya rfl))) (vd _)) (yh (x3 rfl T.m_NP T.r_NP (yc x9 yf (ya rfl)))) ve) ?_
  refine ⟨_,(yh (yw (wz jx (pv 4) yg (fun _ _=>rfl)))),?_⟩
  try dsimp only [wa]
  refine yo (σ':=[some _,some _,some _,some _,none]) rfl ?_
  walk_at "rd"
  refine ⟨L,dt,lx,n,lk,kd,tp,ps,d,mo,N,w,lt,tt,rfl,hI,fun M t r H1 hM hok ht0 hr0 ht1 hr1 S1=>?_,fun hno H1 S1=>kE (fun M hM hok=>absurd hok (hno M hM)) H1 S1⟩
  have hle:=hok.le
  have hun:∀ M',ROk (fa0 n ps) d (rS n kd ps (xg tt N)) M'->M'=M:=fun M' h'=>hok.uniq h'.b1 h'.b0
  generalize hTL:rTL (fa0 n ps) d (rS n kd ps (xg tt N)) M=tl at ht1 hle
  walk_at "rd"
  refine ydi (SqT.of ht1) (vv (j:=1) rfl) ?_
  walk_at "rd"
  refine uc (SqL.of (S1 _ _ hI.dat)) ?_
  rw [List.length_map]
  walk_at "rd"
  refine zn (fun hc=>?_) (fun hc=>?_)
  ·walk_at "rd"
   exact ⟨by walk_at "len",kE (fun M' _ h'=>by rw [hun M' h',hTL]; omega) H1 S1⟩
  ·walk_at "rd"
   refine ydi (SqT.of ht1) (vv (j:=0) rfl) ?_
   exact kQ M r H1 hM hok (by rw [hTL]; omega) hr0 hr1 S1
theorem yvz:yn ["_law_script","_law_k"] ["_law_script","_law_k"] (yi ytu):=⟨rfl,rfl,rfl,by decide +kernel,rfl,by decide +kernel,by decide +kernel⟩
def yhl (K:W.Frag):Sp:=fun vs H Q _=>∃ (l:Addr) (ns:List Int) (j:Nat),vs=[.ref l,.int j]/\SqL K H l (ns.map V.int)/\∀ n:Int,Q (.int n) H
theorem yvh (T:Txt K mg a):wc P w K mg base CX0 1 a.f_q68 a.d_q68 ["_law_script","_law_k"] (yhl K):=by
 refine T.y_q68.F.ok yvz (fun vs H Q E h=>?_) (fun cdv A outer s H vs Q E hr h=>?_)
 ·obtain ⟨l,ns,j,rfl,_⟩:=h
  rfl
 ·obtain ⟨l,ns,j,rfl,hl,k⟩:=h
  refine ⟨_,(yj (wo (yz yaf (pv 1) (yp yr rfl T.z_len (by decide +kernel) (yc (pv 0) yf (ya rfl))) (vd _)) (yh (yw (wz vw (pv 0) (pv 1) (fun _ _=>rfl)))) ve) (yh (yw yg))),?_⟩
  try dsimp only [wa]
  refine yo (σ':=[some _,some _]) rfl ?_
  walk_at "rd"
  refine uc hl ?_
  rw [List.length_map]
  walk_at "rd"
  refine zn (fun hb=>?_) (fun hb=>?_)
  ·have hj:j < ns.length:=by omega
   walk_at "rd"
   refine xt (v:=V.int ns[j]) hl (vv (by rw [List.getElem?_map,List.getElem?_eq_getElem hj]; rfl)) ?_
   walk_at "rd"
   exact k _
  ·walk_at "rd"
   exact k _
def vbq (ns:List Int):Prop:=∀ b∈ns,0 <= b/\b <= 255
structure yud (G0 G:Hp) (D:Addr) (N:Nat) (cx:Nat->Addr) (tt:Nat->List Int):Prop where
 d:G D=some (.lst (refs cx N))
 c:∀ j,j < N->G (cx j)=some (.lst ((tt j).map V.int))/\cx j≠D
 s:vh G0 G
theorem yud.zero {G0:Hp} {D:Addr} {tt:Nat->List Int} (hD:G0 D=none):yud G0 (upd G0 D (.lst [])) D 0 (fun _=>0) tt:=⟨yd,fun j hj=>absurd hj (Nat.not_lt_zero j),vj hD⟩
theorem yud.next {G0 G:Hp} {D c:Addr} {i:Nat} {cx:Nat->Addr} {tt:Nat->List Int} (h:yud G0 G D i cx tt) (hD:G0 D=none) (hc:G c=none):yud G0 (upd (upd G c (.lst ((tt i).map V.int))) D (.lst (refs cx i++[V.ref c]))) D (i+1) (upN cx i c) tt:=by
 have nc:c≠D:=(ye h.d hc).symm
 refine ⟨?_,fun j hj=>?_,fun b o e=>ym (ye e hD) (xo hc (h.s b o e))⟩
 ·rw [yd,ue,wg]
  congr 3
  exact xw fun j hj=>(wb hj).symm
 ·by_cases z:j=i
  ·rw [z,wg]
   exact ⟨ym nc yd,nc⟩
  ·have hji:j < i:=by omega
   rw [wb hji]
   obtain ⟨g1,g2⟩:=h.c j hji
   exact ⟨ym g2 (xo hc g1),g2⟩
theorem yot:yn ["_law_found","_law_byte"] ["_law_found"] (yi yt6):=⟨rfl,rfl,rfl,by decide +kernel,rfl,by decide +kernel,by decide +kernel⟩
def ymu (K:W.Frag):Sp:=fun vs H Q _=>∃ (f:Addr) (ns:List Int),vs=[.ref f]/\H f=some (.lst (ns.map V.int))/\vbq ns/\Q (.bl true) H
theorem ypw (T:Txt K mg a):wc P w K mg base CX0 1 a.f_q69 a.d_q69 ["_law_found"] (ymu K):=by
 refine T.y_q69.F.ok yot (fun vs H Q E h=>?_) (fun cdv A outer s H vs Q E hr h=>?_)
 ·obtain ⟨f,ns,rfl,_⟩:=h
  rfl
 ·obtain ⟨f,ns,rfl,hf,hb,k⟩:=h
  refine ⟨_,(yj (wo (wd (wq (yp vg rfl T.z_isinstance (by decide +kernel) (yc (pv 0) (yc (xu (T:="list") rfl T.z_list (by decide +kernel)) yf (ya rfl)) (ya rfl))))) (yh (yw ybm)) ve) (yj (uv PassesOwn.never rfl (v8 (pv 0)) (vz (i:=1) yot.nd rfl (Or.inl rfl)) (yh (wo (PW.pt (uk (wd (wq (yp vg rfl T.z_isinstance (by decide +kernel) (yc (pv 1) (yc (xu (T:="int") rfl T.z_int (by decide +kernel)) yf (ya rfl)) (ya rfl))))) (uk (wq (yp vg rfl T.z_isinstance (by decide +kernel) (yc (pv 1) (yc (xu (T:="bool") rfl T.z_bool (by decide +kernel)) yf (ya rfl)) (ya rfl)))) (u5 (wd (jv uo uo yg (pv 1) yg)))))) (yh (yw ybm)) ve))) (yh (yw ybm)))),?_⟩
  try dsimp only [wa]
  refine yo (σ':=[some _,none]) rfl ?_
  walk_at "rd"
  refine zg (.lst hf) (z8 _ _) ?_
  walk_at "rd"
  refine ⟨f,rfl,⟨_,SqL.of hf⟩,ua (K:=K) (a:=f) (xs:=ns.map V.int) (fun i σ2 G=>(∃ v,σ2=[some (.ref f),v])/\H=G) ⟨⟨_,rfl⟩,rfl⟩ (fun i σ2 G _ ⟨_,e⟩=>e ▸ SqL.of hf) ?_ ?_⟩
  ·rintro i y σ2 G hy ⟨⟨v,rfl⟩,rfl⟩
   obtain ⟨c,rfl,hcm,_,_⟩:=x8 hy
   obtain ⟨c0,c1⟩:=hb c hcm
   walk_at "rd"
   refine zg (.int c) (z8 _ _) ?_
   walk_at "rd"
   refine zg (.int c) yxw ?_
   walk_at "rd"
   refine ybn c0 ?_
   walk_at "rd"
   refine yer c1 ?_
   walk_at "rd"
   exact ⟨⟨_,rfl⟩,rfl⟩
  ·rintro σ2 G ⟨⟨v,rfl⟩,rfl⟩
   walk_at "rd"
   exact k
theorem yai:yn ["_law_cell","_law_most","_law_looks_here","_law_k","_law_bits","_law_places","_law_place"] ["_law_cell","_law_most"] (yi ys1):=⟨rfl,rfl,rfl,by decide +kernel,rfl,by decide +kernel,by decide +kernel⟩
def yfi:Sp:=fun vs H Q _=>∃ (c:Int),vs=[.int c,.int 4]/\0 <= c/\c < 1000000000000000/\∀ r (n:Nat) (lk:Nat->Addr) (kd:Nat->Fin 3) (tp:Nat->Addr) (ps:Nat->List Int) H',H r=none->H' r=some (.lst (refs lk n))->1 <= n->n <= 6->jz H' n lk kd tp ps->vh H H'->Q (.ref r) H'
theorem yva (T:Txt K mg a):wc P w K mg base CX0 1 a.f_q70 a.d_q70 ["_law_cell","_law_most"] yfi:=by
 refine T.y_q70.F.ok yai (fun vs H Q E h=>?_) (fun cdv A outer s H vs Q E hr h=>?_)
 ·obtain ⟨c,rfl,_⟩:=h
  rfl
 ·obtain ⟨c,rfl,c0,c1,k⟩:=h
  refine yk (y6 (i:=2) yai.nd rfl (Or.inl rfl) (w4 yf)) ?_
  refine yk (uv PassesOwn.never rfl (u4 rfl T.z_range (yc (yq v6 yg (yq wt (pv 0) (pv 1))) yf (ya rfl))) (vz (i:=3) yai.nd rfl (Or.inl rfl)) (yj (y6 (i:=0) yai.nd rfl (Or.inl rfl) (yq wt (yq wj (yq v6 (yq v6 (yq v6 (yq wj (pv 0) (pv 0)) (yq wj yg (pv 0))) (yq wj yg (pv 3))) yg) yg) yg)) (yj (y6 (i:=4) yai.nd rfl (Or.inl rfl) (wz vw (w4 (yc yg (yc (yq wt (yq vf (pv 0) yg) yg) (yc yg (yc (yq wt (yq vf (pv 0) yg) yg) (yc yg (yc (yq wt (yq vf (pv 0) yg) yg) yf (ya rfl)) (ya rfl)) (ya rfl)) (ya rfl)) (ya rfl)) (ya rfl))) (yq wt (yq vf (pv 0) yg) yg) (fun _ _=>rfl))) (yj (y6 (i:=5) yai.nd rfl (Or.inl rfl) (w4 yf)) (yj (uv PassesOwn.never rfl (yjq rfl T.z_range (yc yg (yc yg yf (ya rfl)) (ya rfl))) (vz (i:=6) yai.nd rfl (Or.inl rfl)) (yj (yb4 (wo (PW.pt (ylm (yz zl (yq wt (pv 4) yg) yg (vd _)) (yfx (yz yaf (yp yr rfl T.z_len (by decide +kernel) (yc (pv 5) yf (ya rfl))) yg (vd _))))) (yh (y9 (yal PySem.F.plainAttrs_list PySem.F.slot_list_append PySem.F.type_list_append wn (pv 5) (yc (pv 6) yf (ya rfl))))) ve)) (yh (y6 (i:=4) yai.nd rfl (Or.inl rfl) (yq vf (pv 4) yg))))) (yh (y9 (yal PySem.F.plainAttrs_list PySem.F.slot_list_append PySem.F.type_list_append wn (pv 2) (yc (yhg (yc (wz vw (w4 (yc x9 (yc x9 (yc x9 yf (ya rfl)) (ya rfl)) (ya rfl))) (yq wt (pv 0) yg) (fun _ _=>rfl)) (yc (xa jj rfl T.z_tuple (by decide +kernel) (yc (pv 5) yf (ya rfl))) yf (ya rfl)) (ya rfl))) yf (ya rfl)))))))))) ?_
  refine ⟨_,(yh (yw (pv 2))),?_⟩
  try dsimp only [wa]
  refine yo (σ':=[some _,some _,none,none,none,none,none]) rfl ?_
  walk_at "rd"
  refine ⟨by walk_at "len",fun L hL0=>?_⟩
  with_reducible first | refine y8 hL0 fun H1 S1 hL1=>?_ | refine new_obj hL0 fun H1 S1 hL1=>?_
  walk_at "rd"
  obtain ⟨n,hn,n1,n6⟩:∃ n:Nat,1+c % 4=(n:Int)/\1 <= n/\n <= 6:=⟨(1+c % 4).toNat,by omega,by omega,by omega⟩
  rw [hn]
  refine ⟨_,rfl,by omega,by omega,zt (n:=n) (fun i σ2 G=>∃ (c:Int) (v1 v2 v3 v4:Option V) (lk:Nat->Addr) (kd:Nat->Fin 3) (tp:Nat->Addr) (ps:Nat->List Int),σ2=[some (.int c),some (.int 4),some (.ref L),v1,v2,v3,v4]/\0 <= c/\c < 1000000000000000/\G L=some (.lst (refs lk i))/\jz G i lk kd tp ps/\vh H G)
   ⟨c,_,_,_,_,fun _=>0,fun _=>0,fun _=>0,fun _=>[],rfl,c0,c1,hL1,fun j hj=>absurd hj (Nat.not_lt_zero j),S1⟩ ?_ ?_⟩
  ·clear hn c0 c1 c
   rintro i σ2 G hi ⟨c,v1,v2,v3,v4,lk,kd,tp,ps,rfl,c0,c1,gL,gR,SG⟩
   walk_at "rd"
   have d0:0 <= (c * c+7 * c+13 * (0+(i:Int))+5) * 48271 % 2147483647:=Int.emod_nonneg _ (by decide)
   have d1:(c * c+7 * c+13 * (0+(i:Int))+5) * 48271 % 2147483647 < 2147483647:=Int.emod_lt_of_pos _ (by decide)
   generalize (c * c+7 * c+13 * (0+(i:Int))+5) * 48271 % 2147483647=d at d0 d1 ⊢
   refine ⟨by walk_at "len",fun u hu=>?_⟩
   generalize d / 3 % 256=e1
   generalize d / 3 % 8=e2
   with_reducible first | refine y8 hu fun G1 T1 hu1=>?_ | refine new_obj hu fun G1 T1 hu1=>?_
   walk_at "rd"
   obtain ⟨v,hv,ha⟩:=ydg (xs:=[V.int 1,V.int e1,V.int 0,V.int e2,V.int 2,V.int e1]) (i:=d / 768 % 6) (Int.emod_nonneg _ (by decide)) (by show _ < (6:Int); exact Int.emod_lt_of_pos _ (by decide))
   refine xt (SqL.of hu1) ha ?_
   obtain ⟨bt,rfl⟩:∃ bt,v=V.int bt:=by
    simp only [List.mem_cons,List.not_mem_nil,or_false] at hv
    rcases hv with rfl | rfl | rfl | rfl | rfl | rfl <;> exact ⟨_,rfl⟩
   walk_at "rd"
   refine ⟨by walk_at "len",fun q hq=>?_⟩
   with_reducible first | refine y8 hq fun G2 T2 hq2=>?_ | refine new_obj hq fun G2 T2 hq2=>?_
   have T02:=T1.trans T2
   have nqL:q≠L:=(ye (T1 _ _ gL) hq).symm
   walk_at "rd"
   refine ⟨1,9,rfl,⟨by decide,by decide,by decide,by decide⟩,zt (lo:=1) (n:=8) (fun j σ2 G'=>∃ (bt:Int) (qs:List Int) (v:Option V),σ2=[some (.int d),some (.int 4),some (.ref L),some (.int (0+(i:Int))),some (.int bt),some (.ref q),v]/\G' q=some (.lst (qs.map V.int))/\(∀ p∈qs,1 <= p/\p <= (j:Int))/\qs.Pairwise (· < ·)/\qs.length <= 4/\vh G G')
    ⟨bt,[],_,rfl,hq2,fun _ z=>(nomatch z),List.Pairwise.nil,by decide,T02⟩ ?_ ?_⟩
   ·rintro j σ3 G3 hj ⟨bt,qs,v,rfl,hq3,hp,hw,hl,S3⟩
    walk_at "rd"
    refine yip (fun σ' G'=>∃ qs':List Int,σ'=[some (.int d),some (.int 4),some (.ref L),some (.int (0+(i:Int))),some (.int bt),some (.ref q),some (.int (1+(j:Int)))]/\G' q=some (.lst (qs'.map V.int))/\(∀ p∈qs',1 <= p/\p <= ((j+1:Nat):Int))/\qs'.Pairwise (· < ·)/\qs'.length <= 4/\vh G G') ?_ ?_
    ·walk_at "rd"
     refine zn (fun hb=>?_) (fun hb=>?_)
     ·walk_at "rd"
      refine uc (SqL.of hq3) ?_
      rw [List.length_map]
      walk_at "rd"
      refine zn (fun hc=>?_) (fun hc=>?_)
      ·walk_at "rd"
       refine yab hq3 ?_
       walk_at "rd"
       refine xn hq3 (vq (by rw [List.length_map]; omega)) ?_
       walk_at "rd"
       refine ⟨qs++[1+(j:Int)],rfl,by rw [yd,List.map_append]; rfl,fun p hpm=>?_,?_,by rw [List.length_append]; show _+1 <= 4; omega,fun b o e=>ym (ye (T1 _ _ e) hq) (S3 b o e)⟩
       ·rcases List.mem_append.mp hpm with h | h
        ·have:=hp p h
         omega
        ·rw [List.mem_singleton.mp h]
         omega
       ·refine List.pairwise_append.mpr ⟨hw,List.pairwise_singleton _ _,fun x hx y hy=>?_⟩
        rw [List.mem_singleton.mp hy]
        have:=hp x hx
        omega
      ·walk_at "rd"
       exact ⟨qs,rfl,hq3,fun p h=>by have:=hp p h; omega,hw,hl,S3⟩
     ·walk_at "rd"
      exact ⟨qs,rfl,hq3,fun p h=>by have:=hp p h; omega,hw,hl,S3⟩
    ·rintro σ' G' ⟨qs',rfl,g1,g2,g3,g4,g5⟩
     walk_at "rd"
     exact ⟨_,qs',_,rfl,g1,g2,g3,g4,g5⟩
   ·rintro σ3 G3 ⟨bt,qs,v,rfl,hq3,hp,hw,hl,S3⟩
    have gL3:=S3 _ _ gL
    walk_at "rd"
    refine yab gL3 ?_
    walk_at "rd"
    refine ⟨by walk_at "len",fun q2 hq2=>?_⟩
    with_reducible first | refine y8 hq2 fun G4 T4 hq4=>?_ | refine new_obj hq2 fun G4 T4 hq4=>?_
    walk_at "rd"
    obtain ⟨kk,hk⟩:=yqa d
    refine xt (SqL.of hq4) hk ?_
    walk_at "rd"
    refine ⟨q,_,rfl,.inl ⟨SqL.of (T4 _ _ hq3),fun tp' htp=>?_⟩⟩
    with_reducible first | refine y8 htp fun G5 T5 htp5=>?_ | refine new_obj htp fun G5 T5 htp5=>?_
    walk_at "rd"
    refine ⟨by walk_at "len",fun t ht=>?_⟩
    with_reducible first | refine y8 ht fun G6 T6 ht6=>?_ | refine new_obj ht fun G6 T6 ht6=>?_
    have T36:=T4.trans (T5.trans T6)
    have gL6:=T36 _ _ gL3
    have S06:=S3.trans T36
    walk_at "rd"
    refine xn gL6 (vq (by rw [vt]; omega)) ?_
    have g6:LkG G6 (.ref t) kk tp' qs:=⟨t,rfl,ht6,T6 _ _ htp5,yjs hl hp hw⟩
    walk_at "rd"
    refine ⟨d,_,_,_,_,upN lk i t,upN kd i kk,upN tp i tp',upN ps i qs,rfl,d0,by omega,?_,fun j hj=>?_,fun b o e=>ym (ye e hL0) (S06 _ _ (SG b o e))⟩
    ·rw [yd,ue,wg]
     congr 3
     exact xw fun j hj=>(wb hj).symm
    ·by_cases z:j=i
     ·subst z
      rw [wg,wg,wg,wg]
      exact g6.upd gL6
     ·have hji:j < i:=by omega
      rw [wb hji,wb hji,wb hji,wb hji]
      exact ((gR j hji).same S06).upd gL6
  ·rintro σ2 G ⟨c,v1,v2,v3,v4,lk,kd,tp,ps,rfl,c0,c1,gL,gR,SG⟩
   walk_at "rd"
   exact k L n lk kd tp ps G hL0 gL n1 n6 gR SG
theorem yp1:yn ["_law_cells","_law_cell","_law_few"] ["_law_cells","_law_cell"] (yi ytf):=⟨rfl,rfl,rfl,by decide +kernel,rfl,by decide +kernel,by decide +kernel⟩
def yh6 (K:W.Frag):Sp:=fun vs H Q _=>∃ (l:Addr) (ns:List Int) (c:Int),vs=[.ref l,.int c]/\H l=some (.lst (ns.map V.int))/\ns.length <= 1000/\∀ r (ts:List Int) H',H r=none->H' r=some (.lst (ts.map V.int))->Sgs ts->ts.length=ns.length->vh H H'->Q (.ref r) H'
theorem yow (T:Txt K mg a):wc P w K mg base CX0 1 a.f_q71 a.d_q71 ["_law_cells","_law_cell"] (yh6 K):=by
 refine T.y_q71.F.ok yp1 (fun vs H Q E h=>?_) (fun cdv A outer s H vs Q E hr h=>?_)
 ·obtain ⟨l,ns,c,rfl,_⟩:=h
  rfl
 ·obtain ⟨l,ns,c,rfl,hl,hz,k⟩:=h
  refine ⟨_,(yj (wo (yz zl (yq wt (pv 1) yg) yg (vd _)) (yh (yw (uh rfl (v8 (pv 0)) (fun C s2 H2 fp=>(yq wt (pv 0) yg))))) ve) (yj (y6 (i:=2) yp1.nd rfl (Or.inr rfl) (w4 (yc (yq wt (yq vf (pv 1) yg) yg) (yc (yq wt (yq vf (pv 1) yg) yg) (yc (wz vw (w4 (yc yg (yc yg (yc yg (yc yg yf (ya rfl)) (ya rfl)) (ya rfl)) (ya rfl))) (yq wt (yq vf (pv 1) yg) yg) (fun _ _=>rfl)) yf (ya rfl)) (ya rfl)) (ya rfl)))) (yh (yw (ur (js:=[2,1]) (ys:=["_law_few","_law_cell"]) rfl (v8 (pv 0)) (fun C s2 H2 fp=>(wz (r:=yzm K) vw (pv 1) (yq wt (pv 0) (yq v6 yg (yq wt (pv 2) yg))) (fun _ _=>rfl))) rfl rfl (hyc:=(all_cons rfl (all_cons rfl vy))) (hrel:=(all_cons rfl (all_cons rfl vy)))))))),?_⟩
  try dsimp only [wa]
  refine yo (σ':=[some _,some _,none]) rfl ?_
  walk_at "rd"
  refine zn (fun hb=>?_) (fun hb=>?_)
  ·walk_at "rd"
   refine ⟨l,rfl,⟨_,SqL.of hl⟩,fun D hD=>?_⟩
   refine ybw (onI (· % 256)) (SqL.of hl) hD (fun i y H2 hy S2 hD2=>?_) (fun H2 S2 hD2=>?_)
   ·obtain ⟨p,rfl,_,_,_⟩:=x8 hy
    walk_at "rd"
    exact Mp.done hD (vq (by rw [List.length_map]; omega)) hy S2 hD2 rfl
   ·rw [ydf] at hD2
    refine k D _ H2 hD hD2 (fun x hx=>?_) (by rw [List.length_map]) S2
    obtain ⟨y,_,rfl⟩:=List.mem_map.mp hx
    exact ⟨Int.emod_nonneg _ (by decide),by have:=Int.emod_lt_of_pos y (show (0:Int) < 256 by decide); omega⟩
  ·walk_at "rd"
   refine ⟨by walk_at "len",fun q hq=>?_⟩
   with_reducible first | refine y8 hq fun H1 S1 hq1=>?_ | refine new_obj hq fun H1 S1 hq1=>?_
   walk_at "rd"
   obtain ⟨v,hv,ha⟩:=ydg (xs:=[V.int 0,V.int 255,V.int 1,V.int 128]) (i:=c / 196608 % 4) (Int.emod_nonneg _ (by decide)) (by show _ < (4:Int); exact Int.emod_lt_of_pos _ (by decide))
   refine xt (SqL.of hq1) ha ?_
   obtain ⟨sg,rfl,s0,s1⟩:∃ sg,v=V.int sg/\0 <= sg/\sg <= 255:=by
    simp only [List.mem_cons,List.not_mem_nil,or_false] at hv
    rcases hv with rfl | rfl | rfl | rfl <;> exact ⟨_,rfl,by decide,by decide⟩
   walk_at "rd"
   refine ⟨by walk_at "len",fun f hf=>?_⟩
   have f0:0 <= c / 3 % 256/\c / 3 % 256 <= 255:=by omega
   have f1:0 <= c / 768 % 256/\c / 768 % 256 <= 255:=by omega
   generalize c / 3 % 256=w1 at f0
   generalize c / 768 % 256=w2 at f1
   with_reducible first | refine y8 hf fun H2 S2 hf2=>?_ | refine new_obj hf fun H2 S2 hf2=>?_
   have S12:=S1.trans S2
   have hc3:0 <= c % 3/\c % 3 < 3:=by omega
   walk_at "rd"
   refine ⟨l,rfl,⟨_,SqL.of (S12 _ _ hl)⟩,fun D hD=>?_⟩
   refine j4 (K:=K) (xs:=ns.map V.int) (fun i G=>∃ ts:List Int,G D=some (.lst (ts.map V.int))/\Sgs ts/\ts.length=i/\vh H2 G) ⟨[],yd,fun _ z=>(nomatch z),rfl,vj hD⟩ (fun i G _ ⟨_,_,_,_,S⟩=>SqL.of (S _ _ (S12 _ _ hl))) (fun i y G hy hi z=>?_) (fun G z=>?_)
   ·obtain ⟨ts,h1,h2,h3,S⟩:=z
    obtain ⟨x,rfl,_,_,_⟩:=x8 hy
    have p3:(0:Int) < 1+c % 3:=by omega
    walk_at "rd"
    have x0:0 <= x % (1+c % 3):=Int.emod_nonneg _ (by omega)
    have x1:x % (1+c % 3) < 1+c % 3:=Int.emod_lt_of_pos _ p3
    obtain ⟨v,hv,ha⟩:=ydg (xs:=[V.int w1,V.int w2,V.int sg]) (i:=x % (1+c % 3)) x0 (by show _ < (3:Int); omega)
    refine xt (SqL.of (S _ _ hf2)) ha ?_
    obtain ⟨t,rfl,t0,t1⟩:∃ t,v=V.int t/\0 <= t/\t <= 255:=by
     simp only [List.mem_cons,List.not_mem_nil,or_false] at hv
     rcases hv with rfl | rfl | rfl
     ·exact ⟨_,rfl,f0⟩
     ·exact ⟨_,rfl,f1⟩
     ·exact ⟨_,rfl,s0,s1⟩
    refine w9 (n:=(ns.map V.int).length) h1 (vq (by rw [List.length_map,h3]; rw [List.length_map] at hi; omega)) hi ?_
    refine ⟨ts++[t],by rw [yd,List.map_append]; rfl,fun y hy=>?_,by rw [List.length_append,h3]; rfl,fun b o e=>ym (ye e hD) (S b o e)⟩
    rcases List.mem_append.mp hy with h | h
    ·exact h2 y h
    ·rw [List.mem_singleton.mp h]
     exact ⟨t0,t1⟩
   ·obtain ⟨ts,h1,h2,h3,S⟩:=z
    rw [List.length_map] at h3
    exact k D ts G (S12.free hD) h1 h2 h3 (S12.trans S)
theorem yu8:yn ["_law_found"] ["_law_found"] (yi ytx):=⟨rfl,rfl,rfl,by decide +kernel,rfl,by decide +kernel,by decide +kernel⟩
theorem yg7 (T:Txt K mg a):wc P w K mg base CX0 1 a.f_q72 a.d_q72 ["_law_found"] (yd4 K):=by
 refine T.y_q72.F.ok yu8 (fun vs H Q E h=>?_) (fun cdv A outer s H vs Q E hr h=>?_)
 ·obtain ⟨x,n,rfl,_⟩:=h
  rfl
 ·obtain ⟨x,n,rfl,ty,k⟩:=h
  refine ⟨_,(yh (yw (ut (yp vg rfl T.z_isinstance (by decide +kernel) (yc (pv 0) (yc (xu (T:="int") rfl T.z_int (by decide +kernel)) yf (ya rfl)) (ya rfl))) (zy (yp3 (yp vg rfl T.z_isinstance (by decide +kernel) (yc (pv 0) (yc (xu (T:="bool") rfl T.z_bool (by decide +kernel)) yf (ya rfl)) (ya rfl)))))))),?_⟩
  try dsimp only [wa]
  refine yo (σ':=[some _]) rfl ?_
  walk_at "rd"
  refine zg ty (yk2 ty) ?_
  walk_at "rd"
  cases hx:ylp x with
  | false =>
   have e:zk x=false:=by
    cases x <;> first | rfl | cases hx
   rw [e] at k
   exact ymc k
  | true =>
   have e:zk x=!yf2 x:=by
    cases x <;> first | rfl | cases hx
   rw [e] at k
   refine ymf ?_
   walk_at "rd"
   refine zg ty (ygu ty) ?_
   walk_at "rd"
   exact k
theorem yww:yn ["_law_found","_law_signs"] ["_law_found","_law_signs"] (yi ys2):=⟨rfl,rfl,rfl,by decide +kernel,rfl,by decide +kernel,by decide +kernel⟩
def yms (K:W.Frag):Sp:=fun vs H Q _=>∃ (f g:Addr) (ns:List Int),vs=[.ref f,.ref g]/\H f=some (.lst (ns.map V.int))/\H g=some (.lst (ns.map V.int))/\vbq ns/\Q (.bl true) H
theorem ylb (T:Txt K mg a):wc P w K mg base CX0 2 a.f_q73 a.d_q73 ["_law_found","_law_signs"] (yms K):=by
 refine T.y_q73.F.ok yww (fun vs H Q E h=>?_) (fun cdv A outer s H vs Q E hr h=>?_)
 ·obtain ⟨f,g,ns,rfl,_⟩:=h
  rfl
 ·obtain ⟨f,g,ns,rfl,hf,hg,hb,k⟩:=h
  refine ⟨_,(yh (yw (ut (yv (ypw T) (hr.mono (by decide)) rfl T.y_q69.m T.y_q69.F.kp T.y_q69.B .nil y7 (yc (pv 0) yf (ya rfl))) (zy (zw (yxy hr.units) (pv 0) (pv 1) (vd _)))))),?_⟩
  try dsimp only [wa]
  refine yo (σ':=[some _,some _]) rfl ?_
  walk_at "rd"
  refine ⟨f,ns,rfl,hf,hb,?_⟩
  walk_at "rd"
  refine yny ns ns (SqL.of hf) (SqL.of hg) ?_
  rw [decide_eq_true rfl]
  exact k
theorem yqw (s:Int) {i:Nat} (hi:i < 8):(b8 s).take (i+1)=(b8 s).take i++[s / wB i % 2]:=by
 rcases i with _ | _ | _ | _ | _ | _ | _ | _ | i
 ·rfl
 ·rfl
 ·rfl
 ·rfl
 ·rfl
 ·rfl
 ·rfl
 ·rfl
 ·omega
theorem yqj {i:Nat} (hi:i+1 < 8):wB i / 2=wB (i+1):=by
 rcases i with _ | _ | _ | _ | _ | _ | _ | i
 ·rfl
 ·rfl
 ·rfl
 ·rfl
 ·rfl
 ·rfl
 ·rfl
 ·omega
theorem yuq {i:Nat} (hi:i < 8):0 < wB i:=by
 rcases i with _ | _ | _ | _ | _ | _ | _ | _ | i
 ·decide
 ·decide
 ·decide
 ·decide
 ·decide
 ·decide
 ·decide
 ·decide
 ·omega
theorem ymp {c b:Int} (h0:0 <= b) (h1:b <= 1):atI [V.int (16777216 - c),V.int c] b=some (V.int (giv c b)):=by
 obtain rfl | rfl:b=0\/b=1:=by omega
 ·rfl
 ·rfl
theorem yfs (xs:List Int) (y:Int):xs.map V.int++[V.int y]=(xs++[y]).map V.int:=by rw [List.map_append]; rfl
theorem zx:yn ["_law_rows","_law_text_here","_law_due","_law_sign","_law_part","_law_k","_law_given_here","_law_chance","_law_bit"] ["_law_rows","_law_text_here"] (yi ysz):=⟨rfl,rfl,rfl,by decide +kernel,rfl,by decide +kernel,by decide +kernel⟩
def yj5 (K:W.Frag):Sp:=fun vs H Q _=>∃ (r tx:Addr) (ts:List Int) (tu:Nat->Addr) (mx:Nat->Int),vs=[.ref r,.ref tx]/\H r=some (.lst (refs tu (dec ts).length))/\(∀ j,j < (dec ts).length->H (tu j)=some (.tup [.int (mx j),.int (vi ts j)])/\Ch (mx j))/\ybr H tx ts 1000/\∀ H',vh H H'->Q (.int (yac mx (vi ts) (dec ts).length)) H'
theorem ywy (T:Txt K mg a):wc P w K mg base CX0 2 a.f_q74 a.d_q74 ["_law_rows","_law_text_here"] (yj5 K):=by
 refine T.y_q74.F.ok zx (fun vs H Q E h=>?_) (fun cdv A outer s H vs Q E hr h=>?_)
 ·obtain ⟨r,tx,ts,tu,mx,rfl,_⟩:=h
  rfl
 ·obtain ⟨r,tx,ts,tu,mx,rfl,hr',htu,htx,k⟩:=h
  have hz:=htx.z
  have hdl:=ug ts
  refine yk (y6 (i:=2) zx.nd rfl (Or.inl rfl) (w4 yf)) ?_
  refine yk (uv PassesOwn.never rfl (v8 (pv 1)) (vz (i:=3) zx.nd rfl (Or.inl rfl)) (yj (y9 (yal PySem.F.plainAttrs_list PySem.F.slot_list_append PySem.F.type_list_append wn (pv 2) (yc yg yf (ya rfl)))) (yj (y6 (i:=4) zx.nd rfl (Or.inl rfl) yg) (yh (uv PassesOwn.never rfl (u4 rfl T.z_range (yc yg yf (ya rfl))) (vz (i:=5) zx.nd rfl (Or.inl rfl)) (yj (y9 (yal PySem.F.plainAttrs_list PySem.F.slot_list_append PySem.F.type_list_append wn (pv 2) (yc (yq wt (yq vf (pv 3) (pv 4)) yg) yf (ya rfl)))) (yh (y6 (i:=4) zx.nd rfl (Or.inl rfl) (yq vf (pv 4) yg))))))))) ?_
  refine yk (y9 (yal PySem.F.plainAttrs_list PySem.F.slot_list_append PySem.F.type_list_append wn (pv 2) (yc yg yf (ya rfl)))) ?_
  refine yk (wo (PW.pt (uk (wd (wq (yp vg rfl T.z_isinstance (by decide +kernel) (yc (pv 0) (yc (xu (T:="list") rfl T.z_list (by decide +kernel)) yf (ya rfl)) (ya rfl))))) (u5 (yz yl4 (yp yr rfl T.z_len (by decide +kernel) (yc (pv 0) yf (ya rfl))) (yp yr rfl T.z_len (by decide +kernel) (yc (pv 2) yf (ya rfl))) (vd _))))) (yh (yw yg)) ve) ?_
  refine yk (y6 (i:=6) zx.nd rfl (Or.inl rfl) yg) ?_
  refine yk (uv PassesOwn.never rfl (u4 rfl T.z_range (yc (yp yr rfl T.z_len (by decide +kernel) (yc (pv 2) yf (ya rfl))) yf (ya rfl))) (vz (i:=5) zx.nd rfl (Or.inl rfl)) (yj (wo (PW.pt (uk (wd (wq (yp vg rfl T.z_isinstance (by decide +kernel) (yc (wz vw (pv 0) (pv 5) (fun _ _=>rfl)) (yc (xu (T:="tuple") rfl T.z_tuple (by decide +kernel)) yf (ya rfl)) (ya rfl))))) (u5 (yz yl4 (yp yr rfl T.z_len (by decide +kernel) (yc (wz vw (pv 0) (pv 5) (fun _ _=>rfl)) yf (ya rfl))) yg (vd _))))) (yh (yw yg)) ve) (yj (ywb (wz vw (pv 0) (pv 5) (fun _ _=>rfl)) (yb8 rfl (w6 (vz (i:=7) zx.nd rfl (Or.inl rfl)) (w6 (vz (i:=8) zx.nd rfl (Or.inl rfl)) j9)))) (yj (wo (PW.pt (uk (wd (wq (yv (yg7 T) (hr.mono (by decide)) rfl T.y_q72.m T.y_q72.F.kp T.y_q72.B .nil y7 (yc (pv 7) yf (ya rfl))))) (uk (wd (jv uo uo yg (pv 7) yg)) (uk (wd (wq (yv (yg7 T) (hr.mono (by decide)) rfl T.y_q72.m T.y_q72.F.kp T.y_q72.B .nil y7 (yc (pv 8) yf (ya rfl))))) (u5 (yz yl4 (pv 8) (wz vw (pv 2) (pv 5) (fun _ _=>rfl)) (vd _))))))) (yh (yw yg)) ve) (yh (y6 (i:=6) zx.nd rfl (Or.inl rfl) (yq wj (pv 6) (wz vw (w4 (yc (yq uw yg (pv 7)) (yc (pv 7) yf (ya rfl)) (ya rfl))) (pv 8) (fun _ _=>rfl))))))))) ?_
  refine ⟨_,(yh (yw (pv 6))),?_⟩
  try dsimp only [wa]
  refine yo (σ':=[some _,some _,none,none,none,none,none,none,none]) rfl ?_
  walk_at "rd"
  refine ⟨by walk_at "len",fun D hD0=>?_⟩
  with_reducible first | refine y8 hD0 fun H1 S1 hD1=>?_ | refine new_obj hD0 fun H1 S1 hD1=>?_
  walk_at "rd"
  refine ⟨tx,rfl,⟨_,SqL.of (S1 _ _ htx.l)⟩,ua (K:=K) (a:=tx) (xs:=ts.map V.int) (fun j σ2 G=>∃ (v1 v2 v3:Option V),σ2=[some (.ref r),some (.ref tx),some (.ref D),v1,v2,v3,none,none,none]/\G D=some (.lst ((yak (ts.take j)).map V.int))/\vh H G)
   ⟨_,_,_,rfl,hD1,S1⟩ (fun j σ2 G _ ⟨_,_,_,_,_,S⟩=>SqL.of (S _ _ htx.l)) ?_ ?_⟩
  ·rintro j y σ2 G hy ⟨v1,v2,v3,rfl,gD,SG⟩
   obtain ⟨s',rfl,_,hsj,hj⟩:=x8 hy
   have hdl0:(yak (ts.take j)).length <= 9000:=by rw [uq,List.length_take]; omega
   walk_at "rd"
   refine yab gD ?_
   walk_at "rd"
   refine xn gD (vq (by rw [List.length_map]; omega)) ?_
   rw [yfs]
   have SG1:vh H (upd G D (.lst ((yak (ts.take j)++[1]).map V.int))):=fun b o e=>ym (ye e hD0) (SG b o e)
   have gD1:upd G D (.lst ((yak (ts.take j)++[1]).map V.int)) D=some (.lst ((yak (ts.take j)++[1]).map V.int)):=yd
   generalize upd G D (.lst ((yak (ts.take j)++[1]).map V.int))=G1 at SG1 gD1 ⊢
   walk_at "rd"
   refine ⟨_,rfl,by decide,by decide,zt (n:=8) (fun i σ3 G'=>∃ (x:Int) (v3:Option V),σ3=[some (.ref r),some (.ref tx),some (.ref D),some (.int s'),some (.int x),v3,none,none,none]/\(i < 8->x=wB i)/\G' D=some (.lst ((yak (ts.take j)++[1]++(b8 s').take i).map V.int))/\vh H G')
    ⟨128,_,rfl,fun _=>rfl,by rw [List.take_zero,List.append_nil]; exact gD1,SG1⟩ ?_ ?_⟩
   ·rintro i σ3 G' hi ⟨x,v3,rfl,hx,gD',SG'⟩
    obtain rfl:=hx hi
    have wp:=yuq hi
    walk_at "rd"
    refine yab gD' ?_
    walk_at "rd"
    obtain ⟨_,wb1⟩:=yy6 i
    refine i_I ⟨wp,by omega⟩ ?_
    walk_at "rd"
    refine xn gD' (vq (by rw [List.length_map,List.length_append,List.length_append,List.length_take]; show _+1+_ <= _; omega)) ?_
    have e9:yak (ts.take j)++[1]++(b8 s').take i++[s' / wB i % 2]=yak (ts.take j)++[1]++(b8 s').take (i+1):=by rw [yqw s' hi,List.append_assoc (yak (ts.take j)++[1])]
    rw [yfs,e9]
    walk_at "rd"
    exact ⟨_,_,rfl,fun h=>yqj h,yd,fun b o e=>ym (ye e hD0) (SG' b o e)⟩
   ·rintro σ3 G' ⟨x,v3,rfl,_,gD',SG'⟩
    walk_at "rd"
    refine ⟨_,_,_,rfl,?_,SG'⟩
    rw [gD',z0 hsj,ybc,List.append_assoc]
    rfl
  ·rintro σ2 G ⟨v1,v2,v3,rfl,gD,SG⟩
   rw [List.length_map,List.take_length] at gD
   walk_at "rd"
   refine yab gD ?_
   walk_at "rd"
   refine xn gD (vq (by rw [List.length_map,uq]; omega)) ?_
   rw [yfs,<- yl7]
   have SG1:vh H (upd G D (.lst ((dec ts).map V.int))):=fun b o e=>ym (ye e hD0) (SG b o e)
   have gD1:upd G D (.lst ((dec ts).map V.int)) D=some (.lst ((dec ts).map V.int)):=yd
   generalize upd G D (.lst ((dec ts).map V.int))=G1 at SG1 gD1 ⊢
   walk_at "rd"
   refine zg (.lst (SG1 _ _ hr')) (z8 _ _) ?_
   walk_at "rd"
   refine uc (SqL.of (SG1 _ _ hr')) ?_
   rw [vt]
   walk_at "rd"
   refine uc (SqL.of gD1) ?_
   rw [List.length_map]
   walk_at "rd"
   refine ytq ?_
   walk_at "rd"
   refine uc (SqL.of gD1) ?_
   rw [List.length_map]
   walk_at "rd"
   refine ⟨_,rfl,by omega,by omega,zt (n:=(dec ts).length) (fun i σ2 G'=>∃ (v3 v4 v5:Option V),σ2=[some (.ref r),some (.ref tx),some (.ref D),v1,v2,v3,some (.int (yac mx (vi ts) i)),v4,v5]/\vh G1 G') ⟨_,_,_,rfl,vh.refl _⟩ ?_ ?_⟩
   ·rintro i σ2 G' hi ⟨v3,v4,v5,rfl,S'⟩
    obtain ⟨hti,hch⟩:=htu i hi
    obtain ⟨b0,b1⟩:=yc4 ts i hi
    obtain ⟨q0,q1⟩:=hch
    have e0:(0:Int)+(i:Int)=(i:Int):=Int.zero_add _
    rw [e0]
    have hrG:=S' _ _ (SG1 _ _ hr')
    have htG:=S' _ _ (SG1 _ _ hti)
    have hat:atI (refs tu (dec ts).length) (i:Int)=some (V.ref (tu i)):=vv (by unfold refs; rw [List.getElem?_map,List.getElem?_range hi]; rfl)
    have hbt:atI ((dec ts).map V.int) (i:Int)=some (V.int (vi ts i)):=vv (by rw [List.getElem?_map]; unfold vi; rw [List.getElem?_eq_getElem hi]; rfl)
    have hgp:=ymp (c:=mx i) b0 b1
    have gl:=yhi (b:=vi ts i) q0 q1
    have gh:=yli (b:=vi ts i) q0 q1
    walk_at "rd"
    refine xt (SqL.of hrG) hat ?_
    walk_at "rd"
    refine zg (.tup htG) (z8 _ _) ?_
    walk_at "rd"
    refine xt (SqL.of hrG) hat ?_
    walk_at "rd"
    refine yg3 (SqT.of htG) ?_
    walk_at "rd"
    refine yer (show ((2:Nat):Int)=2 from rfl) ?_
    walk_at "rd"
    refine xt (SqL.of hrG) hat ?_
    refine yb6 (SqT.of htG) rfl ?_
    walk_at "rd"
    refine yg5 ?_
    walk_at "rd"
    refine ybn q0 ?_
    walk_at "rd"
    refine yer q1 ?_
    walk_at "rd"
    refine yg5 ?_
    walk_at "rd"
    refine xt (SqL.of (S' _ _ gD1)) hbt ?_
    walk_at "rd"
    refine ytq ?_
    walk_at "rd"
    refine ⟨by walk_at "len",fun u hu=>?_⟩
    with_reducible first | refine y8 hu fun G2 T2 hu2=>?_ | refine new_obj hu fun G2 T2 hu2=>?_
    walk_at "rd"
    refine xt (SqL.of hu2) hgp ?_
    refine i_I (.inr ⟨by omega,by omega⟩) ?_
    walk_at "rd"
    exact ⟨_,_,_,rfl,S'.trans T2⟩
   ·rintro σ2 G' ⟨v3,v4,v5,rfl,S'⟩
    walk_at "rd"
    exact k _ (SG1.trans S')
theorem ypq:∀ k:Nat,pw k=2 ^ (8 * k)
 | 0=>rfl
 | k+1=>by
  show pw k * 256=2 ^ (8 * k+8)
  rw [ypq k,Int.pow_add]
  rfl
theorem jk {G:Int} (h:1 <= G):2 ^ (Builtin.Int.intBits G - 1) <= G.toNat/\G.toNat < 2 ^ Builtin.Int.intBits G/\1 <= Builtin.Int.intBits G:=by
 have e:Builtin.Int.intBits G=G.natAbs.log2+1:=by
  show (if G == 0 then 0 else G.natAbs.log2+1)=_
  rw [if_neg (by simp; omega)]
 have e2:G.toNat=G.natAbs:=by omega
 rw [e,e2]
 refine ⟨?_,?_,by omega⟩
 ·rw [Nat.add_sub_cancel]
  exact Nat.log2_self_le (by omega)
 ·exact Nat.lt_log2_self
theorem yf3 {m:Nat} {G:Int} (h1:1 <= G) (h2:G <= 16777216 ^ m):Builtin.Int.intBits G <= 24 * m+1:=by
 obtain ⟨b1,b2,b3⟩:=jk h1
 have:=j6 h1 h2
 have e2:G.toNat=G.natAbs:=by omega
 rcases Nat.lt_or_ge (24 * m+1) (Builtin.Int.intBits G) with q | q
 ·exfalso
  have p:=Nat.pow_le_pow_right (n:=2) (by decide) (show 24 * m+1 <= Builtin.Int.intBits G - 1 by omega)
  omega
 ·exact q
theorem ykx {m i:Nat} {G:Int} (h1:1 <= G):((2 ^ i * G:Int) < 16777216 ^ m) ↔ i+Builtin.Int.intBits G <= 24 * m:=by
 obtain ⟨b1,b2,b3⟩:=jk h1
 obtain ⟨g,rfl⟩:∃ g:Nat,G=g:=⟨G.toNat,by omega⟩
 rw [Int.toNat_natCast] at b1 b2
 have e:(16777216:Int) ^ m=((2 ^ (24 * m):Nat):Int):=by
  rw [Nat.pow_mul]
  simp
 have e2:((2:Int) ^ i * (g:Int))=((2 ^ i * g:Nat):Int):=by simp
 rw [e,e2,Int.ofNat_lt]
 generalize Builtin.Int.intBits (g:Int)=L at b1 b2 b3
 constructor
 ·intro h
  rcases Nat.lt_or_ge (24 * m) (i+L) with q | q
  ·exfalso
   have p:=Nat.pow_le_pow_right (n:=2) (by decide) (show 24 * m <= i+(L - 1) by omega)
   rw [Nat.pow_add] at p
   have:=Nat.mul_le_mul_left (2 ^ i) b1
   omega
  ·exact q
 ·intro h
  have p:=Nat.pow_le_pow_right (n:=2) (by decide) h
  rw [Nat.pow_add] at p
  exact Nat.lt_of_lt_of_le (Nat.mul_lt_mul_of_pos_left b2 (Nat.pow_pos (by decide))) p
theorem yy8 {mx bt:Nat->Int}:∀ m:Nat,m < 100000->(∀ j,j < m->Ch (mx j))->yzi m (yac mx bt m) (16777216 ^ m) (snK mx bt m)
 | 0,_,_=>yzz
 | m+1,hm,hc=>by
  have ih:=yy8 (bt:=bt) m (by omega) fun j hj=>hc j (by omega)
  have ho:=(yah (bt:=bt) m fun j hj=>hc j (by omega)).1
  have e:=yjr (b:=bt m) (by omega) ho (hc m (by omega)) ih
  rw [Int.pow_succ]
  exact e
theorem yno {mx bt:Nat->Int} {m:Nat} (hm:m < 100000) (hc:∀ j,j < m->Ch (mx j)):yac mx bt m * 2 ^ (8 * (tL (snK mx bt m)).length) < 1024 * 16777216 ^ m:=by
 rw [<- ypq,ylk]
 exact yq4 (by omega) (yah m hc).1 (yy8 m hm hc)
theorem yih {G:Int} {m l:Nat} (h1:1 <= G) (h:G * 2 ^ (8 * l) < 1024 * 16777216 ^ m):8 * (l:Int) < yad m G+10:=by
 obtain ⟨b1,b2,b3⟩:=jk h1
 obtain ⟨g,rfl⟩:∃ g:Nat,G=g:=⟨G.toNat,by omega⟩
 rw [Int.toNat_natCast] at b1 b2
 have e:(1024:Int) * 16777216 ^ m=((2 ^ (24 * m+10):Nat):Int):=by
  rw [Nat.pow_add,Nat.pow_mul,Int.mul_comm]
  simp
 have e2:((g:Int) * 2 ^ (8 * l))=((g * 2 ^ (8 * l):Nat):Int):=by simp
 rw [e,e2,Int.ofNat_lt] at h
 unfold yad
 generalize Builtin.Int.intBits (g:Int)=B at b1 b2 b3
 have p:2 ^ (B - 1+8 * l) < 2 ^ (24 * m+10):=by
  rw [Nat.pow_add]
  exact Nat.lt_of_le_of_lt (Nat.mul_le_mul_right _ b1) h
 have:=(Nat.pow_lt_pow_iff_right (by decide:1 < 2)).mp p
 omega
theorem yw9 {G:Int} {m:Nat} (h1:1 <= G) (h2:G <= 16777216 ^ m):0 <= yad m G:=by
 have:=yf3 h1 h2
 unfold yad
 omega
theorem yml {G:Int} {m:Nat} (h1:1 <= G) (h2:G <= 16777216 ^ m):¬ G * 2 ^ (yad m G).toNat < 16777216 ^ m:=by
 have:=yf3 h1 h2
 rw [Int.mul_comm,ykx h1]
 unfold yad
 omega
theorem ynr {G:Int} {m:Nat} (h1:1 <= G) (h2:G <= 16777216 ^ m) (h:0 < yad m G):G * 2 ^ (yad m G - 1).toNat < 16777216 ^ m:=by
 have:=yf3 h1 h2
 rw [Int.mul_comm,ykx h1]
 unfold yad at h ⊢
 omega
theorem yb3:yn ["_law_looks_here","_law_text_here","_law_learned","_law_data","_law_given_here","_law_parts","_law_k","_law_bits"] ["_law_looks_here","_law_text_here","_law_learned","_law_data"] (yi ys6):=⟨rfl,rfl,rfl,by decide +kernel,rfl,by decide +kernel,by decide +kernel⟩
def yj7 (K:W.Frag):Sp:=fun vs H Q _=>∃ (L tx d:Addr) (lx:V) (n:Nat) (lk:Nat->Addr) (kd:Nat->Fin 3) (tp:Nat->Addr) (ps:Nat->List Int) (ts:List Int) (N w:Nat) (lt:Nat->Addr) (tt:Nat->List Int),vs=[.ref L,.ref tx,lx,.ref d]/\yma H L tx lx n lk kd tp ps ts N w lt tt/\H d=some (.lst ((yiz n kd ps (xg tt N) ts).map V.int))/\ts.length <= 300/\∀ H',vh H H'->Q (.bl true) H'
theorem ywn (T:Txt K mg a):wc P w K mg base CX0 11 a.f_q75 a.d_q75 ["_law_looks_here","_law_text_here","_law_learned","_law_data"] (yj7 K):=by
 refine T.y_q75.F.ok yb3 (fun vs H Q E h=>?_) (fun cdv A outer s H vs Q E hr h=>?_)
 ·obtain ⟨L,tx,d,lx,n,lk,kd,tp,ps,ts,N,w,lt,tt,rfl,_⟩:=h
  rfl
 ·obtain ⟨L,tx,d,lx,n,lk,kd,tp,ps,ts,N,w,lt,tt,rfl,tl,hd,hz,k⟩:=h
  have hdl:=ug ts
  have hol:=yc2 (kd:=kd) (ps:=ps) (ts:=ts) tl.n1 tl.n6 (zr tt N) (by omega)
  refine yk (y6 (i:=4) yb3.nd rfl (Or.inl rfl) (yv (ywy T) (hr.mono (by decide)) rfl T.y_q74.m T.y_q74.F.kp T.y_q74.B .nil y7 (yc (yv (ypx T) (hr.mono (by decide)) rfl T.m_q58 T.F_q58.kp T.B_q58 .nil y7 (yc (pv 0) (yc (pv 1) (yc (pv 2) yf (ya rfl)) (ya rfl)) (ya rfl))) (yc (pv 1) yf (ya rfl)) (ya rfl)))) ?_
  refine yk (y6 (i:=5) yb3.nd rfl (Or.inl rfl) yg) ?_
  refine yk (uv PassesOwn.never rfl (u4 rfl T.z_range (yc (yq v6 (yq wj yg (yp yr rfl T.z_len (by decide +kernel) (yc (pv 1) yf (ya rfl)))) yg) yf (ya rfl))) (vz (i:=6) yb3.nd rfl (Or.inl rfl)) (yh (y6 (i:=5) yb3.nd rfl (Or.inl rfl) (yq wj (pv 5) yg)))) ?_
  refine yk (y6 (i:=7) yb3.nd rfl (Or.inl rfl) (yv (yul T) (hr.mono (by decide)) rfl T.m_q59 T.F_q59.kp T.B_q59 .nil y7 (yc (pv 0) (yc (pv 1) (yc (pv 2) yf (ya rfl)) (ya rfl)) (ya rfl)))) ?_
  refine yk (wo (PW.pt (uk (yz uo (pv 4) yg (vd _)) (uk (wd (wq (yv (yg7 T) (hr.mono (by decide)) rfl T.y_q72.m T.y_q72.F.kp T.y_q72.B .nil y7 (yc (pv 7) yf (ya rfl))))) (u5 (yz yaf (pv 7) yg (vd _)))))) (yh (yw ybm)) ve) ?_
  refine yk (wo (PW.pt (uk (yz yaf (yq yf5 (pv 4) (pv 7)) (pv 5) (vd _)) (u5 (PW.pt (ylm (yz yn2 (pv 7) yg (vd _)) (yfx (yz yyt (yq yf5 (pv 4) (yq uw (pv 7) yg)) (pv 5) (vd _)))))))) (yh (yw ybm)) ve) ?_
  refine ⟨_,(yh (yw (ut (zw yaf (yq yf5 (pv 4) (yq wj yg (yp yr rfl T.z_len (by decide +kernel) (yc (pv 3) yf (ya rfl))))) (yq wj yg (pv 5)) (vd _)) (zy (zw yaf (yq wj yg (yp yr rfl T.z_len (by decide +kernel) (yc (pv 3) yf (ya rfl)))) (yq v6 (pv 7) yg) (vd _)))))),?_⟩
  try dsimp only [wa]
  refine yo (σ':=[some _,some _,some _,some _,none,none,none,none]) rfl ?_
  walk_at "rd"
  refine ⟨L,tx,lx,n,lk,kd,tp,ps,ts,N,w,lt,tt,rfl,tl,fun r tu H1 hP hok S1=>?_⟩
  have hch:∀ j,j < (dec ts).length->Ch (zh n kd ps (xg tt N) ts j):=fun j hj=>(hok j hj).1
  obtain ⟨g1,g2⟩:=yc6 (bt:=vi ts) (dec ts).length hch
  have hcp:=yno (bt:=vi ts) (m:=(dec ts).length) (by omega) hch
  have hcp:yac (zh n kd ps (xg tt N) ts) (vi ts) (dec ts).length * 2 ^ (8 * (yiz n kd ps (xg tt N) ts).length) < 1024 * 16777216 ^ (dec ts).length:=hcp
  generalize yiz n kd ps (xg tt N) ts=out at hd hol hcp
  walk_at "rd"
  refine ⟨r,tx,ts,tu,_,rfl,hP.r,fun j hj=>⟨hP.t j hj,hch j hj⟩,⟨S1 _ _ tl.t.l,tl.t.s,by omega⟩,fun H2 S2=>?_⟩
  have S12:=S1.trans S2
  generalize hG:yac (zh n kd ps (xg tt N) ts) (vi ts) (dec ts).length=G at g1 g2 hcp
  have hGn:G.natAbs < 2 ^ (24 * (dec ts).length+1):=j6 g1 g2
  walk_at "rd"
  refine uc (SqL.of (S12 _ _ tl.t.l)) ?_
  rw [List.length_map]
  walk_at "rd"
  rw [show 9 * (ts.length:Int)+1=(((dec ts).length:Nat):Int) by omega]
  refine ⟨_,rfl,by omega,by omega,zt (n:=(dec ts).length) (fun i σ2 G'=>∃ v:Option V,σ2=[some (.ref L),some (.ref tx),some lx,some (.ref d),some (.int G),some (.int (16777216 ^ i)),v,none]/\H2=G') ⟨_,rfl,rfl⟩ ?_ ?_⟩
  ·rintro i σ2 G' hi ⟨v,rfl,rfl⟩
   walk_at "rd"
   exact ⟨_,by rw [Int.pow_succ],rfl⟩
  ·rintro σ2 G' ⟨v,rfl,rfl⟩
   walk_at "rd"
   refine ⟨L,tx,lx,n,lk,kd,tp,ps,ts,N,w,lt,tt,rfl,tl.same S12,fun H3 S3=>?_⟩
   rw [hG]
   have S13:=S12.trans S3
   have c0:=yw9 g1 g2
   have c1:=yml g1 g2
   have c2:=ynr g1 g2
   have c3:=yih g1 hcp
   have c4:yad (dec ts).length G <= 24 * ((dec ts).length:Int):=by
    obtain ⟨_,_,b3⟩:=jk g1
    unfold yad
    omega
   generalize yad (dec ts).length G=B at c0 c1 c2 c3 c4
   generalize hW:(16777216:Int) ^ (dec ts).length=W at c1 c2 hcp g2
   walk_at "rd"
   refine ydj (by omega) ?_
   walk_at "rd"
   refine yg5 ?_
   walk_at "rd"
   refine ydj (by omega) ?_
   walk_at "rd"
   refine i_I ⟨c0,_,hGn,by omega⟩ ?_
   walk_at "rd"
   refine ydj c1 ?_
   walk_at "rd"
   have fin:∀ {Q':VK},Q' (.bl true) H3->Q' (.bl true) H3:=fun h=>h
   refine zn (fun hb=>?_) (fun hb=>?_)
   ·walk_at "rd"
    refine i_I ⟨by omega,_,hGn,by omega⟩ ?_
    walk_at "rd"
    refine ydj (by have:=c2 hb; omega) ?_
    walk_at "rd"
    refine uc (SqL.of (S13 _ _ hd)) ?_
    rw [List.length_map]
    walk_at "rd"
    refine i_I ⟨by omega,_,hGn,by omega⟩ ?_
    walk_at "rd"
    rw [show (8 * (out.length:Int)).toNat=8 * out.length by omega]
    refine ybn hcp ?_
    walk_at "rd"
    refine uc (SqL.of (S13 _ _ hd)) ?_
    rw [List.length_map]
    walk_at "rd"
    rw [decide_eq_true c3]
    exact k _ S13
   ·walk_at "rd"
    refine uc (SqL.of (S13 _ _ hd)) ?_
    rw [List.length_map]
    walk_at "rd"
    refine i_I ⟨by omega,_,hGn,by omega⟩ ?_
    walk_at "rd"
    rw [show (8 * (out.length:Int)).toNat=8 * out.length by omega]
    refine ybn hcp ?_
    walk_at "rd"
    refine uc (SqL.of (S13 _ _ hd)) ?_
    rw [List.length_map]
    walk_at "rd"
    rw [decide_eq_true c3]
    exact k _ S13
theorem yjg {g:Nat->Addr} {n k:Nat}:(refs g n).take k=refs g (min k n):=by
 unfold refs
 rw [<- List.map_take,List.take_range]
theorem yrx {xs:List Int} (h:Sgs xs) (k:Nat):Sgs ((List.replicate k xs).flatten):=fun x hx=>by
 obtain ⟨l,hl,hxl⟩:=List.mem_flatten.mp hx
 rw [List.eq_of_mem_replicate hl] at hxl
 exact h x hxl
theorem ymy (k:Nat) (xs:List Int):((List.replicate k (xs.map V.int)).flatten)=((List.replicate k xs).flatten).map V.int:=by
 rw [List.map_flatten,List.map_replicate]
theorem uu:yn ["_law_script","_law_cells","_law_looks_here","_law_size","_law_text_here","_law_other","_law_learned","_law_behind","_law_handed","_law_data","_law_held","_law_found"] ["_law_script"] (yi yti):=⟨rfl,rfl,rfl,by decide +kernel,rfl,by decide +kernel,by decide +kernel⟩
def yhj (K:W.Frag):Sp:=fun vs H Q _=>∃ (l:Addr) (ns:List Int),vs=[.ref l]/\SqL K H l (ns.map V.int)/\ns.length <= 63/\∀ H',Q (.bl true) H'
theorem ywk (T:Txt K mg a):wc P w K mg base CX0 13 a.f_law a.d_law ["_law_script"] (yhj K):=by
 refine T.y_law.F.ok uu (fun vs H Q E h=>?_) (fun cdv A outer s H vs Q E hr h=>?_)
 ·obtain ⟨l,ns,rfl,_⟩:=h
  rfl
 ·obtain ⟨l,ns,rfl,hS,hlen,k⟩:=h
  refine yk (y6 (i:=1) uu.nd rfl (Or.inr rfl) (ur (js:=[0]) (ys:=["_law_script"]) rfl (u4 rfl T.z_range (yc yg yf (ya rfl))) (fun C s2 H2 fp=>(yq wt (yv (yvh T) (hr.mono (by decide)) rfl T.y_q68.m T.y_q68.F.kp T.y_q68.B .nil y7 (yc (pv 1) (yc (pv 0) yf (ya rfl)) (ya rfl))) (yq (yko 1000000000000000) yg yg))) rfl rfl (hyc:=(all_cons rfl vy)) (hrel:=(all_cons rfl vy)))) ?_
  refine yk (y6 (i:=2) uu.nd rfl (Or.inl rfl) (yv (yva T) (hr.mono (by decide)) rfl T.y_q70.m T.y_q70.F.kp T.y_q70.B .nil y7 (yc (wz vw (pv 1) yg (fun _ _=>rfl)) (yc yg yf (ya rfl)) (ya rfl)))) ?_
  refine yk (y6 (i:=3) uu.nd rfl (Or.inl rfl) (wz vw (w4 (yc yg (yc yg (yc yg (yc yg yf (ya rfl)) (ya rfl)) (ya rfl)) (ya rfl))) (yq wt (yq vf (wz vw (pv 1) yg (fun _ _=>rfl)) yg) yg) (fun _ _=>rfl))) ?_
  refine yk (yb4 (wo (yz zl (pv 3) yg (vd _)) (yh (y6 (i:=2) uu.nd rfl (Or.inl rfl) (xz zf (pv 2) jd (xx yg)))) ve)) ?_
  refine yk (y6 (i:=4) uu.nd rfl (Or.inl rfl) (yv (yow T) (hr.mono (by decide)) rfl T.y_q71.m T.y_q71.F.kp T.y_q71.B .nil y7 (yc (uh rfl (v8 (xz zf (pv 0) (xx yg) (xx (yq v6 yg (pv 3))))) (fun C s2 H2 fp=>(yq wt (pv 0) (yq (yko 1000000000000000) yg yg)))) (yc (wz vw (pv 1) yg (fun _ _=>rfl)) yf (ya rfl)) (ya rfl)))) ?_
  refine yk (yb4 (wo (PW.pt (ylm (yz zl (pv 3) yg (vd _)) (yfx (yz zl (yq wt (yq vf (wz vw (pv 1) yg (fun _ _=>rfl)) yg) yg) yg (vd _))))) (yh (y6 (i:=4) uu.nd rfl (Or.inl rfl) (xz zf (yq yos (pv 4) yg) jd (xx (yq v6 yg (yq wt (yq vf (wz vw (pv 1) yg (fun _ _=>rfl)) yg) yg)))))) ve)) ?_
  refine yk (y6 (i:=5) uu.nd rfl (Or.inl rfl) (yv (yow T) (hr.mono (by decide)) rfl T.y_q71.m T.y_q71.F.kp T.y_q71.B .nil y7 (yc (ur (js:=[1]) (ys:=["_law_cells"]) rfl (u4 rfl T.z_range (yc (yq wt (wz vw (pv 1) yg (fun _ _=>rfl)) yg) yf (ya rfl))) (fun C s2 H2 fp=>(yq v6 (yq vf (wz (r:=yzm K) vw (pv 1) yg (fun _ _=>rfl)) yg) (pv 0))) rfl rfl (hyc:=(all_cons rfl vy)) (hrel:=(all_cons rfl vy))) (yc (yq vf (wz vw (pv 1) yg (fun _ _=>rfl)) yg) yf (ya rfl)) (ya rfl)))) ?_
  refine yk (y6 (i:=6) uu.nd rfl (Or.inl rfl) (xz zf (w4 (yc (pv 5) (yc (xz zf (pv 4) jd (xx yg)) yf (ya rfl)) (ya rfl))) jd (xx (yq wt (yq vf (wz vw (pv 1) yg (fun _ _=>rfl)) yg) yg)))) ?_
  refine yk (y6 (i:=7) uu.nd rfl (Or.inl rfl) (xz zf (w4 (yc (yq wt (yq vf (wz vw (pv 1) yg (fun _ _=>rfl)) yg) yg) (yc yg (yc yg (yc (yq wt (wz vw (pv 1) yg (fun _ _=>rfl)) yg) yf (ya rfl)) (ya rfl)) (ya rfl)) (ya rfl))) jd (xx (yq wt (yq vf (wz vw (pv 1) yg (fun _ _=>rfl)) yg) yg)))) ?_
  refine yk (y6 (i:=8) uu.nd rfl (Or.inl rfl) (w4 (yc (xa ww rfl T.z_list (by decide +kernel) (yc (pv 2) yf (ya rfl))) (yc (xa ww rfl T.z_list (by decide +kernel) (yc (pv 4) yf (ya rfl))) (yc (uh rfl (v8 (pv 6)) (fun C s2 H2 fp=>(xa (r:=yrl K) ww rfl T.z_list (by decide +kernel) (yc (pv 0) yf (ya rfl))))) yf (ya rfl)) (ya rfl)) (ya rfl)))) ?_
  refine yk (y6 (i:=9) uu.nd rfl (Or.inl rfl) (yv (yl3 T) (hr.mono (by decide)) rfl T.m_q61 T.F_q61.kp T.B_q61 .nil y7 (yc (wz vw (pv 8) yg (fun _ _=>rfl)) (yc (wz vw (pv 8) yg (fun _ _=>rfl)) (yc (wz vw (pv 8) yg (fun _ _=>rfl)) yf (ya rfl)) (ya rfl)) (ya rfl)))) ?_
  refine yk (wo (PW.pt (uk (wd (wq (yv (ypw T) (hr.mono (by decide)) rfl T.y_q69.m T.y_q69.F.kp T.y_q69.B .nil y7 (yc (pv 9) yf (ya rfl))))) (u5 (yz (ygy hr.units) (pv 8) (w4 (yc (pv 2) (yc (pv 4) (yc (pv 6) yf (ya rfl)) (ya rfl)) (ya rfl))) (vd _))))) (yh (yw ybm)) ve) ?_
  refine yk (y6 (i:=10) uu.nd rfl (Or.inl rfl) (xa ww rfl T.z_list (by decide +kernel) (yc (pv 9) yf (ya rfl)))) ?_
  refine yk (wo (wd (wq (yv (ylb T) (hr.mono (by decide)) rfl T.y_q73.m T.y_q73.F.kp T.y_q73.B .nil y7 (yc (vk (ypa T) (hr.mono (by decide)) rfl T.m_q67 T.F_q67.kp T.B_q67 .nil wf (yc (pv 2) (yc (pv 9) (yc yg (yc (pv 6) yf (ya rfl)) (ya rfl)) (ya rfl)) (ya rfl))) (yc (pv 4) yf (ya rfl)) (ya rfl))))) (yh (yw ybm)) ve) ?_
  refine yk (wo (wd (wq (yv (ylb T) (hr.mono (by decide)) rfl T.y_q73.m T.y_q73.F.kp T.y_q73.B .nil y7 (yc (vk (ypa T) (hr.mono (by decide)) rfl T.m_q67 T.F_q67.kp T.B2_q67 (show wu [V.int 1000,V.non] _ from (.cons ⟨_,rfl⟩ (.cons rfl .nil))) wf (yc (pv 2) (yc (yv (yl3 T) (hr.mono (by decide)) rfl T.m_q61 T.F_q61.kp T.B1_q61 (show wu [V.non] _ from (.cons rfl .nil)) y7 (yc (pv 2) (yc (xz zf (pv 4) (xx yg) (xx yg)) yf (ya rfl)) (ya rfl))) yf (ya rfl)) (ya rfl))) (yc (xz zf (pv 4) (xx yg) (xx yg)) yf (ya rfl)) (ya rfl))))) (yh (yw ybm)) ve) ?_
  refine yk (y6 (i:=11) uu.nd rfl (Or.inl rfl) (vk (ypm T) (hr.mono (by decide)) rfl T.m_q66 T.F_q66.kp T.B_q66 .nil wf (yc (pv 2) (yc (yq ypn (pv 9) (pv 7)) (yc (yp yr rfl T.z_len (by decide +kernel) (yc (pv 4) yf (ya rfl))) (yc (pv 6) yf (ya rfl)) (ya rfl)) (ya rfl)) (ya rfl)))) ?_
  refine yk (wo (PW.pt (uk (wd (wq (yp vg rfl T.z_isinstance (by decide +kernel) (yc (pv 11) (yc (xu (T:="tuple") rfl T.z_tuple (by decide +kernel)) yf (ya rfl)) (ya rfl))))) (uk (yz yl4 (yp yr rfl T.z_len (by decide +kernel) (yc (pv 11) yf (ya rfl))) yg (vd _)) (uk (wd (wq (yv (ylb T) (hr.mono (by decide)) rfl T.y_q73.m T.y_q73.F.kp T.y_q73.B .nil y7 (yc (wz jx (pv 11) yg (fun _ _=>rfl)) (yc (pv 4) yf (ya rfl)) (ya rfl))))) (u5 (wd (wq (yv (yg7 T) (hr.mono (by decide)) rfl T.y_q72.m T.y_q72.F.kp T.y_q72.B .nil y7 (yc (wz jx (pv 11) yg (fun _ _=>rfl)) yf (ya rfl)))))))))) (yh (yw ybm)) ve) ?_
  refine yk (wo (PW.pt (uk (yz yl4 (wz jx (pv 11) yg (fun _ _=>rfl)) (yp yr rfl T.z_len (by decide +kernel) (yc (pv 9) yf (ya rfl))) (vd _)) (uk (yz (ygy hr.units) (pv 9) (pv 10) (vd _)) (u5 (yz (ygy hr.units) (yv (yl3 T) (hr.mono (by decide)) rfl T.m_q61 T.F_q61.kp T.B_q61 .nil y7 (yc (pv 2) (yc (pv 4) (yc (pv 6) yf (ya rfl)) (ya rfl)) (ya rfl))) (pv 10) (vd _)))))) (yh (yw ybm)) ve) ?_
  refine ⟨_,(yh (yw (yv (ywn T) (hr.mono (by decide)) rfl T.y_q75.m T.y_q75.F.kp T.y_q75.B .nil y7 (yc (pv 2) (yc (pv 4) (yc (pv 6) (yc (pv 9) yf (ya rfl)) (ya rfl)) (ya rfl)) (ya rfl))))),?_⟩
  try dsimp only [wa]
  refine yo (σ':=[some _,none,none,none,none,none,none,none,none,none,none,none]) rfl ?_
  walk_at "rd"
  refine ⟨_,rfl,by omega,by omega,fun Dc hDc=>?_⟩
  refine ya4 (n:=3) (fun i G=>∃ cs:List Int,G Dc=some (.lst (cs.map V.int))/\cs.length=i/\(∀ c∈cs,0 <= c/\c < 1000000000000000)/\vh H G) ⟨[],yd,rfl,fun _ z=>(nomatch z),vj hDc⟩ (fun i G hi z=>?_) (fun H1 z=>?_)
  ·obtain ⟨cs,h1,h2,h3,S⟩:=z
   walk_at "rd"
   refine ⟨l,ns,i,by rw [Int.zero_add]; rfl,S.seq hS,fun c=>?_⟩
   walk_at "rd"
   refine w9 (n:=3) h1 (vq (by rw [List.length_map]; omega)) hi ?_
   refine ⟨cs++[c % 1000000000000000],by rw [yd,List.map_append]; rfl,by rw [List.length_append,h2]; rfl,fun x hx=>?_,fun b o e=>ym (ye e hDc) (S b o e)⟩
   rcases List.mem_append.mp hx with h | h
   ·exact h3 x h
   ·rw [List.mem_singleton.mp h]
    exact ⟨Int.emod_nonneg _ (by decide),Int.emod_lt_of_pos _ (by decide)⟩
  obtain ⟨cs,hD1,hcl,hcb,S1⟩:=z
  obtain ⟨c0,c1,c2,rfl⟩:∃ c0 c1 c2,cs=[c0,c1,c2]:=by
   match cs,hcl with
   | [x,y,z],_=>exact ⟨x,y,z,rfl⟩
  obtain ⟨c00,c01⟩:=hcb c0 (by simp)
  obtain ⟨c10,c11⟩:=hcb c1 (by simp)
  obtain ⟨c20,c21⟩:=hcb c2 (by simp)
  walk_at "rd"
  refine xt (SqL.of hD1) (vv (j:=0) rfl) ?_
  walk_at "rd"
  refine ⟨c0,rfl,c00,c01,fun L0 n0 lk kd tp ps H2 hL0 hL2 n01 n06 hR2 S2=>?_⟩
  have hD2:=S2 _ _ hD1
  walk_at "rd"
  refine ⟨by walk_at "len",fun q hq=>?_⟩
  with_reducible first | refine y8 hq fun H3 S3 hq3=>?_ | refine new_obj hq fun H3 S3 hq3=>?_
  walk_at "rd"
  refine xt (SqL.of (S3 _ _ hD2)) (vv (j:=1) rfl) ?_
  walk_at "rd"
  obtain ⟨v,hv,ha⟩:=ydg (xs:=[V.int 4,V.int 60,V.int 4,V.int 12]) (i:=c1 / 64 % 4) (Int.emod_nonneg _ (by decide)) (by show _ < (4:Int); exact Int.emod_lt_of_pos _ (by decide))
  refine xt (SqL.of hq3) ha ?_
  obtain ⟨sz,rfl,hsz⟩:∃ sz:Nat,v=V.int sz/\sz <= 60:=by
   simp only [List.mem_cons,List.not_mem_nil,or_false] at hv
   rcases hv with rfl | rfl | rfl | rfl
   ·exact ⟨4,rfl,by decide⟩
   ·exact ⟨60,rfl,by decide⟩
   ·exact ⟨4,rfl,by decide⟩
   ·exact ⟨12,rfl,by decide⟩
  have S23:=S2.trans S3
  walk_at "rd"
  refine yip (fun σ' G=>∃ (L:Addr) (n:Nat),σ'=[some (.ref l),some (.ref Dc),some (.ref L),some (.int sz),none,none,none,none,none,none,none,none]/\G L=some (.lst (refs lk n))/\1 <= n/\n <= 6/\jz G n lk kd tp ps/\vh H3 G) ?_ ?_
  ·walk_at "rd"
   refine zn (fun hb=>?_) (fun hb=>?_)
   ·walk_at "rd"
    refine ydh (SqL.of (S3 _ _ hL2)) fun u hu=>?_
    have ec:yeu (refs lk n0) none (some 1)=refs lk (min 1 n0):=by rw [<- yjg]; exact z7 1
    rw [ec]
    walk_at "rd"
    exact ⟨u,min 1 n0,rfl,yd,by omega,by omega,fun i hi=>((hR2 i (by omega)).same S3).same (vj hu),vj hu⟩
   ·walk_at "rd"
    exact ⟨L0,n0,rfl,S3 _ _ hL2,n01,n06,hR2.same S3,vh.refl _⟩
  rintro σ' H4 ⟨L,n,rfl,hL4,n1,n6,hR4,S4⟩
  have S14:=S23.trans S4
  have S04:=S1.trans S14
  have hD4:=S14 _ _ hD1
  walk_at "rd"
  refine ydh (S04.seq hS) fun u hu=>?_
  obtain ⟨ms,hms,hml,hmm⟩:=ykp ns (some 3) (some (3+(sz:Int)))
  rw [hms]
  have S5:=vj (o:=(HO.lst (ms.map V.int))) hu
  have hu5:upd H4 u (HO.lst (ms.map V.int)) u=some (HO.lst (ms.map V.int)):=yd
  generalize upd H4 u (HO.lst (ms.map V.int))=H5 at S5 hu5 ⊢
  refine ⟨u,rfl,⟨_,SqL.of hu5⟩,fun Dt hDt=>?_⟩
  refine ybw (onI (· % 1000000000000000)) (SqL.of hu5) hDt (fun i y G hy S hDg=>?_) (fun H6 S6 hDt6=>?_)
  ·obtain ⟨x,rfl,_,_,_⟩:=x8 hy
   walk_at "rd"
   exact Mp.done hDt (vq (by rw [List.length_map]; omega)) hy S hDg rfl
  rw [ydf] at hDt6
  have htl:(ms.map (· % 1000000000000000)).length <= 63:=by rw [List.length_map]; omega
  generalize ms.map (· % 1000000000000000)=us at hDt6 htl
  have S46:=S5.trans S6
  have hD6:=S46 _ _ hD4
  walk_at "rd"
  refine xt (SqL.of hD6) (vv (j:=1) rfl) ?_
  walk_at "rd"
  refine ⟨Dt,us,c1,rfl,hDt6,by omega,fun tx0 ts0 H7 htx0 htx7 hts0 htz0 S7=>?_⟩
  have S47:=S46.trans S7
  walk_at "rd"
  refine yip (fun σ' G=>∃ (tx:Addr) (ts:List Int),σ'=[some (.ref l),some (.ref Dc),some (.ref L),some (.int sz),some (.ref tx),none,none,none,none,none,none,none]/\G tx=some (.lst (ts.map V.int))/\Sgs ts/\ts.length <= 80/\vh H7 G) ?_ ?_
  ·walk_at "rd"
   refine zn (fun hb=>?_) (fun hb=>?_)
   ·walk_at "rd"
    refine xt (SqL.of (S7 _ _ hD6)) (vv (j:=1) rfl) ?_
    walk_at "rd"
    refine zn (fun hb2=>?_) (fun hb2=>?_)
    ·walk_at "rd"
     refine ⟨tx0,80,_,rfl,rfl,htx7,by decide,by decide,ybg (by rw [List.length_map]; show _ * 80 <= _; omega),fun x1 hx1=>?_⟩
     rw [show ((80:Int)).toNat=80 from rfl,ymy]
     with_reducible first | refine y8 hx1 fun H8 S8 hx18=>?_ | refine new_obj hx1 fun H8 S8 hx18=>?_
     walk_at "rd"
     refine xt (SqL.of (S8 _ _ (S7 _ _ hD6))) (vv (j:=1) rfl) ?_
     walk_at "rd"
     obtain ⟨q5,hq5,hq80⟩:∃ q5:Nat,65+c1 / 4096 % 16=(q5:Int)/\q5 <= 80:=⟨(65+c1 / 4096 % 16).toNat,by omega,by omega⟩
     rw [hq5]
     refine ydh (SqL.of hx18) fun x2 hx2=>?_
     rw [z7,<- List.map_take]
     walk_at "rd"
     exact ⟨x2,_,rfl,yd,fun x hx=>yrx hts0 80 x (List.mem_of_mem_take hx),by rw [List.length_take]; omega,S8.trans (vj hx2)⟩
    ·walk_at "rd"
     exact ⟨tx0,ts0,rfl,htx7,hts0,by omega,vh.refl _⟩
   ·walk_at "rd"
    exact ⟨tx0,ts0,rfl,htx7,hts0,by omega,vh.refl _⟩
  clear htx7 htx0 htz0 hts0
  rintro σ' HB ⟨tx,ts,rfl,htxB,hts,htz,S7B⟩
  have S4B:=S47.trans S7B
  walk_at "rd"
  refine xt (SqL.of (S4B _ _ hD4)) (vv (j:=2) rfl) ?_
  walk_at "rd"
  obtain ⟨z4,hz4,z44⟩:∃ z4:Nat,c2 % 4=(z4:Int)/\z4 < 4:=⟨(c2 % 4).toNat,by omega,by omega⟩
  rw [hz4]
  refine ⟨_,rfl,by omega,by omega,fun Do hDo=>?_⟩
  refine ya4 (n:=z4) (fun i G=>∃ xs:List Int,G Do=some (.lst (xs.map V.int))/\xs.length=i/\vh HB G) ⟨[],yd,rfl,vj hDo⟩ (fun i G hi z=>?_) (fun HC z=>?_)
  ·obtain ⟨xs,h1,h2,S⟩:=z
   walk_at "rd"
   refine xt (SqL.of (S _ _ (S4B _ _ hD4))) (vv (j:=2) rfl) ?_
   walk_at "rd"
   refine w9 (n:=z4) h1 (vq (by rw [List.length_map]; omega)) hi ?_
   exact ⟨xs++[c2 / 7+(0+(i:Int))],by rw [yd,List.map_append]; rfl,by rw [List.length_append,h2]; rfl,fun b o e=>ym (ye e hDo) (S b o e)⟩
  obtain ⟨xs,hxs,hxl,SC⟩:=z
  have S4C:=S4B.trans SC
  walk_at "rd"
  refine xt (SqL.of (S4C _ _ hD4)) (vv (j:=2) rfl) ?_
  walk_at "rd"
  refine ⟨Do,xs,c2 / 5,rfl,hxs,by omega,fun ox os HE hox0 hoxE hos hol SE=>?_⟩
  have S4E:=S4C.trans SE
  walk_at "rd"
  refine ydh (SqL.of (SE _ _ (SC _ _ htxB))) fun t2 ht20=>?_
  have ec2:yeu (ts.map V.int) none (some 2)=(ts.take 2).map V.int:=by rw [List.map_take]; exact z7 2
  rw [ec2]
  with_reducible first | refine y8 ht20 fun HF SF ht2F=>?_ | refine new_obj ht20 fun HF SF ht2F=>?_
  walk_at "rd"
  refine ⟨by walk_at "len",fun l2 hl20=>?_⟩
  with_reducible first | refine y8 hl20 fun HG SG hl2G=>?_ | refine new_obj hl20 fun HG SG hl2G=>?_
  have S4G:=S4E.trans (SF.trans SG)
  walk_at "rd"
  refine xt (SqL.of (S4G _ _ hD4)) (vv (j:=1) rfl) ?_
  walk_at "rd"
  obtain ⟨N3,hN3,N33⟩:∃ N3:Nat,c1 / 256 % 3=(N3:Int)/\N3 < 3:=⟨(c1 / 256 % 3).toNat,by omega,by omega⟩
  rw [hN3]
  refine ydh (SqL.of hl2G) fun lr hlr0=>?_
  obtain ⟨lt,hlt0,hlt1⟩:∃ lt:Nat->Addr,lt 0=ox/\lt 1=t2:=⟨fun i=>if i=0 then ox else t2,rfl,rfl⟩
  obtain ⟨tt,htt0,htt1⟩:∃ tt:Nat->List Int,tt 0=os/\tt 1=ts.take 2:=⟨fun i=>if i=0 then os else ts.take 2,rfl,rfl⟩
  have ec3:yeu [V.ref ox,V.ref t2] none (some (N3:Int))=refs lt N3:=by
   rw [z7]
   obtain rfl | rfl | rfl:N3=0\/N3=1\/N3=2:=by omega
   ·rfl
   ·show [V.ref ox]=[V.ref (lt 0)]
    rw [hlt0]
   ·show [V.ref ox,V.ref t2]=[V.ref (lt 0),V.ref (lt 1)]
    rw [hlt0,hlt1]
  rw [ec3]
  with_reducible first | refine y8 hlr0 fun HH SH hlrH=>?_ | refine new_obj hlr0 fun HH SH hlrH=>?_
  have S4H:=S4G.trans SH
  have SEH:vh HE HH:=SF.trans (SG.trans SH)
  have htxH:=SEH _ _ (SE _ _ (SC _ _ htxB))
  have bd3:N3 * (9 * 10+1) <= 2 * 91:=Nat.mul_le_mul_right _ (by omega)
  have tl:yma HH L tx (.ref lr) n lk kd tp ps ts N3 10 lt tt:=by
   refine ⟨S4H _ _ hL4,n1,n6,hR4.same S4H,⟨htxH,hts,by omega⟩,⟨.inr ⟨lr,rfl,hlrH⟩,fun i hi=>?_⟩,by omega,by omega,by omega⟩
   obtain rfl | rfl:i=0\/i=1:=by omega
   ·rw [hlt0,htt0]
    exact ⟨SEH _ _ hoxE,hos,by omega⟩
   ·rw [hlt1,htt1]
    exact ⟨SH _ _ (SG _ _ ht2F),fun x hx=>hts x (List.mem_of_mem_take hx),by rw [List.length_take]; omega⟩
  have hDH:=S4H _ _ hD4
  have hllH:HH lr=some (.lst (refs lt N3)):=hlrH
  clear hlrH htxH SEH hlt0 hlt1 ec3 hl2G
  walk_at "rd"
  refine xt (SqL.of hDH) (vv (j:=2) rfl) ?_
  walk_at "rd"
  refine xt (SqL.of hDH) (vv (j:=0) rfl) ?_
  walk_at "rd"
  refine ⟨by walk_at "len",fun w1 hw1=>?_⟩
  have x0:0 <= c2 / 11 % 256/\c2 / 11 % 256 <= 255:=by omega
  have y0:0 <= c0 % 256/\c0 % 256 <= 255:=by omega
  generalize c2 / 11 % 256=xb at x0
  generalize c0 % 256=yb at y0
  with_reducible first | refine y8 hw1 fun HI SI hw1I=>?_ | refine new_obj hw1 fun HI SI hw1I=>?_
  walk_at "rd"
  refine xt (SqL.of (SI _ _ hDH)) (vv (j:=2) rfl) ?_
  walk_at "rd"
  obtain ⟨z5,hz5,z55⟩:∃ z5:Nat,c2 / 3 % 5=(z5:Int)/\z5 < 5:=⟨(c2 / 3 % 5).toNat,by omega,by omega⟩
  rw [hz5]
  refine ydh (xs:=([xb,0,255,yb]:List Int).map V.int) (SqL.of hw1I) fun bh hbh0=>?_
  rw [z7,<- List.map_take]
  have hbb:Byt (([xb,0,255,yb]:List Int).take z5):=fun x hx=>by
   have hx:=List.mem_of_mem_take hx
   simp only [List.mem_cons,List.not_mem_nil,or_false] at hx
   rcases hx with rfl | rfl | rfl | rfl
   ·exact x0
   ·exact ⟨by decide,by decide⟩
   ·exact ⟨by decide,by decide⟩
   ·exact y0
  have hbl:(([xb,0,255,yb]:List Int).take z5).length <= 4:=by rw [List.length_take]; show min _ 4 <= 4; omega
  generalize ([xb,0,255,yb]:List Int).take z5=bs at hbb hbl
  with_reducible first | refine y8 hbh0 fun H0 S0 hbh=>?_ | refine new_obj hbh0 fun H0 S0 hbh=>?_
  have SI0:=SI.trans S0
  have tl0:=tl.same SI0
  have hll0:=SI0 _ _ hllH
  clear tl hllH SI0 S0 SI hw1I hDH
  have hpre:=zr tt N3
  have hch:∀ (us:List Int) j,j < (dec us).length->Ch (zh n kd ps (xg tt N3) us j):=fun us j _=>yfr n1 n6 hpre j
  have hol':=yc2 (kd:=kd) (ps:=ps) (ts:=ts) n1 n6 hpre (by omega)
  walk_at "rd"
  refine jq (SqL.of tl0.l) fun a0 ha00=>?_
  with_reducible first | refine y8 ha00 fun G1 T1 ha01=>?_ | refine new_obj ha00 fun G1 T1 ha01=>?_
  walk_at "rd"
  refine jq (SqL.of (T1 _ _ tl0.t.l)) fun b0 hb00=>?_
  with_reducible first | refine y8 hb00 fun G2 T2 hb02=>?_ | refine new_obj hb00 fun G2 T2 hb02=>?_
  have T12:=T1.trans T2
  walk_at "rd"
  refine ⟨lr,rfl,⟨_,SqL.of (T12 _ _ hll0)⟩,fun c0' hc00=>?_⟩
  refine uf (K:=K) (xs:=refs lt N3) (fun i G'=>∃ cx:Nat->Addr,yud G2 G' c0' i cx tt) ⟨_,yud.zero hc00⟩ (fun i G' _ ⟨_,z⟩=>SqL.of (z.s _ _ (T12 _ _ hll0))) (fun i y G' hy hi z=>?_) (fun G3 z=>?_)
  ·obtain ⟨cx,z⟩:=z
   obtain ⟨rfl,hin⟩:=ub hy
   walk_at "rd"
   refine jq (SqL.of (z.s _ _ (T12 _ _ (tl0.lr.2 i hin).l))) fun c hc0=>?_
   exact w9 (n:=(refs lt N3).length) (xo hc0 z.d) (vq (by rw [vt]; omega)) hi ⟨_,z.next hc00 hc0⟩
  obtain ⟨cx,z⟩:=z
  rw [vt] at z
  walk_at "rd"
  refine ⟨by walk_at "len",fun hd' hhd0=>?_⟩
  with_reducible first | refine y8 hhd0 fun G4 T4 hhd4=>?_ | refine new_obj hhd0 fun G4 T4 hhd4=>?_
  have T04:=T12.trans (z.s.trans T4)
  have ha04:=T4 _ _ (z.s _ _ (T2 _ _ ha01))
  have hb04:=T4 _ _ (z.s _ _ hb02)
  have hc04:=T4 _ _ z.d
  have hcx4:∀ i,i < N3->G4 (cx i)=some (.lst ((tt i).map V.int)):=fun i hi=>T4 _ _ (z.c i hi).1
  have th:yma G4 a0 b0 (.ref c0') n lk kd tp ps ts N3 10 cx tt:=⟨ha04,n1,n6,tl0.r.same T04,⟨hb04,hts,by omega⟩,yoa.of hc04 fun i hi=>⟨hcx4 i hi,(tl0.lr.2 i hi).s,(tl0.lr.2 i hi).z⟩,by omega,by omega,by omega⟩
  walk_at "rd"
  refine xt (SqL.of hhd4) (vv (j:=0) rfl) ?_
  walk_at "rd"
  refine xt (SqL.of hhd4) (vv (j:=1) rfl) ?_
  walk_at "rd"
  refine xt (SqL.of hhd4) (vv (j:=2) rfl) ?_
  walk_at "rd"
  refine ⟨a0,b0,.ref c0',n,lk,kd,tp,ps,ts,N3,10,cx,tt,rfl,th,by omega,fun F G5 hF0 hF5 T5=>?_⟩
  have hF5:G5 F=some (.lst ((yiz n kd ps (xg tt N3) ts).map V.int)):=hF5
  have T05:=T04.trans T5
  walk_at "rd"
  refine ⟨F,_,rfl,hF5,yem _,?_⟩
  walk_at "rd"
  refine ⟨by walk_at "len",fun rv hrv0=>?_⟩
  with_reducible first | refine y8 hrv0 fun G7 T7 hrv7=>?_ | refine new_obj hrv0 fun G7 T7 hrv7=>?_
  have T47:=T5.trans T7
  have T07:=T04.trans T47
  have sI:∀ {G:Hp} {q:Addr} {xs:List Int},G q=some (.lst (xs.map V.int))->Sd K G (.ref q) (.list (xs.map PyData.int)) 1:=fun h=>Sd.lst (SqL.of h) (Sds.ints _)
  have row7:=(tl0.r.same T07).sds (K:=K)
  have s1:Sd K G7 (.ref hd') (.list [.list ((List.range n).map fun i=>dLk (kd i) (ps i)),.list (ts.map PyData.int),.list ((List.range N3).map fun i=>.list ((tt i).map PyData.int))]) 4 :=
   Sd.lst (SqL.of (T47 _ _ hhd4)) (.cons (Sd.lst (SqL.of (T47 _ _ ha04)) row7) (.cons ((sI (T47 _ _ hb04)).up (by decide)) (.cons ((Sd.lst (SqL.of (T47 _ _ hc04)) (Sds.refs N3 fun i hi=>sI (T47 _ _ (hcx4 i hi)))).up (by decide)) .nil)))
  have s2:Sd K G7 (.ref rv) (.list [.list ((List.range n).map fun i=>dLk (kd i) (ps i)),.list (ts.map PyData.int),.list ((List.range N3).map fun i=>.list ((tt i).map PyData.int))]) 4 :=
   Sd.lst (SqL.of hrv7) (.cons (Sd.lst (SqL.of (T07 _ _ tl0.l)) row7) (.cons ((sI (T07 _ _ tl0.t.l)).up (by decide)) (.cons ((Sd.lst (SqL.of (T07 _ _ hll0)) (Sds.refs N3 fun i hi=>sI (T07 _ _ (tl0.lr.2 i hi).l))).up (by decide)) .nil)))
  refine vab s1 s2 (by decide) ?_
  have hF7:=T7 _ _ hF5
  have tl7:=tl0.same T07
  have hbh7:=T07 _ _ hbh
  clear s1 s2 row7 th ha04 hb04 hc04 hcx4 hhd4 T47 T7 T5 T05 hF5 z
  walk_at "rd"
  refine jq (SqL.of hF7) fun hl hhl0=>?_
  with_reducible first | refine y8 hhl0 fun G8 T8 hhl8=>?_ | refine new_obj hhl0 fun G8 T8 hhl8=>?_
  have ri:∀ {G:Hp} {q:Addr} {d:List Int} {mo:Nat},vh G8 G->G q=some (.lst (d.map V.int))->Byt d->d.length <= 12000->mo <= 1000->va4 G L q (.ref lr) n lk kd tp ps d mo N3 10 lt tt:=fun {G q d mo} S hq hb hl hm=>⟨(T8.trans S) _ _ tl7.l,n1,n6,tl7.r.same (T8.trans S),hq,hb,hl,hm,tl7.lr.same (T8.trans S),by omega,by omega,by omega⟩
  obtain ⟨bk1,bk2,bk3⟩:=yc1 (kd:=kd) (ps:=ps) (bs:=[]) n1 n6 hpre hts fun _ z=>(nomatch z)
  rw [List.append_nil] at bk1 bk2 bk3
  have tl8:=tl7.same T8
  walk_at "rd"
  refine ⟨L,F,.ref lr,n,lk,kd,tp,ps,_,1000,N3,10,lt,tt,rfl,ri (vh.refl _) (T8 _ _ hF7) (yem _) (by omega) (by decide),fun M r G9 hM hok htlM hr0 hr9 T9=>?_,fun hno G9 T9=>(hno _ (by omega) bk1 bk3).elim⟩
  obtain rfl:M=ts.length:=bk1.uniq hok.b1 hok.b0
  rw [bk2] at hr9
  walk_at "rd"
  refine ⟨r,tx,ts,rfl,hr9,T9 _ _ tl8.t.l,hts,?_⟩
  walk_at "rd"
  refine ydh (SqL.of (T9 _ _ tl8.t.l)) fun p1 hp10=>?_
  obtain ⟨ps1,hps1,hpl1,hpm1⟩:=ykp ts (some 1) (some 5)
  rw [hps1]
  with_reducible first | refine y8 hp10 fun GA TA hp1A=>?_ | refine new_obj hp10 fun GA TA hp1A=>?_
  have T8A:=T9.trans TA
  have hps1s:Sgs ps1:=fun x hx=>hts x (hpm1 x hx)
  have tn:yma GA L p1 .non n lk kd tp ps ps1 0 10 lt tt:=⟨T8A _ _ tl8.l,n1,n6,tl8.r.same T8A,⟨hp1A,hps1s,by omega⟩,⟨.inl ⟨rfl,rfl⟩,fun i hi=>absurd hi (Nat.not_lt_zero i)⟩,by decide,by decide,by omega⟩
  walk_at "rd"
  refine ⟨L,p1,.non,n,lk,kd,tp,ps,ps1,0,10,lt,tt,rfl,tn,by omega,fun F2 GB hF20 hF2B TB=>?_⟩
  have hF2B:GB F2=some (.lst ((yiz n kd ps (xg tt 0) ps1).map V.int)):=hF2B
  have T8B:=T8A.trans TB
  have hol2:=yc2 (kd:=kd) (ps:=ps) (ts:=ps1) n1 n6 (zr tt 0) (by omega)
  obtain ⟨ck1,ck2,ck3⟩:=yc1 (kd:=kd) (ps:=ps) (pre:=xg tt 0) (bs:=[]) n1 n6 (zr tt 0) hps1s fun _ z=>(nomatch z)
  rw [List.append_nil] at ck1 ck2 ck3
  walk_at "rd"
  refine ⟨L,F2,.non,n,lk,kd,tp,ps,_,1000,0,10,lt,tt,rfl,⟨T8B _ _ tl8.l,n1,n6,tl8.r.same T8B,hF2B,yem _,by omega,by decide,⟨.inl ⟨rfl,rfl⟩,fun i hi=>absurd hi (Nat.not_lt_zero i)⟩,by decide,by decide,by omega⟩,fun M r2 GC hM2 hok2 htl2 hr20 hr2C TC=>?_,fun hno GC TC=>(hno _ (by omega) ck1 ck3).elim⟩
  obtain rfl:M=ps1.length:=ck1.uniq hok2.b1 hok2.b0
  rw [ck2] at hr2C
  have T8C:=T8B.trans TC
  walk_at "rd"
  refine ydh (SqL.of (T8C _ _ tl8.t.l)) fun p2 hp20=>?_
  rw [hps1]
  with_reducible first | refine y8 hp20 fun GD TD hp2D=>?_ | refine new_obj hp20 fun GD TD hp2D=>?_
  have T8D:=T8C.trans TD
  walk_at "rd"
  refine ⟨r2,p2,ps1,rfl,TD _ _ hr2C,hp2D,hps1s,?_⟩
  walk_at "rd"
  refine ⟨F,bh,_,_,rfl,rfl,T8D _ _ (T8 _ _ hF7),T8D _ _ (T8 _ _ hbh7),ybg (by rw [List.length_map,List.length_map]; omega),fun cq hcq0=>?_⟩
  rw [<- List.map_append]
  with_reducible first | refine y8 hcq0 fun GE TE hcqE=>?_ | refine new_obj hcq0 fun GE TE hcqE=>?_
  have T8E:=T8D.trans TE
  obtain ⟨dk1,dk2,dk3⟩:=yc1 (kd:=kd) (ps:=ps) (bs:=bs) n1 n6 hpre hts hbb
  walk_at "rd"
  refine uc (SqL.of (T8E _ _ tl8.t.l)) ?_
  rw [List.length_map]
  walk_at "rd"
  refine ⟨L,cq,.ref lr,n,lk,kd,tp,ps,_,ts.length,N3,10,lt,tt,rfl,ri T8E hcqE (yf9 (yem _) hbb) (by rw [List.length_append]; omega) (by omega),fun M t r3 GF hM3 hok3 ht0 hr30 htF hr3F TF=>?_,fun hno GF TF=>(hno _ (Nat.le_refl _) dk1).elim⟩
  obtain rfl:M=ts.length:=dk1.uniq hok3.b1 hok3.b0
  rw [dk2] at hr3F
  rw [dk3] at htF
  have T8F:=T8E.trans TF
  walk_at "rd"
  refine zg (.tup htF) (z8 _ _) ?_
  walk_at "rd"
  refine yg3 (SqT.of htF) ?_
  walk_at "rd"
  refine yer (show ((2:Nat):Int)=2 from rfl) ?_
  walk_at "rd"
  refine ydi (SqT.of htF) (vv (j:=0) rfl) ?_
  walk_at "rd"
  refine ⟨r3,tx,ts,rfl,hr3F,T8F _ _ tl8.t.l,hts,?_⟩
  walk_at "rd"
  refine ydi (SqT.of htF) (vv (j:=1) rfl) ?_
  walk_at "rd"
  refine yg5 ?_
  walk_at "rd"
  refine ydi (SqT.of htF) (vv (j:=1) rfl) ?_
  walk_at "rd"
  refine uc (SqL.of (T8F _ _ (T8 _ _ hF7))) ?_
  rw [List.length_map]
  walk_at "rd"
  refine ytq ?_
  walk_at "rd"
  refine yny _ _ (SqL.of (T8F _ _ (T8 _ _ hF7))) (SqL.of (T8F _ _ hhl8)) ?_
  rw [decide_eq_true rfl]
  walk_at "rd"
  refine ⟨L,tx,.ref lr,n,lk,kd,tp,ps,ts,N3,10,lt,tt,rfl,tl8.same T8F,by omega,fun F4 GG hF40 hF4G TG=>?_⟩
  have hF4G:GG F4=some (.lst ((yiz n kd ps (xg tt N3) ts).map V.int)):=hF4G
  have T8G:=T8F.trans TG
  walk_at "rd"
  refine yny _ _ (SqL.of hF4G) (SqL.of (T8G _ _ hhl8)) ?_
  rw [decide_eq_true rfl]
  walk_at "rd"
  exact ⟨L,tx,F,.ref lr,n,lk,kd,tp,ps,ts,N3,10,lt,tt,rfl,tl8.same T8G,T8G _ _ (T8 _ _ hF7),by omega,fun H' _=>k H'⟩
end
theorem all_mk {l:W.OpenLaw} {w:World} {K:W.Frag} {h:Heap} {mg:Str->Option Value} {fa:Addr} (X:K.In h) (G:h.Ns mainGlobals mg) (hfa:mg "law"=some (.ref fa))
  {C_Even:Addr}
  {C_Quick:Addr}
  {C_Run:Addr}
  {C_Mx:Addr}
  {C_Book:Addr}
  {C_Span:Addr}
  {C_Ft:Addr}
  {C_Sk:Addr}
  {C_NT:Addr}
  {C_NY:Addr}
  {C_NoMost:Addr}
  {C_NC:Addr}
  {C_NB:Addr}
  {C_NL:Addr}
  {C_NP:Addr}
  {f_q1 f_q2 f_q3 f_q4 f_q5 f_q6 f_q7 f_q8 f_q9 f_q10 f_q11 f_q12 f_q13 f_q14 f_q15 f_q16 f_q17 f_q18 f_q19 f_q20 f_q21 f_q22 f_q23 f_q24 f_q25 f_q26 f_q27 f_q28 f_q29 f_q30 f_q31 f_q32 f_q33 f_q34 f_q35 f_q36 f_q37 f_q38 f_q39 f_q40 f_q41 f_q42 f_q43 f_q44 f_q45 f_q46 f_q47 f_q48 f_q49 f_q50 f_q51 f_q52 f_q53 f_q54 f_q55 f_q56 f_q57 f_q60 f_q62 f_q63 f_q64 f_q65 f_q68 f_q69 f_q70 f_q71 f_q72 f_q73 f_q74 f_q75 f_law:Addr} {d_q1 d_q2 d_q3 d_q4 d_q5 d_q6 d_q7 d_q8 d_q9 d_q10 d_q11 d_q12 d_q13 d_q14 d_q15 d_q16 d_q17 d_q18 d_q19 d_q20 d_q21 d_q22 d_q23 d_q24 d_q25 d_q26 d_q27 d_q28 d_q29 d_q30 d_q31 d_q32 d_q33 d_q34 d_q35 d_q36 d_q37 d_q38 d_q39 d_q40 d_q41 d_q42 d_q43 d_q44 d_q45 d_q46 d_q47 d_q48 d_q49 d_q50 d_q51 d_q52 d_q53 d_q54 d_q55 d_q56 d_q57 d_q60 d_q62 d_q63 d_q64 d_q65 d_q68 d_q69 d_q70 d_q71 d_q72 d_q73 d_q74 d_q75 d_law:FuncData}
  {f_q58:Addr} {oc_q58 kV_q58 dc_q58 pm_q58 cd_q58 ct_q58:Value} {od_q58 an_q58:Option Addr} {sl_q58:Array (Option Value)}
  {D_q58:Addr} {Do_q58:Option Addr} {Dn_q58:Nat} {Ds_q58:Array (Option Value)}
  {f_q59:Addr} {oc_q59 kV_q59 dc_q59 pm_q59 cd_q59 ct_q59:Value} {od_q59 an_q59:Option Addr} {sl_q59:Array (Option Value)}
  {D_q59:Addr} {Do_q59:Option Addr} {Dn_q59:Nat} {Ds_q59:Array (Option Value)}
  {f_q61:Addr} {oc_q61 kV_q61 dc_q61 pm_q61 cd_q61 ct_q61:Value} {od_q61 an_q61:Option Addr} {sl_q61:Array (Option Value)}
  {D_q61:Addr} {Do_q61:Option Addr} {Dn_q61:Nat} {Ds_q61:Array (Option Value)}
  {f_q66:Addr} {oc_q66 kV_q66 dc_q66 pm_q66 cd_q66 ct_q66:Value} {od_q66 an_q66:Option Addr} {sl_q66:Array (Option Value)}
  {D_q66:Addr} {Do_q66:Option Addr} {Dn_q66:Nat} {Ds_q66:Array (Option Value)} {Dt_q66_0:Tok}
  {f_q67:Addr} {oc_q67 kV_q67 dc_q67 pm_q67 cd_q67 ct_q67:Value} {od_q67 an_q67:Option Addr} {sl_q67:Array (Option Value)}
  {D_q67:Addr} {Do_q67:Option Addr} {Dn_q67:Nat} {Ds_q67:Array (Option Value)} {Dt_q67_0:Tok}
  {t_LEAST:Tok}
  {t_ONE:Tok}
  {t_MOST_SIGNS:Tok}
  {t_MOST_BYTES:Tok}
  {t_MOST_COUNTED:Tok}
  {t_FARTHEST:Tok}
  {t_MOST_PLACES:Tok}
  {t_MOST_LOOKS:Tok}
  {t_NO_SIGN:Tok}
  {t_FIRST_WEIGHT:Tok}
  {t_OWN_PARTS:Tok}
  {t_MOST_FIGURES:Tok}
  {t_NODES_END:Tok}
  {t_FIRST_WIDTH:Tok}
  {t_FIRST_SIZE:Tok}
  {t_LEAST_WIDTH:Tok}
  {t_FIGURES:Tok}
  {W_WORTHS:Addr} {wd_WORTHS:Option Addr} {wn_WORTHS:Nat} {ws_WORTHS:Array (Option Value)} {wt_WORTHS_0 wt_WORTHS_1 wt_WORTHS_2 wt_WORTHS_3 wt_WORTHS_4 wt_WORTHS_5 wt_WORTHS_6 wt_WORTHS_7:Tok}
  {W_KINDS:Addr} {wd_KINDS:Option Addr} {wn_KINDS:Nat} {ws_KINDS:Array (Option Value)} {wt_KINDS_0 wt_KINDS_1 wt_KINDS_2:Tok}
  (aC_Even:W.nsIn K mainGlobals "Even"=some (some (.ref C_Even)))
  (aC_Quick:W.nsIn K mainGlobals "Quick"=some (some (.ref C_Quick)))
  (aC_Run:W.nsIn K mainGlobals "Run"=some (some (.ref C_Run)))
  (aC_Mx:W.nsIn K mainGlobals "Mixer"=some (some (.ref C_Mx)))
  (aC_Book:W.nsIn K mainGlobals "Book"=some (some (.ref C_Book)))
  (aC_Span:W.nsIn K mainGlobals "Span"=some (some (.ref C_Span)))
  (aC_Ft:W.nsIn K mainGlobals "Foreteller"=some (some (.ref C_Ft)))
  (aC_Sk:W.nsIn K mainGlobals "Seeker"=some (some (.ref C_Sk)))
  (aC_NT:W.nsIn K mainGlobals "NoText"=some (some (.ref C_NT)))
  (aC_NY:W.nsIn K mainGlobals "NoBytes"=some (some (.ref C_NY)))
  (aC_NoMost:W.nsIn K mainGlobals "NoMost"=some (some (.ref C_NoMost)))
  (aC_NC:W.nsIn K mainGlobals "NoChance"=some (some (.ref C_NC)))
  (aC_NB:W.nsIn K mainGlobals "NoBit"=some (some (.ref C_NB)))
  (aC_NL:W.nsIn K mainGlobals "NoLooks"=some (some (.ref C_NL)))
  (aC_NP:W.nsIn K mainGlobals "NoPress"=some (some (.ref C_NP)))
  (y_q1:Dgf K mg "is_whole" vba f_q1 d_q1)
  (y_q2:Dgf K mg "is_bit" vbb f_q2 d_q2)
  (y_q3:Dgf K mg "is_chance" va7 f_q3 d_q3)
  (y_q4:Dgf K mg "is_sign" vay f_q4 d_q4)
  (y_q5:Dgf K mg "is_list_of_signs" vbd f_q5 d_q5)
  (y_q6:Dgf K mg "checked_text" va1 f_q6 d_q6)
  (y_q7:Dgf K mg "checked_bytes" vbf f_q7 d_q7)
  (y_q8:Dgf K mg "check_most" va6 f_q8 d_q8)
  (y_q9:Dgf K mg "check_chance" va8 f_q9 d_q9)
  (y_q10:Dgf K mg "check_bit" ysg f_q10 d_q10)
  (y_q11:Dgf K mg "gives" yt2 f_q11 d_q11)
  (y_q12:Dgf K mg "bits_of" yty f_q12 d_q12)
  (y_q13:Dgf K mg "decisions_of" ys4 f_q13 d_q13)
  (y_q14:Dgm K C_Even "__init__" "Even.__init__" ys5 f_q14 d_q14)
  (y_q15:Dgm K C_Even "chance" "Even.chance" yt9 f_q15 d_q15)
  (y_q16:Dgm K C_Even "seen" "Even.seen" ysf f_q16 d_q16)
  (y_q17:Dgm K C_Quick "__init__" "Quick.__init__" ysv f_q17 d_q17)
  (y_q18:Dgm K C_Quick "chance" "Quick.chance" ysd f_q18 d_q18)
  (y_q19:Dgm K C_Quick "seen" "Quick.seen" ysu f_q19 d_q19)
  (y_q20:Dgm K C_Run "__init__" "Run.__init__" ysh f_q20 d_q20)
  (y_q21:Dgm K C_Run "chance" "Run.chance" ytl f_q21 d_q21)
  (y_q22:Dgm K C_Run "seen" "Run.seen" ytd f_q22 d_q22)
  (y_q23:Dgf K mg "slot_of" yta f_q23 d_q23)
  (y_q24:Dgf K mg "is_kind" ytt f_q24 d_q24)
  (y_q25:Dgf K mg "is_place" ysw f_q25 d_q25)
  (y_q26:Dgf K mg "are_places" yt3 f_q26 d_q26)
  (y_q27:Dgf K mg "is_look" ysj f_q27 d_q27)
  (y_q28:Dgf K mg "checked_looks" ytp f_q28 d_q28)
  (y_q29:Dgf K mg "sign_back" yt7 f_q29 d_q29)
  (y_q30:Dgf K mg "context_of" ysx f_q30 d_q30)
  (y_q31:Dgm K C_Book "__init__" "Book.__init__" yse f_q31 d_q31)
  (y_q32:Dgm K C_Book "slot_at" "Book.slot_at" yts f_q32 d_q32)
  (y_q33:Dgm K C_Mx "__init__" "Mixer.__init__" ysm f_q33 d_q33)
  (y_q34:Dgm K C_Mx "mixed" "Mixer.mixed" ytb f_q34 d_q34)
  (y_q35:Dgm K C_Mx "learn" "Mixer.learn" yt4 f_q35 d_q35)
  (y_q36:Dgm K C_Ft "__init__" "Foreteller.__init__" yss f_q36 d_q36)
  (y_q37:Dgm K C_Ft "arrive" "Foreteller.arrive" yt1 f_q37 d_q37)
  (y_q38:Dgm K C_Ft "chances" "Foreteller.chances" ytk f_q38 d_q38)
  (y_q39:Dgm K C_Ft "chance" "Foreteller.chance" yth f_q39 d_q39)
  (y_q40:Dgm K C_Ft "see" "Foreteller.see" ysy f_q40 d_q40)
  (y_q41:Dgm K C_Ft "step" "Foreteller.step" ysr f_q41 d_q41)
  (y_q42:Dgm K C_Ft "step_in_sign" "Foreteller.step_in_sign" ysp f_q42 d_q42)
  (y_q43:Dgf K mg "written" ysl f_q43 d_q43)
  (y_q44:Dgf K mg "first_block" ysk f_q44 d_q44)
  (y_q45:Dgm K C_Span "__init__" "Span.__init__" ytz f_q45 d_q45)
  (y_q46:Dgm K C_Span "cut" "Span.cut" ys8 f_q46 d_q46)
  (y_q47:Dgm K C_Span "narrow" "Span.narrow" ytv f_q47 d_q47)
  (y_q48:Dgm K C_Span "holds_block" "Span.holds_block" yte f_q48 d_q48)
  (y_q49:Dgm K C_Span "told" "Span.told" ys7 f_q49 d_q49)
  (y_q50:Dgm K C_Sk "__init__" "Seeker.__init__" ysq f_q50 d_q50)
  (y_q51:Dgm K C_Sk "follow" "Seeker.follow" yt5 f_q51 d_q51)
  (y_q52:Dgm K C_Sk "byte_at" "Seeker.byte_at" ytc f_q52 d_q52)
  (y_q53:Dgm K C_Sk "bit" "Seeker.bit" yt0 f_q53 d_q53)
  (y_q54:Dgm K C_Sk "told" "Seeker.told" yua f_q54 d_q54)
  (y_q55:Dgf K mg "checked_learned" ys9 f_q55 d_q55)
  (y_q56:Dgf K mg "teach" ysn f_q56 d_q56)
  (y_q57:Dgf K mg "rows_of" ysi f_q57 d_q57)
  (a_q58:W.nsIn K mainGlobals "foretold"=some (some (.ref f_q58)))
  (l_q58:K.lookup f_q58=some ⟨oc_q58,od_q58,.func (W.fnOf "foretold" "foretold" (wk yiq) (vx yiq) (yi yiq) (.ref D_q58) kV_q58 dc_q58 pm_q58 an_q58 cd_q58 ct_q58),sl_q58⟩)
  (ld_q58:K.lookup D_q58=some ⟨.type "tuple",Do_q58,.seq #[.none] Dn_q58,Ds_q58⟩)
  (c_q58:W.codeIn K cd_q58 "foretold"=true)
  (k_q58:W.keepIn K (.ref f_q58)=true)
  (a_q59:W.nsIn K mainGlobals "cost"=some (some (.ref f_q59)))
  (l_q59:K.lookup f_q59=some ⟨oc_q59,od_q59,.func (W.fnOf "cost" "cost" (wk yio) (vx yio) (yi yio) (.ref D_q59) kV_q59 dc_q59 pm_q59 an_q59 cd_q59 ct_q59),sl_q59⟩)
  (ld_q59:K.lookup D_q59=some ⟨.type "tuple",Do_q59,.seq #[.none] Dn_q59,Ds_q59⟩)
  (c_q59:W.codeIn K cd_q59 "cost"=true)
  (k_q59:W.keepIn K (.ref f_q59)=true)
  (y_q60:Dgf K mg "press_by" ys0 f_q60 d_q60)
  (a_q61:W.nsIn K mainGlobals "pressed"=some (some (.ref f_q61)))
  (l_q61:K.lookup f_q61=some ⟨oc_q61,od_q61,.func (W.fnOf "pressed" "pressed" (wk yis) (vx yis) (yi yis) (.ref D_q61) kV_q61 dc_q61 pm_q61 an_q61 cd_q61 ct_q61),sl_q61⟩)
  (ld_q61:K.lookup D_q61=some ⟨.type "tuple",Do_q61,.seq #[.none] Dn_q61,Ds_q61⟩)
  (c_q61:W.codeIn K cd_q61 "pressed"=true)
  (k_q61:W.keepIn K (.ref f_q61)=true)
  (y_q62:Dgf K mg "bit_by" yto f_q62 d_q62)
  (y_q63:Dgf K mg "sign_by" yt8 f_q63 d_q63)
  (y_q64:Dgf K mg "text_by" ys3 f_q64 d_q64)
  (y_q65:Dgf K mg "read_by" ytm f_q65 d_q65)
  (a_q66:W.nsIn K mainGlobals "read_first"=some (some (.ref f_q66)))
  (l_q66:K.lookup f_q66=some ⟨oc_q66,od_q66,.func (W.fnOf "read_first" "read_first" (wk yir) (vx yir) (yi yir) (.ref D_q66) kV_q66 dc_q66 pm_q66 an_q66 cd_q66 ct_q66),sl_q66⟩)
  (ld_q66:K.lookup D_q66=some ⟨.type "tuple",Do_q66,.seq #[.int 1000 Dt_q66_0,.none] Dn_q66,Ds_q66⟩)
  (c_q66:W.codeIn K cd_q66 "read_first"=true)
  (k_q66:W.keepIn K (.ref f_q66)=true)
  (a_q67:W.nsIn K mainGlobals "read"=some (some (.ref f_q67)))
  (l_q67:K.lookup f_q67=some ⟨oc_q67,od_q67,.func (W.fnOf "read" "read" (wk yit) (vx yit) (yi yit) (.ref D_q67) kV_q67 dc_q67 pm_q67 an_q67 cd_q67 ct_q67),sl_q67⟩)
  (ld_q67:K.lookup D_q67=some ⟨.type "tuple",Do_q67,.seq #[.int 1000 Dt_q67_0,.none] Dn_q67,Ds_q67⟩)
  (c_q67:W.codeIn K cd_q67 "read"=true)
  (k_q67:W.keepIn K (.ref f_q67)=true)
  (y_q68:Dgf K mg "_law_cell_at" ytu f_q68 d_q68)
  (y_q69:Dgf K mg "_law_bytes" yt6 f_q69 d_q69)
  (y_q70:Dgf K mg "_law_looks" ys1 f_q70 d_q70)
  (y_q71:Dgf K mg "_law_text" ytf f_q71 d_q71)
  (y_q72:Dgf K mg "_law_whole" ytx f_q72 d_q72)
  (y_q73:Dgf K mg "_law_same" ys2 f_q73 d_q73)
  (y_q74:Dgf K mg "_law_given" ysz f_q74 d_q74)
  (y_q75:Dgf K mg "_law_cheap" ys6 f_q75 d_q75)
  (y_law:Dgf K mg "law" yti f_law d_law)
  (pg_Even:W.plainGet K C_Even Str.empty=true)
  (hd_Even:W.hasDictIn K C_Even=true)
  (po_Even:W.plainOver K C_Even=true)
  (sa_Even:W.findIn K (.ref C_Even) "__setattr__"=some (some (.builtin "object.__setattr__")))
  (mk_Even:W.makesIn K C_Even=true)
  (kc_Even:W.keepIn K (.ref C_Even)=true)
  (n_Even_noughts:W.findIn K (.ref C_Even) "noughts"=some none)
  (n_Even_ones:W.findIn K (.ref C_Even) "ones"=some none)
  (pg_Quick:W.plainGet K C_Quick Str.empty=true)
  (hd_Quick:W.hasDictIn K C_Quick=true)
  (po_Quick:W.plainOver K C_Quick=true)
  (sa_Quick:W.findIn K (.ref C_Quick) "__setattr__"=some (some (.builtin "object.__setattr__")))
  (mk_Quick:W.makesIn K C_Quick=true)
  (kc_Quick:W.keepIn K (.ref C_Quick)=true)
  (n_Quick_held:W.findIn K (.ref C_Quick) "held"=some none)
  (pg_Run:W.plainGet K C_Run Str.empty=true)
  (hd_Run:W.hasDictIn K C_Run=true)
  (po_Run:W.plainOver K C_Run=true)
  (sa_Run:W.findIn K (.ref C_Run) "__setattr__"=some (some (.builtin "object.__setattr__")))
  (mk_Run:W.makesIn K C_Run=true)
  (kc_Run:W.keepIn K (.ref C_Run)=true)
  (n_Run_last:W.findIn K (.ref C_Run) "last"=some none)
  (n_Run_length:W.findIn K (.ref C_Run) "length"=some none)
  (pg_Mx:W.plainGet K C_Mx Str.empty=true)
  (hd_Mx:W.hasDictIn K C_Mx=true)
  (po_Mx:W.plainOver K C_Mx=true)
  (sa_Mx:W.findIn K (.ref C_Mx) "__setattr__"=some (some (.builtin "object.__setattr__")))
  (mk_Mx:W.makesIn K C_Mx=true)
  (kc_Mx:W.keepIn K (.ref C_Mx)=true)
  (n_Mx_kept:W.findIn K (.ref C_Mx) "kept"=some none)
  (pg_Book:W.plainGet K C_Book Str.empty=true)
  (hd_Book:W.hasDictIn K C_Book=true)
  (po_Book:W.plainOver K C_Book=true)
  (sa_Book:W.findIn K (.ref C_Book) "__setattr__"=some (some (.builtin "object.__setattr__")))
  (mk_Book:W.makesIn K C_Book=true)
  (kc_Book:W.keepIn K (.ref C_Book)=true)
  (n_Book_look:W.findIn K (.ref C_Book) "look"=some none)
  (n_Book_slots:W.findIn K (.ref C_Book) "slots"=some none)
  (pg_Span:W.plainGet K C_Span Str.empty=true)
  (hd_Span:W.hasDictIn K C_Span=true)
  (po_Span:W.plainOver K C_Span=true)
  (sa_Span:W.findIn K (.ref C_Span) "__setattr__"=some (some (.builtin "object.__setattr__")))
  (mk_Span:W.makesIn K C_Span=true)
  (kc_Span:W.keepIn K (.ref C_Span)=true)
  (n_Span_low:W.findIn K (.ref C_Span) "low"=some none)
  (n_Span_width:W.findIn K (.ref C_Span) "width"=some none)
  (n_Span_size:W.findIn K (.ref C_Span) "size"=some none)
  (pg_Ft:W.plainGet K C_Ft Str.empty=true)
  (hd_Ft:W.hasDictIn K C_Ft=true)
  (po_Ft:W.plainOver K C_Ft=true)
  (sa_Ft:W.findIn K (.ref C_Ft) "__setattr__"=some (some (.builtin "object.__setattr__")))
  (mk_Ft:W.makesIn K C_Ft=true)
  (kc_Ft:W.keepIn K (.ref C_Ft)=true)
  (n_Ft_looks:W.findIn K (.ref C_Ft) "looks"=some none)
  (n_Ft_books:W.findIn K (.ref C_Ft) "books"=some none)
  (n_Ft_mixer:W.findIn K (.ref C_Ft) "mixer"=some none)
  (n_Ft_ended:W.findIn K (.ref C_Ft) "ended"=some none)
  (n_Ft_place:W.findIn K (.ref C_Ft) "place"=some none)
  (n_Ft_present:W.findIn K (.ref C_Ft) "present"=some none)
  (pg_Sk:W.plainGet K C_Sk Str.empty=true)
  (hd_Sk:W.hasDictIn K C_Sk=true)
  (po_Sk:W.plainOver K C_Sk=true)
  (sa_Sk:W.findIn K (.ref C_Sk) "__setattr__"=some (some (.builtin "object.__setattr__")))
  (mk_Sk:W.makesIn K C_Sk=true)
  (kc_Sk:W.keepIn K (.ref C_Sk)=true)
  (n_Sk_data:W.findIn K (.ref C_Sk) "data"=some none)
  (n_Sk_span:W.findIn K (.ref C_Sk) "span"=some none)
  (n_Sk_number:W.findIn K (.ref C_Sk) "number"=some none)
  (n_Sk_reached:W.findIn K (.ref C_Sk) "reached"=some none)
  (x_NT:XCls K C_NT)
  (r_NT:W.excIn K C_NT [.type "ValueError",.type "Exception",.type "BaseException",.type "object"] "ValueError.__new__"=true)
  (x_NY:XCls K C_NY)
  (r_NY:W.excIn K C_NY [.type "ValueError",.type "Exception",.type "BaseException",.type "object"] "ValueError.__new__"=true)
  (x_NoMost:XCls K C_NoMost)
  (r_NoMost:W.excIn K C_NoMost [.type "ValueError",.type "Exception",.type "BaseException",.type "object"] "ValueError.__new__"=true)
  (x_NC:XCls K C_NC)
  (r_NC:W.excIn K C_NC [.type "ValueError",.type "Exception",.type "BaseException",.type "object"] "ValueError.__new__"=true)
  (x_NB:XCls K C_NB)
  (r_NB:W.excIn K C_NB [.type "ValueError",.type "Exception",.type "BaseException",.type "object"] "ValueError.__new__"=true)
  (x_NL:XCls K C_NL)
  (r_NL:W.excIn K C_NL [.type "ValueError",.type "Exception",.type "BaseException",.type "object"] "ValueError.__new__"=true)
  (x_NP:XCls K C_NP)
  (r_NP:W.excIn K C_NP [.type "ValueError",.type "Exception",.type "BaseException",.type "object"] "ValueError.__new__"=true)
  (z_isinstance:W.nsIn K mainGlobals "isinstance"=some none)
  (z_int:W.nsIn K mainGlobals "int"=some none)
  (z_bool:W.nsIn K mainGlobals "bool"=some none)
  (z_list:W.nsIn K mainGlobals "list"=some none)
  (z_all:W.nsIn K mainGlobals "all"=some none)
  (z_len:W.nsIn K mainGlobals "len"=some none)
  (z_min:W.nsIn K mainGlobals "min"=some none)
  (z_max:W.nsIn K mainGlobals "max"=some none)
  (z_str:W.nsIn K mainGlobals "str"=some none)
  (z_tuple:W.nsIn K mainGlobals "tuple"=some none)
  (z_zip:W.nsIn K mainGlobals "zip"=some none)
  (z_sum:W.nsIn K mainGlobals "sum"=some none)
  (z_range:W.nsIn K mainGlobals "range"=some none)
  (v_LEAST:W.nsIn K mainGlobals "LEAST"=some (some (.int 32768 t_LEAST)))
  (v_ONE:W.nsIn K mainGlobals "ONE"=some (some (.int 16777216 t_ONE)))
  (v_MOST_SIGNS:W.nsIn K mainGlobals "MOST_SIGNS"=some (some (.int 1000 t_MOST_SIGNS)))
  (v_MOST_BYTES:W.nsIn K mainGlobals "MOST_BYTES"=some (some (.int 12000 t_MOST_BYTES)))
  (v_MOST_COUNTED:W.nsIn K mainGlobals "MOST_COUNTED"=some (some (.int 255 t_MOST_COUNTED)))
  (v_FARTHEST:W.nsIn K mainGlobals "FARTHEST"=some (some (.int 8 t_FARTHEST)))
  (v_MOST_PLACES:W.nsIn K mainGlobals "MOST_PLACES"=some (some (.int 4 t_MOST_PLACES)))
  (v_MOST_LOOKS:W.nsIn K mainGlobals "MOST_LOOKS"=some (some (.int 6 t_MOST_LOOKS)))
  (v_NO_SIGN:W.nsIn K mainGlobals "NO_SIGN"=some (some (.int 256 t_NO_SIGN)))
  (v_FIRST_WEIGHT:W.nsIn K mainGlobals "FIRST_WEIGHT"=some (some (.int 1099511627776 t_FIRST_WEIGHT)))
  (v_OWN_PARTS:W.nsIn K mainGlobals "OWN_PARTS"=some (some (.int 31 t_OWN_PARTS)))
  (v_MOST_FIGURES:W.nsIn K mainGlobals "MOST_FIGURES"=some (some (.int 48 t_MOST_FIGURES)))
  (v_NODES_END:W.nsIn K mainGlobals "NODES_END"=some (some (.int 256 t_NODES_END)))
  (v_FIRST_WIDTH:W.nsIn K mainGlobals "FIRST_WIDTH"=some (some (.int 1099511627776 t_FIRST_WIDTH)))
  (v_FIRST_SIZE:W.nsIn K mainGlobals "FIRST_SIZE"=some (some (.int 5 t_FIRST_SIZE)))
  (v_LEAST_WIDTH:W.nsIn K mainGlobals "LEAST_WIDTH"=some (some (.int 4294967296 t_LEAST_WIDTH)))
  (v_FIGURES:W.nsIn K mainGlobals "FIGURES"=some (some (.int 24 t_FIGURES)))
  (wa_WORTHS:W.nsIn K mainGlobals "WORTHS"=some (some (.ref W_WORTHS)))
  (wl_WORTHS:K.lookup W_WORTHS=some ⟨.type "tuple",wd_WORTHS,.seq #[.int 128 wt_WORTHS_0,.int 64 wt_WORTHS_1,.int 32 wt_WORTHS_2,.int 16 wt_WORTHS_3,.int 8 wt_WORTHS_4,.int 4 wt_WORTHS_5,.int 2 wt_WORTHS_6,.int 1 wt_WORTHS_7] wn_WORTHS,ws_WORTHS⟩)
  (wa_KINDS:W.nsIn K mainGlobals "KINDS"=some (some (.ref W_KINDS)))
  (wl_KINDS:K.lookup W_KINDS=some ⟨.type "tuple",wd_KINDS,.seq #[.str "even" wt_KINDS_0,.str "quick" wt_KINDS_1,.str "run" wt_KINDS_2] wn_KINDS,ws_KINDS⟩)
 :∃ fd:FuncData,(∀ (s:Shared) (v:Value),BindsTo s fd ⟨[v],[]⟩ [("_law_script",v)])/\∀ base:Heap,K.In base->base.Ns mainGlobals mg->wc l.prog w K mg base CX0 13 fa fd ["_law_script"] (yhj K):=by
 have e:=hfa.symm.trans y_law.m
 cases e
 have F_q58:=ybh (st:=yiq) l_q58 c_q58 k_q58
 have F_q59:=ybh (st:=yio) l_q59 c_q59 k_q59
 have F_q61:=ybh (st:=yis) l_q61 c_q61 k_q61
 have F_q66:=ybh (st:=yir) l_q66 c_q66 k_q66
 have F_q67:=ybh (st:=yit) l_q67 c_q67 k_q67
 have T:Txt K mg ⟨f_q1,d_q1,f_q2,d_q2,f_q3,d_q3,f_q4,d_q4,f_q5,d_q5,f_q6,d_q6,f_q7,d_q7,f_q8,d_q8,f_q9,d_q9,f_q10,d_q10,f_q11,d_q11,f_q12,d_q12,f_q13,d_q13,f_q14,d_q14,f_q15,d_q15,f_q16,d_q16,f_q17,d_q17,f_q18,d_q18,f_q19,d_q19,f_q20,d_q20,f_q21,d_q21,f_q22,d_q22,f_q23,d_q23,f_q24,d_q24,f_q25,d_q25,f_q26,d_q26,f_q27,d_q27,f_q28,d_q28,f_q29,d_q29,f_q30,d_q30,f_q31,d_q31,f_q32,d_q32,f_q33,d_q33,f_q34,d_q34,f_q35,d_q35,f_q36,d_q36,f_q37,d_q37,f_q38,d_q38,f_q39,d_q39,f_q40,d_q40,f_q41,d_q41,f_q42,d_q42,f_q43,d_q43,f_q44,d_q44,f_q45,d_q45,f_q46,d_q46,f_q47,d_q47,f_q48,d_q48,f_q49,d_q49,f_q50,d_q50,f_q51,d_q51,f_q52,d_q52,f_q53,d_q53,f_q54,d_q54,f_q55,d_q55,f_q56,d_q56,f_q57,d_q57,f_q58,_,D_q58,f_q59,_,D_q59,f_q60,d_q60,f_q61,_,D_q61,f_q62,d_q62,f_q63,d_q63,f_q64,d_q64,f_q65,d_q65,f_q66,_,D_q66,Dt_q66_0,f_q67,_,D_q67,Dt_q67_0,f_q68,d_q68,f_q69,d_q69,f_q70,d_q70,f_q71,d_q71,f_q72,d_q72,f_q73,d_q73,f_q74,d_q74,f_q75,d_q75,fa,d_law,C_Even,C_Quick,C_Run,C_Mx,C_Book,C_Span,C_Ft,C_Sk,C_NT,C_NY,C_NoMost,C_NC,C_NB,C_NL,C_NP,t_LEAST,t_ONE,t_MOST_SIGNS,t_MOST_BYTES,t_MOST_COUNTED,t_FARTHEST,t_MOST_PLACES,t_MOST_LOOKS,t_NO_SIGN,t_FIRST_WEIGHT,t_OWN_PARTS,t_MOST_FIGURES,t_NODES_END,t_FIRST_WIDTH,t_FIRST_SIZE,t_LEAST_WIDTH,t_FIGURES,W_WORTHS,W_KINDS⟩:=⟨
  y_q1.d1 fun _ _ _ _ _ _ _=>rfl,
  y_q2.d1 fun _ _ _ _ _ _ _=>rfl,
  y_q3.d1 fun _ _ _ _ _ _ _=>rfl,
  y_q4.d1 fun _ _ _ _ _ _ _=>rfl,
  y_q5.d2 fun _ _ _ _ _ _ _ _=>rfl,
  y_q6.d1 fun _ _ _ _ _ _ _=>rfl,
  y_q7.d1 fun _ _ _ _ _ _ _=>rfl,
  y_q8.d1 fun _ _ _ _ _ _ _=>rfl,
  y_q9.d1 fun _ _ _ _ _ _ _=>rfl,
  y_q10.d1 fun _ _ _ _ _ _ _=>rfl,
  y_q11.d2 fun _ _ _ _ _ _ _ _=>rfl,
  y_q12.d1 fun _ _ _ _ _ _ _=>rfl,
  y_q13.d1 fun _ _ _ _ _ _ _=>rfl,
  y_q14.d1 fun _ _ _ _ _ _ _=>rfl,
  y_q15.d1 fun _ _ _ _ _ _ _=>rfl,
  y_q16.d2 fun _ _ _ _ _ _ _ _=>rfl,
  y_q17.d1 fun _ _ _ _ _ _ _=>rfl,
  y_q18.d1 fun _ _ _ _ _ _ _=>rfl,
  y_q19.d2 fun _ _ _ _ _ _ _ _=>rfl,
  y_q20.d1 fun _ _ _ _ _ _ _=>rfl,
  y_q21.d1 fun _ _ _ _ _ _ _=>rfl,
  y_q22.d2 fun _ _ _ _ _ _ _ _=>rfl,
  y_q23.d1 fun _ _ _ _ _ _ _=>rfl,
  y_q24.d1 fun _ _ _ _ _ _ _=>rfl,
  y_q25.d1 fun _ _ _ _ _ _ _=>rfl,
  y_q26.d1 fun _ _ _ _ _ _ _=>rfl,
  y_q27.d1 fun _ _ _ _ _ _ _=>rfl,
  y_q28.d1 fun _ _ _ _ _ _ _=>rfl,
  y_q29.d2 fun _ _ _ _ _ _ _ _=>rfl,
  y_q30.d3 fun _ _ _ _ _ _ _ _ _=>rfl,
  y_q31.d2 fun _ _ _ _ _ _ _ _=>rfl,
  y_q32.d3 fun _ _ _ _ _ _ _ _ _=>rfl,
  y_q33.d2 fun _ _ _ _ _ _ _ _=>rfl,
  y_q34.d2 fun _ _ _ _ _ _ _ _=>rfl,
  y_q35.d3 fun _ _ _ _ _ _ _ _ _=>rfl,
  y_q36.d2 fun _ _ _ _ _ _ _ _=>rfl,
  y_q37.d1 fun _ _ _ _ _ _ _=>rfl,
  y_q38.d1 fun _ _ _ _ _ _ _=>rfl,
  y_q39.d1 fun _ _ _ _ _ _ _=>rfl,
  y_q40.d2 fun _ _ _ _ _ _ _ _=>rfl,
  y_q41.d2 fun _ _ _ _ _ _ _ _=>rfl,
  y_q42.d2 fun _ _ _ _ _ _ _ _=>rfl,
  y_q43.d2 fun _ _ _ _ _ _ _ _=>rfl,
  y_q44.d2 fun _ _ _ _ _ _ _ _=>rfl,
  y_q45.d1 fun _ _ _ _ _ _ _=>rfl,
  y_q46.d2 fun _ _ _ _ _ _ _ _=>rfl,
  y_q47.d3 fun _ _ _ _ _ _ _ _ _=>rfl,
  y_q48.d2 fun _ _ _ _ _ _ _ _=>rfl,
  y_q49.d1 fun _ _ _ _ _ _ _=>rfl,
  y_q50.d2 fun _ _ _ _ _ _ _ _=>rfl,
  y_q51.d1 fun _ _ _ _ _ _ _=>rfl,
  y_q52.d2 fun _ _ _ _ _ _ _ _=>rfl,
  y_q53.d2 fun _ _ _ _ _ _ _ _=>rfl,
  y_q54.d1 fun _ _ _ _ _ _ _=>rfl,
  y_q55.d1 fun _ _ _ _ _ _ _=>rfl,
  y_q56.d2 fun _ _ _ _ _ _ _ _=>rfl,
  y_q57.d3 fun _ _ _ _ _ _ _ _ _=>rfl,
  F_q58,
  yau.binds (ps:=["looks","text","learned"]) (ds:=[.none]) (j:=2) rfl F_q58 ld_q58 rfl fun _ _ _ _ _ _ us hl=>match us,hl with | [_,_],_=>⟨_,rfl,rfl⟩,
  yau.binds (ps:=["looks","text","learned"]) (ds:=[]) (j:=3) rfl F_q58 ld_q58 rfl fun _ _ _ _ _ _ us hl=>match us,hl with | [_,_,_],_=>⟨_,rfl,rfl⟩,
  W.mg_of X G a_q58,
  F_q59,
  yau.binds (ps:=["looks","text","learned"]) (ds:=[.none]) (j:=2) rfl F_q59 ld_q59 rfl fun _ _ _ _ _ _ us hl=>match us,hl with | [_,_],_=>⟨_,rfl,rfl⟩,
  yau.binds (ps:=["looks","text","learned"]) (ds:=[]) (j:=3) rfl F_q59 ld_q59 rfl fun _ _ _ _ _ _ us hl=>match us,hl with | [_,_,_],_=>⟨_,rfl,rfl⟩,
  W.mg_of X G a_q59,
  y_q60.d2 fun _ _ _ _ _ _ _ _=>rfl,
  F_q61,
  yau.binds (ps:=["looks","text","learned"]) (ds:=[.none]) (j:=2) rfl F_q61 ld_q61 rfl fun _ _ _ _ _ _ us hl=>match us,hl with | [_,_],_=>⟨_,rfl,rfl⟩,
  yau.binds (ps:=["looks","text","learned"]) (ds:=[]) (j:=3) rfl F_q61 ld_q61 rfl fun _ _ _ _ _ _ us hl=>match us,hl with | [_,_,_],_=>⟨_,rfl,rfl⟩,
  W.mg_of X G a_q61,
  y_q62.d2 fun _ _ _ _ _ _ _ _=>rfl,
  y_q63.d2 fun _ _ _ _ _ _ _ _=>rfl,
  y_q64.d3 fun _ _ _ _ _ _ _ _ _=>rfl,
  y_q65.d3 fun _ _ _ _ _ _ _ _ _=>rfl,
  F_q66,
  yau.binds (ps:=["looks","data","most","learned"]) (ds:=[.none]) (j:=3) rfl F_q66 ld_q66 rfl fun _ _ _ _ _ _ us hl=>match us,hl with | [_,_,_],_=>⟨_,rfl,rfl⟩,
  yau.binds (ps:=["looks","data","most","learned"]) (ds:=[.int 1000 Dt_q66_0,.none]) (j:=2) rfl F_q66 ld_q66 rfl fun _ _ _ _ _ _ us hl=>match us,hl with | [_,_],_=>⟨_,rfl,rfl⟩,
  yau.binds (ps:=["looks","data","most","learned"]) (ds:=[]) (j:=4) rfl F_q66 ld_q66 rfl fun _ _ _ _ _ _ us hl=>match us,hl with | [_,_,_,_],_=>⟨_,rfl,rfl⟩,
  W.mg_of X G a_q66,
  F_q67,
  yau.binds (ps:=["looks","data","most","learned"]) (ds:=[.none]) (j:=3) rfl F_q67 ld_q67 rfl fun _ _ _ _ _ _ us hl=>match us,hl with | [_,_,_],_=>⟨_,rfl,rfl⟩,
  yau.binds (ps:=["looks","data","most","learned"]) (ds:=[.int 1000 Dt_q67_0,.none]) (j:=2) rfl F_q67 ld_q67 rfl fun _ _ _ _ _ _ us hl=>match us,hl with | [_,_],_=>⟨_,rfl,rfl⟩,
  yau.binds (ps:=["looks","data","most","learned"]) (ds:=[]) (j:=4) rfl F_q67 ld_q67 rfl fun _ _ _ _ _ _ us hl=>match us,hl with | [_,_,_,_],_=>⟨_,rfl,rfl⟩,
  W.mg_of X G a_q67,
  y_q68.d2 fun _ _ _ _ _ _ _ _=>rfl,
  y_q69.d1 fun _ _ _ _ _ _ _=>rfl,
  y_q70.d2 fun _ _ _ _ _ _ _ _=>rfl,
  y_q71.d2 fun _ _ _ _ _ _ _ _=>rfl,
  y_q72.d1 fun _ _ _ _ _ _ _=>rfl,
  y_q73.d2 fun _ _ _ _ _ _ _ _=>rfl,
  y_q74.d2 fun _ _ _ _ _ _ _ _=>rfl,
  y_q75.d4 fun _ _ _ _ _ _ _ _ _ _=>rfl,
  y_law.d1 fun _ _ _ _ _ _ _=>rfl,
  ⟨pg_Even,hd_Even,po_Even,sa_Even⟩,
  W.mg_of X G aC_Even,
  ⟨mk_Even,y_q14.m.1,y_q14.m.2,kc_Even⟩,
  n_Even_noughts,
  n_Even_ones,
  ⟨pg_Quick,hd_Quick,po_Quick,sa_Quick⟩,
  W.mg_of X G aC_Quick,
  ⟨mk_Quick,y_q17.m.1,y_q17.m.2,kc_Quick⟩,
  n_Quick_held,
  ⟨pg_Run,hd_Run,po_Run,sa_Run⟩,
  W.mg_of X G aC_Run,
  ⟨mk_Run,y_q20.m.1,y_q20.m.2,kc_Run⟩,
  n_Run_last,
  n_Run_length,
  ⟨pg_Mx,hd_Mx,po_Mx,sa_Mx⟩,
  W.mg_of X G aC_Mx,
  ⟨mk_Mx,y_q33.m.1,y_q33.m.2,kc_Mx⟩,
  n_Mx_kept,
  ⟨pg_Book,hd_Book,po_Book,sa_Book⟩,
  W.mg_of X G aC_Book,
  ⟨mk_Book,y_q31.m.1,y_q31.m.2,kc_Book⟩,
  n_Book_look,
  n_Book_slots,
  ⟨pg_Span,hd_Span,po_Span,sa_Span⟩,
  W.mg_of X G aC_Span,
  ⟨mk_Span,y_q45.m.1,y_q45.m.2,kc_Span⟩,
  n_Span_low,
  n_Span_width,
  n_Span_size,
  ⟨pg_Ft,hd_Ft,po_Ft,sa_Ft⟩,
  W.mg_of X G aC_Ft,
  ⟨mk_Ft,y_q36.m.1,y_q36.m.2,kc_Ft⟩,
  n_Ft_looks,
  n_Ft_books,
  n_Ft_mixer,
  n_Ft_ended,
  n_Ft_place,
  n_Ft_present,
  ⟨pg_Sk,hd_Sk,po_Sk,sa_Sk⟩,
  W.mg_of X G aC_Sk,
  ⟨mk_Sk,y_q50.m.1,y_q50.m.2,kc_Sk⟩,
  n_Sk_data,
  n_Sk_span,
  n_Sk_number,
  n_Sk_reached,
  W.mg_of X G aC_NT,
  W.mg_of X G aC_NY,
  W.mg_of X G aC_NoMost,
  W.mg_of X G aC_NC,
  W.mg_of X G aC_NB,
  W.mg_of X G aC_NL,
  W.mg_of X G aC_NP,
  x_NT,
  r_NT,
  x_NY,
  r_NY,
  x_NoMost,
  r_NoMost,
  x_NC,
  r_NC,
  x_NB,
  r_NB,
  x_NL,
  r_NL,
  x_NP,
  r_NP,
  W.mg_none_of X G z_isinstance,
  W.mg_none_of X G z_int,
  W.mg_none_of X G z_bool,
  W.mg_none_of X G z_list,
  W.mg_none_of X G z_all,
  W.mg_none_of X G z_len,
  W.mg_none_of X G z_min,
  W.mg_none_of X G z_max,
  W.mg_none_of X G z_str,
  W.mg_none_of X G z_tuple,
  W.mg_none_of X G z_zip,
  W.mg_none_of X G z_sum,
  W.mg_none_of X G z_range,
  W.mg_of X G v_LEAST,
  W.mg_of X G v_ONE,
  W.mg_of X G v_MOST_SIGNS,
  W.mg_of X G v_MOST_BYTES,
  W.mg_of X G v_MOST_COUNTED,
  W.mg_of X G v_FARTHEST,
  W.mg_of X G v_MOST_PLACES,
  W.mg_of X G v_MOST_LOOKS,
  W.mg_of X G v_NO_SIGN,
  W.mg_of X G v_FIRST_WEIGHT,
  W.mg_of X G v_OWN_PARTS,
  W.mg_of X G v_MOST_FIGURES,
  W.mg_of X G v_NODES_END,
  W.mg_of X G v_FIRST_WIDTH,
  W.mg_of X G v_FIRST_SIZE,
  W.mg_of X G v_LEAST_WIDTH,
  W.mg_of X G v_FIGURES,
  W.mg_of X G wa_WORTHS,
  fun H=>.inr ⟨_,_,_,wl_WORTHS,rfl,rfl,(by show 8 <= sizeLine; decide),(.cons ⟨_,rfl⟩ (.cons ⟨_,rfl⟩ (.cons ⟨_,rfl⟩ (.cons ⟨_,rfl⟩ (.cons ⟨_,rfl⟩ (.cons ⟨_,rfl⟩ (.cons ⟨_,rfl⟩ (.cons ⟨_,rfl⟩ .nil))))))))⟩,
  W.mg_of X G wa_KINDS,
  fun H=>.inr ⟨_,_,_,wl_KINDS,rfl,rfl,(by show 3 <= sizeLine; decide),(.cons ⟨_,rfl⟩ (.cons ⟨_,rfl⟩ (.cons ⟨_,rfl⟩ .nil)))⟩⟩
 refine ⟨d_law,fun s v=>?_,fun base _ _=>ywk T⟩
 obtain ⟨_,_,_,_,_,_,_,_,_,rfl,_,_⟩:=y_law.F.ex
 exact .of_eq rfl
theorem walk {l:W.OpenLaw} {q:Program} {loose:List Str} {XP:(Str->Option Value)->Heap->Prop} {YP:World->Heap->Prop} {d:DefRec} {K:Params->W.Frag} (hn:l.most=some 63) (hdf:d.params.defaults=[])
  (hY:∀ (w:World) (h:Heap),YP w h->(K w.params).In h)
  (F:∀ (w:World) (mg:Str->Option Value) (fa:Addr) (h:Heap),(K w.params).In h->h.Ns mainGlobals mg->mg d.name=some (.ref fa) ->
   ∃ fd:FuncData,(∀ (s:Shared) (u:Value),BindsTo s fd ⟨[u],[]⟩ [("_law_script",u)])/\∀ base:Heap,(K w.params).In base->base.Ns mainGlobals mg->wc l.prog w (K w.params) mg base CX0 13 fa fd ["_law_script"] (yhj (K w.params))) :
  W.WalkO q loose XP YP l.row.toRowW d [] (fun f vs=>PySem.call f vs) :=
 L2.walk_of (n:=63) (k:=13) (x:="_law_script") (CX:=fun _=>CX0) (sp:=fun w=>yhj (K w.params)) hn (by decide) hdf ⟨rfl,by decide,by decide⟩ hY F (fun _ _ a ns hl _ hS=>⟨a,ns,rfl,hS,hl,fun _=>rfl⟩) fun _ _ _ _ _ z=>z
end Law
open PySem PySem.W PyProof.Rows
namespace PySem.W.Fast
def tw5724778472770853790:Unit:=()
def tw16166910861649480546:Unit:=()
def tw8163963121272918307:Unit:=()
def tw14951992301135373037:Unit:=()
def tw11426353737370367304:Unit:=()
def tw2422207828227925743:Unit:=()
def tw13384208620759376861:Unit:=()
def tw10889661173392889223:Unit:=()
def tw14430382808464614378:Unit:=()
def tw7751392190825610123:Unit:=()
def tw5398957586939636038:Unit:=()
def tw308503503565203571:Unit:=()
def tw15300745027074220711:Unit:=()
def tw8296010838235519783:Unit:=()
def tw2692082051385246554:Unit:=()
def tw11038036055126098973:Unit:=()
def tw12890050232677658401:Unit:=()
def tw9876222252495775714:Unit:=()
def tw3584828063895053307:Unit:=()
def tw13211262683650126514:Unit:=()
def tw4597626839173141748:Unit:=()
def tw767565571424298309:Unit:=()
def tw14317505647504914806:Unit:=()
def tw16392797264337073500:Unit:=()
def tw12753422636456767092:Unit:=()
def tw17227317910955333160:Unit:=()
def tw4390064588221484047:Unit:=()
def tw16098131596878643123:Unit:=()
def tw3518727382609804195:Unit:=()
def tw17210756522869950902:Unit:=()
def tw6339848211649402695:Unit:=()
def tw3486036166042201664:Unit:=()
def tw10365342526184945585:Unit:=()
def tw16878726767757759271:Unit:=()
def tw10604828774171455422:Unit:=()
def tw18170404642893787553:Unit:=()
def tw10877151310994709961:Unit:=()
def tw12296813685315457976:Unit:=()
def tw333277911627456568:Unit:=()
def tw7644806444173345441:Unit:=()
def tw13519115544738751690:Unit:=()
def tw14917929050659915187:Unit:=()
def tw8890970261644642601:Unit:=()
def tw10761896225063114307:Unit:=()
def tw9302121753339847927:Unit:=()
def tw4114245178001788718:Unit:=()
def tw4238564773206645376:Unit:=()
def tw17383439348727169978:Unit:=()
def tw15359404959022128539:Unit:=()
def tw1107231727039991643:Unit:=()
def tw1761517701429362760:Unit:=()
def tw3078047001865802782:Unit:=()
def tw13906739099578870178:Unit:=()
def tw12440048192850361300:Unit:=()
def tw6826599991857249975:Unit:=()
def tw12948151610310856871:Unit:=()
def tw9622947257500977787:Unit:=()
def tw3987730139292977093:Unit:=()
def tw1410206652288055760:Unit:=()
def tw1749229384797505606:Unit:=()
def tw1370098001117531210:Unit:=()
def tw7739388145932395210:Unit:=()
def tw14995066080767312200:Unit:=()
def tw4069537393333031277:Unit:=()
def tw4047453022433778281:Unit:=()
def tw5496398618486932213:Unit:=()
def tw17823172835043758481:Unit:=()
def tw14018257604934125257:Unit:=()
def tw11983298440632622604:Unit:=()
def tw14367124374538478057:Unit:=()
def tw14809903611311524357:Unit:=()
def tw13963857449422724216:Unit:=()
def tw6941906426363540834:Unit:=()
def tw7173863674386070642:Unit:=()
def tw4111320773201785212:Unit:=()
def tw2476268676563822598:Unit:=()
def tw6778311676659094981:Unit:=()
def tw13914624503497997101:Unit:=()
def tw11116453771354859023:Unit:=()
def tw13067456147413020620:Unit:=()
def tw10345220721036274424:Unit:=()
def tw4200713299212327662:Unit:=()
def tw16251630545994453073:Unit:=()
def tw12475442401796464276:Unit:=()
def tw13042491017729533239:Unit:=()
def tw9148211986804624873:Unit:=()
def tw2190824814977691668:Unit:=()
def tw3419878324817458284:Unit:=()
def tw1561120588136543555:Unit:=()
def tw13862830196225384280:Unit:=()
def tw12707430507052099408:Unit:=()
def tw16110610529424974442:Unit:=()
def tw3795009069709672807:Unit:=()
def tw108565588825723157:Unit:=()
def tw6609579314763730932:Unit:=()
def tw3497637679054082968:Unit:=()
def tw5107146916178229347:Unit:=()
def tw17480514424280139517:Unit:=()
def tw4510977750995242120:Unit:=()
def tw18093261141695710009:Unit:=()
def tw14936536358247543142:Unit:=()
def tw10765955815660072663:Unit:=()
def tw14224629405270381748:Unit:=()
def tw15041965591400076482:Unit:=()
def tw16701037263003306616:Unit:=()
def tw14417203869335732606:Unit:=()
def tw6675790512588308839:Unit:=()
def tw4162940782314619787:Unit:=()
def tw3132070947914063079:Unit:=()
def tw6185437565142911925:Unit:=()
def tw11704100232721713714:Unit:=()
def tw1926007627588185159:Unit:=()
def tw13158619960435898946:Unit:=()
def tw16917149669416679321:Unit:=()
def tw14648441791075770374:Unit:=()
def tw14219680606752265353:Unit:=()
def tw10962008570635123817:Unit:=()
def tw2317880160908212669:Unit:=()
def tw8736681958663522123:Unit:=()
def tw14507288479810540300:Unit:=()
def tw3909457434760791029:Unit:=()
def tw11433814482789783422:Unit:=()
def tw14496038880814725238:Unit:=()
def tw15892891095011291232:Unit:=()
def tw6521227059377128178:Unit:=()
def tw9351872227059255562:Unit:=()
def tw11332949846989039800:Unit:=()
def tw15351627688378178406:Unit:=()
def tw16987216704947100954:Unit:=()
def tw4705178375864638536:Unit:=()
def tw3988021437064735158:Unit:=()
def tw17831326084249512540:Unit:=()
def tw15969155081622872793:Unit:=()
def tw302514693486625862:Unit:=()
def tw17878900205249541023:Unit:=()
def tw5842459453144587470:Unit:=()
def tw17121753493386092624:Unit:=()
def tw18164968840627940465:Unit:=()
def tw4561162145938263293:Unit:=()
def tw6587117738401059914:Unit:=()
def tw1805223389457915281:Unit:=()
def tw3548747041896266398:Unit:=()
def tw7576580146049659613:Unit:=()
def tw15179078632346546028:Unit:=()
def tw13145145264106766884:Unit:=()
def tw17193130534364770044:Unit:=()
def tw417136315462902513:Unit:=()
def tw12890792116305635099:Unit:=()
def tw14369673477400173173:Unit:=()
def tw571170927882119481:Unit:=()
def tw616886018621812080:Unit:=()
def tw10084519084423153127:Unit:=()
def tw11594667735105137696:Unit:=()
def tw5075193377438387938:Unit:=()
def tw3551665939444888767:Unit:=()
def tw17399835610062317069:Unit:=()
def tw12518882607498516671:Unit:=()
def tw11704513934124504423:Unit:=()
def tw10473024185193740268:Unit:=()
def tw3287276158699617043:Unit:=()
def tw16005351341888369119:Unit:=()
def tw2608423603662950321:Unit:=()
def tw8391132764852594448:Unit:=()
def tw16510361538863247976:Unit:=()
def tw655719006146484622:Unit:=()
def tw9294521836877894854:Unit:=()
def tw13905754877276866804:Unit:=()
def tw2027996804966303463:Unit:=()
def tw8105633359047046139:Unit:=()
def tw9487228437626341326:Unit:=()
def tw9571700302527563616:Unit:=()
def tw13769537134709449232:Unit:=()
def tw16015052662371383748:Unit:=()
def tw639249510145199503:Unit:=()
def tw10352577636090192417:Unit:=()
def tw12036674239158690781:Unit:=()
def tw10038421434794846764:Unit:=()
def tw13772046118873093057:Unit:=()
def tw13522342026287055429:Unit:=()
def tw10236156385336410892:Unit:=()
def tw13105658075381164885:Unit:=()
def tw7409913040134366443:Unit:=()
def tw13549733662467783282:Unit:=()
def tw15761109003474084987:Unit:=()
def tw11968657786463571836:Unit:=()
def tw8034006194133069927:Unit:=()
def tw6700199448539097247:Unit:=()
def tw3630593529533938450:Unit:=()
def tw16073769296550231701:Unit:=()
def tw14128896488948322399:Unit:=()
def tw7147667208888059696:Unit:=()
def tw3024466913572037618:Unit:=()
def tw12666800984239945243:Unit:=()
def tw529549027694890128:Unit:=()
def tw4605400226808009478:Unit:=()
def tw15122909305801434848:Unit:=()
def tw14822169781493199466:Unit:=()
def tw9734706055313165254:Unit:=()
def tw2686151791872549810:Unit:=()
def tw12160515767322485078:Unit:=()
def tw12286462431958728600:Unit:=()
def tw1076176076598937879:Unit:=()
def tw9387618811125717405:Unit:=()
def tw14144386009826432130:Unit:=()
def tw18281072512634166065:Unit:=()
def tw8430222373082399700:Unit:=()
def tw11224691935380096942:Unit:=()
def tw18268830910624120883:Unit:=()
def tw13250677867422522008:Unit:=()
def tw140213298175372400:Unit:=()
def tw2818989357888755666:Unit:=()
def tw11263513254287218638:Unit:=()
def tw7385975310936067776:Unit:=()
def tw15866012144403210185:Unit:=()
def tw4824168741016902362:Unit:=()
def tw8648750573945383739:Unit:=()
def tw1177828269060304891:Unit:=()
def tw14319963486455725292:Unit:=()
def tw7930376057743883383:Unit:=()
def tw882212816050061289:Unit:=()
def tw11529276693490336494:Unit:=()
def tw2819663492606261085:Unit:=()
def tw8573966842292196263:Unit:=()
def tw3270395605098338930:Unit:=()
def tw9294609236546515161:Unit:=()
def tw5532650691946554895:Unit:=()
def tw12787454896023493943:Unit:=()
def tw15676220287282052892:Unit:=()
def tw14478029555973275473:Unit:=()
def tw17162470268290420697:Unit:=()
def tw717300529636003731:Unit:=()
def tw9711773327636172935:Unit:=()
def tw9467310707813086859:Unit:=()
def tw7581847607825617086:Unit:=()
def tw6289636648581505570:Unit:=()
def tw17832083304459121303:Unit:=()
def tw11337338777944698583:Unit:=()
def tw16504799925740126919:Unit:=()
def tw16396026431543530763:Unit:=()
def tw6635423539638417362:Unit:=()
def tw13046871560040358715:Unit:=()
def tw3016901027915022953:Unit:=()
def tw4549952299129785797:Unit:=()
def tw391293265642453132:Unit:=()
def tw14261188161301404713:Unit:=()
def tw8901585522033152177:Unit:=()
def tw7469391431093112191:Unit:=()
def tw465361067763334314:Unit:=()
def tw612689006987886543:Unit:=()
def tw16506275887273361876:Unit:=()
def tw6289214916562164371:Unit:=()
def tw11941291012950599291:Unit:=()
def tw1790494578517119059:Unit:=()
def tw1119366304650381134:Unit:=()
def tw296362260302662799:Unit:=()
def tw2809088503562558420:Unit:=()
def tw8474190635560702442:Unit:=()
def tw16560809147893123483:Unit:=()
def tw7514199808565497273:Unit:=()
def tw5657803924289988647:Unit:=()
def tw4344741166545251520:Unit:=()
def tw16058687638637808480:Unit:=()
def tw12633302527487825120:Unit:=()
def tw13935071920921838342:Unit:=()
def tw13363648243707401894:Unit:=()
def tw14945664878739368780:Unit:=()
def tw18392848789148942152:Unit:=()
def tw17843203389585355280:Unit:=()
def tw16098024359517252486:Unit:=()
def tw4625270106285478700:Unit:=()
def tw286087155015305080:Unit:=()
def tw5927072410569157758:Unit:=()
def tw2439920017139830713:Unit:=()
def tw4976940454269537529:Unit:=()
def tw3156555268651290477:Unit:=()
def tw4527402519161958313:Unit:=()
def tw2724522371635608128:Unit:=()
def tw10654618004023044024:Unit:=()
def tw11473654179898932064:Unit:=()
def tw5145863758729970602:Unit:=()
def tw8127913198299260882:Unit:=()
def tw5465733454938829255:Unit:=()
def tw14005469097919203292:Unit:=()
def tw9226151102360212434:Unit:=()
def tw9022593758200642800:Unit:=()
def tw7470992292468699223:Unit:=()
def tw8901399237615128768:Unit:=()
def tw12702910152401130319:Unit:=()
def tw4496838911363567815:Unit:=()
def tw901731506378315408:Unit:=()
def tw571162660413019978:Unit:=()
def tw9465658123697591940:Unit:=()
def tw2934299984307209228:Unit:=()
def tw1828538134335625071:Unit:=()
def tw6471735153490869094:Unit:=()
def tw2249925248231416020:Unit:=()
def tw10693670605134553209:Unit:=()
def tw14901003905117967096:Unit:=()
def tw7383620997934606296:Unit:=()
def tw4305745372739153001:Unit:=()
def tw9255169313979671884:Unit:=()
def tw1245948990580215084:Unit:=()
def tw16889096365179452391:Unit:=()
def tw12478205936167846339:Unit:=()
def tw10982998785627309690:Unit:=()
def tw6176894141151910024:Unit:=()
def tw5479120433116789191:Unit:=()
def tw4595322795433455637:Unit:=()
def tw3508081778619640546:Unit:=()
def tw13225239892412977390:Unit:=()
def tw2790933668358845371:Unit:=()
def tw9220135854492413949:Unit:=()
def tw11469864479065706745:Unit:=()
def tw12601167147058403567:Unit:=()
def tw8737850795441619711:Unit:=()
def tw16433456331829456086:Unit:=()
def tw18336766656546147618:Unit:=()
def tw14666937755559691047:Unit:=()
def tw1425541923049596502:Unit:=()
def tw10189596644796848091:Unit:=()
def tw1412246721226144850:Unit:=()
def tw17481810240955935543:Unit:=()
def tw8948050117532619942:Unit:=()
def tw8325239172047277763:Unit:=()
def tw16546131247959748663:Unit:=()
def tw9736457275340262782:Unit:=()
def tw11012119790039568646:Unit:=()
def tw10245524619922419025:Unit:=()
def tw14210885121534845290:Unit:=()
def tw3777526103641386669:Unit:=()
def tw7316818298498434065:Unit:=()
def tw15427252366711869408:Unit:=()
def tw11671037688882725693:Unit:=()
def tw10999343124070204190:Unit:=()
def tw14330686987823069138:Unit:=()
def tw18434790486239840965:Unit:=()
def tw4020477430846196100:Unit:=()
def tw5053213477977710948:Unit:=()
def tw13580755630727757405:Unit:=()
def tw1203029075331432056:Unit:=()
def tw5616960040384369592:Unit:=()
def tw370751229677403521:Unit:=()
def tw287470530391848936:Unit:=()
def tw17109716295961844990:Unit:=()
def tw10196830878470608834:Unit:=()
def tw18026319348319034012:Unit:=()
def tw13314403508460239138:Unit:=()
def tw10511088846357570498:Unit:=()
def tw13965660968022630795:Unit:=()
def tw5170884161017725535:Unit:=()
def tw12725619243190954178:Unit:=()
def tw12073574197521036534:Unit:=()
def tw7585126476007775830:Unit:=()
def tw672430176127323421:Unit:=()
def tw2810022359281375021:Unit:=()
def tw845926179578970900:Unit:=()
def tw3028442221800661190:Unit:=()
def tw2562354918322840157:Unit:=()
def tw4601876051569574600:Unit:=()
def tw2660114763259740552:Unit:=()
def tw11929197464073477110:Unit:=()
def tw1609880710799867864:Unit:=()
def tw13425509611718616701:Unit:=()
def tw5171582255011819787:Unit:=()
def tw14401522576747892340:Unit:=()
def tw9467158507164374427:Unit:=()
def tw12881756650338185683:Unit:=()
def tw11869311969998716636:Unit:=()
def tw16037232136881516910:Unit:=()
def tw4169945919326684825:Unit:=()
def tw5682907361111111746:Unit:=()
def tw7581075857504367006:Unit:=()
def tw16902327668833455489:Unit:=()
def tw15718980148677893278:Unit:=()
def tw16577480990622304657:Unit:=()
def tw12968360057647717795:Unit:=()
def tw5727203649598241755:Unit:=()
def tw4691726329120025998:Unit:=()
def tw3104749666459306571:Unit:=()
def tw2940796264158334506:Unit:=()
def tw5172412039705415648:Unit:=()
def tw9179281781692499327:Unit:=()
def tw280625656351547492:Unit:=()
def tw2783170561940183729:Unit:=()
def tw17541729655434137351:Unit:=()
def tw15346919756008913208:Unit:=()
def tw14593152889987135441:Unit:=()
def tw1490700883475970806:Unit:=()
def tw9224544721982395781:Unit:=()
def tw10277176942862261116:Unit:=()
def tw8089451335772722895:Unit:=()
def tw18385942400875318159:Unit:=()
def tw14707185725544468507:Unit:=()
def tw1464497360431141568:Unit:=()
def tw6223902208191539357:Unit:=()
def tw1720819923201212874:Unit:=()
def tw5617510749969420677:Unit:=()
def tw8040076946219442277:Unit:=()
def tw5189453421253842849:Unit:=()
def tw14603911684551437759:Unit:=()
def tw15369307446296083322:Unit:=()
def tw11770003559300252556:Unit:=()
def tw2797330670477132005:Unit:=()
def tw16848254232855830587:Unit:=()
def tw14006930148205425401:Unit:=()
def tw477477579359093344:Unit:=()
def tw9987368550158744499:Unit:=()
def tw8558088299918212611:Unit:=()
def tw16286344300244234070:Unit:=()
def tw7893085399827859213:Unit:=()
def tw313210785837319231:Unit:=()
def tw11216659523649581861:Unit:=()
def tw967334928035945983:Unit:=()
def tw10576787990514820243:Unit:=()
def tw2148576591961415009:Unit:=()
def tw16602967711915654326:Unit:=()
def tw7864448975876861650:Unit:=()
def tw4567272021073132666:Unit:=()
def tw7720029112762282754:Unit:=()
def tw16650220851073373571:Unit:=()
def tw16335120432902301927:Unit:=()
def tw526772578866297878:Unit:=()
def tw16351919866359156627:Unit:=()
def tw930339145169197613:Unit:=()
def tw13094999671291232234:Unit:=()
def tw17476455430198844027:Unit:=()
def tw11020201588884969797:Unit:=()
def tw553404333745885215:Unit:=()
def tw16815957819618547421:Unit:=()
def tw6077846114497733465:Unit:=()
def tw1558812281133752253:Unit:=()
def tw15074938562747609876:Unit:=()
def tw7227348162856231943:Unit:=()
def tw4043728342808273967:Unit:=()
def tw1466365043474364817:Unit:=()
def tw5769284943571834222:Unit:=()
def tw5799930804326606563:Unit:=()
def tw8695195825003672662:Unit:=()
def tw14560860050866581154:Unit:=()
def tw15268943863966278202:Unit:=()
def tw14993362544799675426:Unit:=()
def tw12850410718785207313:Unit:=()
def tw12654191771474983777:Unit:=()
def tw14346378978374621121:Unit:=()
def tw7264588970954434744:Unit:=()
def tw5466232242305029189:Unit:=()
def tw10161935537527336933:Unit:=()
def tw12035199936697303695:Unit:=()
def tw6810025919754372824:Unit:=()
def tw9969660329351845988:Unit:=()
def tw8533063849096956654:Unit:=()
def tw4120647621625570245:Unit:=()
def tw5243490493369936498:Unit:=()
def tw8275631629410499260:Unit:=()
def tw18036683866710720944:Unit:=()
def tw17699785984961544394:Unit:=()
def tw1978706927187945383:Unit:=()
def tw2986597377362638055:Unit:=()
def tw4174702564058317415:Unit:=()
def tw5845534928695865227:Unit:=()
def tw11229145959445955076:Unit:=()
def tw11429029521077978692:Unit:=()
def tw15187233948986254231:Unit:=()
def tw17394381986767701023:Unit:=()
def tw17044199247244475345:Unit:=()
def tw11288455371563593197:Unit:=()
def tw7382902084728180516:Unit:=()
def tw7445799188117572327:Unit:=()
def tw11504095753246413396:Unit:=()
def tw1977463895571439666:Unit:=()
def tw6698170927182767298:Unit:=()
def tw17339556134512278640:Unit:=()
def tw11822338593714292383:Unit:=()
def tw18055726784584217153:Unit:=()
def tw14352058362042170850:Unit:=()
def tw8075579143831876519:Unit:=()
def tw2155673846265671777:Unit:=()
def tw16973034885844289569:Unit:=()
def tw6569708395371754125:Unit:=()
def tw6839351321567782286:Unit:=()
def tw11712552878974463660:Unit:=()
def tw11993411557593317372:Unit:=()
def tw4850892554687184318:Unit:=()
def tw16324674392882015652:Unit:=()
def tw8830194112506811418:Unit:=()
def tw7148725551139709143:Unit:=()
def tw12060343245588583710:Unit:=()
def tw604967429634901700:Unit:=()
def tw613901478135479097:Unit:=()
def tw3818537720133216598:Unit:=()
def tw5585514297702078320:Unit:=()
def tw12968280313001218130:Unit:=()
def tw17821503003328661640:Unit:=()
def tw11335896601448292030:Unit:=()
def tw9413411621766194405:Unit:=()
def tw9151608509334742588:Unit:=()
def tw6532623468929159605:Unit:=()
def tw9695605594005748727:Unit:=()
def tw8653380720541286873:Unit:=()
def tw18426038316100721588:Unit:=()
def tw1474841758543784909:Unit:=()
def tw6961565628263054245:Unit:=()
def tw5104399522579558538:Unit:=()
def tw4212957602510843452:Unit:=()
def tw6889502267881115232:Unit:=()
def tw6356675266944166724:Unit:=()
def tw2949161081998746094:Unit:=()
def tw14098470676324871534:Unit:=()
def tw10485196232069624881:Unit:=()
def tw9929522204727703865:Unit:=()
def tw13024259473967981078:Unit:=()
def tw1728673418774573274:Unit:=()
def tw16991983798328435728:Unit:=()
def tw1359684388705818517:Unit:=()
def tw13880122522078945821:Unit:=()
def tw16973290699367218819:Unit:=()
def tw7013541186149155657:Unit:=()
def tw1423395572971056541:Unit:=()
def tw879807185618070098:Unit:=()
def tw9745642843926828503:Unit:=()
def tw16123177371149137610:Unit:=()
def tw1985776526728963075:Unit:=()
def tw9947537281853002849:Unit:=()
def tw11916389900913580440:Unit:=()
def tw4565779012190821988:Unit:=()
def tw9680984595467569348:Unit:=()
def tw18170104647641357888:Unit:=()
def tw14301989510787467033:Unit:=()
def tw15498465796364267935:Unit:=()
def tw16877300668145149407:Unit:=()
def tw13043474587123679972:Unit:=()
def tw2962979167265128492:Unit:=()
def tw14208659560750549632:Unit:=()
def tw17570087434558996640:Unit:=()
def tw2773636423820733201:Unit:=()
def tw4316535225337647398:Unit:=()
def tw13456801591272153716:Unit:=()
def tw3686654179398057633:Unit:=()
def tw7356696347298019783:Unit:=()
def tw2837680619983822079:Unit:=()
def tw9724217155550756358:Unit:=()
def tw18293426872437531519:Unit:=()
def tw810758596640322238:Unit:=()
def tw8108296420471314809:Unit:=()
def tw3009593332104534305:Unit:=()
def tw1956288260410358040:Unit:=()
def tw16750811040317249038:Unit:=()
def tw15433201121321318270:Unit:=()
def tw17462236051570753137:Unit:=()
def tw16629775080432868162:Unit:=()
def tw9101242796058065757:Unit:=()
def tw8769593050774915782:Unit:=()
def tw6589649885268361845:Unit:=()
def tw5309063072642130145:Unit:=()
end PySem.W.Fast
def PySem.W.Fast.tw15224270232640259619 : Unit := ()
def PySem.W.Fast.tw12533470249210038968 : Unit := ()
def PySem.W.Fast.tw11945912088297965425 : Unit := ()
def PySem.W.Fast.tw4861288355137522258 : Unit := ()
def PySem.W.Fast.tw12570446183071149104 : Unit := ()
def PySem.W.Fast.tw4308457299262189176 : Unit := ()
def PySem.W.Fast.tw1998329316675243177 : Unit := ()
def PySem.W.Fast.tw10099044759005912396 : Unit := ()
def PySem.W.Fast.tw15733466882870709318 : Unit := ()
def PySem.W.Fast.tw6669799589192931907 : Unit := ()
def PySem.W.Fast.tw4745462402061742807 : Unit := ()
def PySem.W.Fast.tw18224775871316989117 : Unit := ()
def PySem.W.Fast.tw6766946845954822895 : Unit := ()
def PySem.W.Fast.tw9835310897035011860 : Unit := ()
def PySem.W.Fast.tw16512863178412257428 : Unit := ()
def PySem.W.Fast.tw743133543605936648 : Unit := ()
def PySem.W.Fast.tw16367844414070445861 : Unit := ()
def PySem.W.Fast.tw13381641082629542869 : Unit := ()
def PySem.W.Fast.tw6448802013978159023 : Unit := ()
def PySem.W.Fast.tw12069160720224318440 : Unit := ()
def PySem.W.Fast.tw15936833143746382189 : Unit := ()
def PySem.W.Fast.tw18018146329340477042 : Unit := ()
set_option maxRecDepth 100000 in
set_option maxHeartbeats 0 in
theorem PySem.Challenge.cw_foretell_k90_whole_pressed_holds : PySem.Challenge.rw_foretell_k90_whole_pressed.Holds := by
 w_on; o_law; k_head; (case hw => w_witness2)
 k_fill
 refine Law.walk (l := PySem.Challenge.rw_foretell_k90_whole_pressed) rfl rfl (fun w h Y => PySem.W.kIn_of Y) ?F
 case F =>
  intro w mg fa h KX G hmg
  refine' Law.all_mk KX G hmg ?_ ?_ ?_ ?_ ?_ ?_ ?_ ?_ ?_ ?_ ?_ ?_ ?_ ?_ ?_ ?_ ?_ ?_ ?_ ?_ ?_ ?_ ?_ ?_ ?_ ?_ ?_ ?_ ?_ ?_ ?_ ?_ ?_ ?_ ?_ ?_ ?_ ?_ ?_ ?_ ?_ ?_ ?_ ?_ ?_ ?_ ?_ ?_ ?_ ?_ ?_ ?_ ?_ ?_ ?_ ?_ ?_ ?_ ?_ ?_ ?_ ?_ ?_ ?_ ?_ ?_ ?_ ?_ ?_ ?_ ?_ ?_ ?_ ?_ ?_ ?_ ?_ ?_ ?_ ?_ ?_ ?_ ?_ ?_ ?_ ?_ ?_ ?_ ?_ ?_ ?_ ?_ ?_ ?_ ?_ ?_ ?_ ?_ ?_ ?_ ?_ ?_ ?_ ?_ ?_ ?_ ?_ ?_ ?_ ?_ ?_ ?_ ?_ ?_ ?_ ?_ ?_ ?_ ?_ ?_ ?_ ?_ ?_ ?_ ?_ ?_ ?_ ?_ ?_ ?_ ?_ ?_ ?_ ?_ ?_ ?_ ?_ ?_ ?_ ?_ ?_ ?_ ?_ ?_ ?_ ?_ ?_ ?_ ?_ ?_ ?_ ?_ ?_ ?_ ?_ ?_ ?_ ?_ ?_ ?_ ?_ ?_ ?_ ?_ ?_ ?_ ?_ ?_ ?_ ?_ ?_ ?_ ?_ ?_ ?_ ?_ ?_ ?_ ?_ ?_ ?_ ?_ ?_ ?_ ?_ ?_ ?_ ?_ ?_ ?_ ?_ ?_ ?_ ?_ ?_ ?_ ?_ ?_ ?_ ?_ ?_ ?_ ?_ ?_ ?_ ?_ ?_ ?_ ?_ ?_ ?_ ?_ ?_ ?_ ?_ ?_ ?_ ?_ ?_ ?_ ?_ ?_ ?_ ?_ ?_ ?_ ?_ ?_
  any_goals first | (refine' L2.dgf_mk KX G ?_ ?_ ?_ ?_; any_goals k_is; done) | (refine' L2.dgm_mk ?_ ?_ ?_ ?_ ?_; any_goals k_is; done) | (refine' L2.XCls.mk ?_ ?_ ?_ ?_ ?_ ?_ ?_ ?_ <;> k_is) | k_is | kit_is | k_exc
#print axioms PySem.Challenge.cw_foretell_k90_whole_pressed_holds
