import PyProof.Rows.All
import Wide.All
import OpenK.AllK
import Wide.FinOn
import PyProof.EqAt
import PyProof.EqKinds
import PyProof.TupleCall
import Lean
import PySem.Challenge.RW_foretell_k24_forks_and_askings
set_option Elab.async false
set_option linter.all false
set_option maxRecDepth 100000
set_option maxHeartbeats 4000000
namespace L2
open PySem PySem.Spec PyProof.Rows
abbrev Key:=Sum Int Str
def yf8:Key->Value->Bool
 | .inl k,v=>Value.isInt k v
 | .inr x,v=>Value.isStrOf x v
def yvb (w:World):Key->Int
 | .inl k=>hashInt k
 | .inr x=>hashStr w x
theorem vt:∀ {k:Key} {v:Value},yf8 k v=true->(∃ i t,k=Sum.inl i/\v=Value.int i t)\/(∃ x t,k=Sum.inr x/\v=Value.str x t)
 | .inl i,v,h=>by
  obtain ⟨t,e⟩:=Value.isInt_shape (k:=i) (v:=v) h
  exact .inl ⟨i,t,rfl,e⟩
 | .inr x,v,h=>by
  obtain ⟨t,e⟩:=Value.isStrOf_shape (x:=x) (v:=v) h
  exact .inr ⟨x,t,rfl,e⟩
theorem ygx (i:Int) (t:Tok):yf8 (.inl i) (.int i t)=true:=by simp [yf8,Value.isInt]
theorem ygk (x:Str) (t:Tok):yf8 (.inr x) (.str x t)=true:=by simp [yf8,Value.isStrOf]
theorem yrj (a b:Int):decide ((Sum.inl a:Key)=Sum.inl b)=(a == b):=by
 by_cases e:a=b
 ·subst e; simp
 ·have h:¬ (Sum.inl a:Key)=Sum.inl b:=fun q=>e (Sum.inl.inj q)
  rw [decide_eq_false h]
  exact (beq_eq_false_iff_ne.mpr e).symm
theorem ypb (a b:Str):decide ((Sum.inr a:Key)=Sum.inr b)=decide (a=b):=by
 by_cases e:a=b
 ·subst e; simp
 ·have h:¬ (Sum.inr a:Key)=Sum.inr b:=fun q=>e (Sum.inr.inj q)
  rw [decide_eq_false h,decide_eq_false e]
theorem yps (a:Int) (b:Str):decide ((Sum.inl a:Key)=Sum.inr b)=false:=decide_eq_false (fun q=>nomatch q)
theorem yp5 (a:Str) (b:Int):decide ((Sum.inr a:Key)=Sum.inl b)=false:=decide_eq_false (fun q=>nomatch q)
def wq (prog:Program) (w:World):PySem.KeyKind prog w Key where
 is:=yf8
 hash:=yvb w
 inj:=fun v a b ha hb=>by
  rcases vt ha with ⟨i,t,rfl,rfl⟩ | ⟨x,t,rfl,rfl⟩
  ·rcases vt hb with ⟨j,u,rfl,e⟩ | ⟨y,u,rfl,e⟩
   ·injection e with e1 _; rw [e1]
   ·exact nomatch e
  ·rcases vt hb with ⟨j,u,rfl,e⟩ | ⟨y,u,rfl,e⟩
   ·exact nomatch e
   ·injection e with e1 _; rw [e1]
 byValue:=fun k v h=>by
  rcases vt h with ⟨i,t,rfl,rfl⟩ | ⟨x,t,rfl,rfl⟩ <;> rfl
 pyHash:=fun hv h=>by
  rcases vt hv with ⟨i,t,rfl,rfl⟩ | ⟨x,t,rfl,rfl⟩
  ·exact wpAny_pyHash_int h
  ·exact wpAny_pyHash_str h
 eqBool:=fun hu hv h=>by
  rcases vt hu with ⟨i,t,rfl,rfl⟩ | ⟨x,t,rfl,rfl⟩
  ·rcases vt hv with ⟨j,u,rfl,rfl⟩ | ⟨y,u,rfl,rfl⟩
   ·rw [yrj] at h; exact wpAny_eqBool_int h
   ·rw [yps] at h; exact SeqAt.EqAt.int_str i t y u _ _ _ _ h
  ·rcases vt hv with ⟨j,u,rfl,rfl⟩ | ⟨y,u,rfl,rfl⟩
   ·rw [yp5] at h; exact SeqAt.EqAt.str_int x t j u _ _ _ _ h
   ·rw [ypb] at h; exact wpAny_eqBool_str h
 «strs»:=fun k x t v h=>by
  rcases vt h with ⟨i,u,rfl,e⟩ | ⟨y,u,rfl,e⟩
  ·exact nomatch e
  ·injection e with e1 _
   subst e1
   cases v <;> rfl
theorem yde (prog:Program) (w:World) (i:Int) (t:Tok):(wq prog w).is (.inl i) (.int i t)=true:=ygx i t
theorem ydy (prog:Program) (w:World) (x:Str) (t:Tok):(wq prog w).is (.inr x) (.str x t)=true:=ygk x t
end L2
namespace L2
open PySem PySem.Spec PyProof.Rows
inductive V where
 | non | bl (b:Bool) | int (i:Int) | str (x:Str) | byt (b:Array UInt8) | flt (b:UInt64) | ref (a:Addr) | ty (n:String)
 deriving DecidableEq
def wn:V->Value->Prop
 | .non,u=>u=Value.none
 | .bl b,u=>u=Value.bool b
 | .int i,u=>∃ t,u=Value.int i t
 | .str x,u=>∃ t,u=Value.str x t
 | .byt b,u=>∃ t,u=Value.bytes b t
 | .flt b,u=>∃ t,u=Value.float b t
 | .ref a,u=>u=Value.ref a
 | .ty n,u=>u=Value.type n
abbrev vp:List V->List Value->Prop:=Paired wn
theorem vp.length {xs:List V} {us:List Value} (r:vp xs us):xs.length=us.length:=Paired.length r
theorem vp.get:∀ {xs:List V} {us:List Value} {i:Nat} {x:V},vp xs us->xs[i]?=some x->∃ u,us[i]?=some u/\wn x u
 | _,_,_,_,.nil,e=>by simp at e
 | _,_,0,_,.cons r _,e=>by simp at e; subst e; exact ⟨_,rfl,r⟩
 | _,_,i+1,x,.cons _ t,e=>by
  obtain ⟨u,h1,h2⟩:=vp.get (i:=i) (x:=x) t (by simpa using e)
  exact ⟨u,by simpa using h1,h2⟩
theorem vp.append:∀ {xs ys:List V} {us ws:List Value},vp xs us->vp ys ws->vp (xs++ys) (us++ws)
 | _,_,_,_,.nil,s=>s
 | _,_,_,_,.cons r t,s=>.cons r (vp.append t s)
theorem vp.take:∀ {xs:List V} {us:List Value} (n:Nat),vp xs us->vp (xs.take n) (us.take n)
 | _,_,0,_=>.nil
 | _,_,_+1,.nil=>.nil
 | _,_,n+1,.cons r t=>.cons r (vp.take n t)
theorem vp.drop:∀ {xs:List V} {us:List Value} (n:Nat),vp xs us->vp (xs.drop n) (us.drop n)
 | _,_,0,r=>r
 | _,_,_+1,.nil=>.nil
 | _,_,n+1,.cons _ t=>vp.drop n t
def yc4:Option V->Option Value->Prop
 | some v,some u=>wn v u
 | none,none=>True
 | _,_=>False
def KV {κ:Type}:List (κ × V)->List (κ × Value)->Prop:=Paired fun (p:κ × V) (q:κ × Value)=>p.1=q.1/\wn p.2 q.2
def kV:Key->V
 | .inl i=>.int i
 | .inr x=>.str x
inductive HO where
 | lst (xs:List V)
 | tup (xs:List V)
 | dK (kvs:List (Key × V)) | dT (kvs:List (List Key × V))
 | set (S:Int->Bool) (n:Nat)
 | ins (C dx:Addr) (fs:List (Str × V))
 | own (x:Addr)
 | xd (fs:List (Str × V))
 | met (f x:Addr)
 | rng (lo hi:Int)
 | frz (o:Obj) (u:HO)
 | tbl (ps:Array Value)
 | ext (φ:Heap->Prop)
abbrev Hp:=Addr->Option HO
def upd (H:Hp) (a:Addr) (o:HO):Hp:=fun b=>if b=a then some o else H b
theorem ya {H:Hp} {a:Addr} {o:HO}:upd H a o a=some o:=by unfold upd; rw [if_pos rfl]
theorem yi {H:Hp} {a b:Addr} {o:HO} (h:b≠a):upd H a o b=H b:=by unfold upd; rw [if_neg h]
theorem xu {H:Hp} {a b:Addr} {o u:HO} (h:H a=some o) (h':H b=some u) (d:o≠u):a≠b:=by
 intro e; subst e; rw [h] at h'; exact d (Option.some.inj h')
theorem yd {H:Hp} {a b:Addr} {o:HO} (h:H a=some o) (h':H b=none):a≠b:=by
 intro e; subst e; rw [h] at h'; cases h'
section
variable (P:Program) (w:World)
def wj (H:Hp) (h:Heap) (a:Addr):HO->Prop
 | .lst xs=>xs.length <= sizeLine/\∃ (its:List Value) (n:Nat),vp xs its/\h.get? a=some { cls:=.type "list",data:=.seq its.toArray n }
 | .tup xs=>xs.length <= sizeLine/\∃ its:List Value,vp xs its/\IsTup h a its.toArray
 | .dK kvs=>kvs.length <= sizeLine/\(a == sysModules)=false/\∃ vs,KV kvs vs/\h.DictOf (wq P w) a vs
 | .dT kvs=>kvs.length <= sizeLine/\(a == sysModules)=false/\∃ xs:List (List Key × Addr × Value),
   Paired (fun (p:List Key × V) (q:List Key × Addr × Value)=>p.1=q.1/\H q.2.1=some (.tup (p.1.map kV))/\wn p.2 q.2.2) kvs xs /\
   ∃ o es ep,h.get? a=some o/\o.ExactDict/\o.data=.dict es ep/\es.toList=xs.map (entryOfKey (tupleKind (wq P w)))/\(xs.map (·.1)).Nodup
 | .set S n=>h.SetOf (intKind P w) a S n
 | .ins C dx fs=>H dx=some (.own a)/\fs.length <= 1000/\dx≠a/\h.get? a=some (W.instObj C dx) /\
   ∃ mA,h.Ns1 dx mA/\(∀ f,yc4 (fs.lookup f) (mA f))/\PySem.Within mA (fs.map (·.1))
 | .own _=>∃ o,h.get? a=some o
 | .xd fs=>∃ mA,h.Ns1 a mA/\∀ f,yc4 (fs.lookup f) (mA f)
 | .rng lo hi=>∃ t u v,h.get? a=some { cls:=.type "range",data:=.fields #[.int lo t,.int hi u,.int 1 v] }
 | .frz o u=>h.get? a=some o/\wj H h a u
 | .tbl ps=>h.get? a=some { cls:=.none,data:=.fields ps }
 | .met f x=>h.get? a=some (W.methodObj (.ref f) (.ref x))
 | .ext φ=>φ h/\(∃ o,h.get? a=some o)/\∀ h1 h2:Heap,φ h1->(∀ o,h1.get? a=some o->h2.get? a=some o)->φ h2
def HOk (H:Hp) (h:Heap):Prop:=∀ a o,H a=some o->wj P w H h a o
end
section
variable {P:Program} {w:World} {H H':Hp} {h h':Heap} {a:Addr} {o:HO}
theorem wj.lt (x:wj P w H h a o):a < h.objs.size:=by
 cases o with
 | lst xs=>obtain ⟨_,_,_,_,e⟩:=x; exact Heap.lt_size e
 | tup xs=>obtain ⟨_,_,_,p⟩:=x; exact p.lt
 | dK kvs=>obtain ⟨_,_,_,_,o,_,_,e,_⟩:=x; exact Heap.lt_size e
 | dT kvs=>obtain ⟨_,_,_,_,o,_,_,e,_⟩:=x; exact Heap.lt_size e
 | set S n=>obtain ⟨o,_,_,_,e,_⟩:=x; exact Heap.lt_size e
 | ins C dx fs=>obtain ⟨_,_,_,e,_⟩:=x; exact Heap.lt_size e
 | own y=>obtain ⟨_,e⟩:=x; exact Heap.lt_size e
 | xd fs=>obtain ⟨_,⟨_,_,_,e,_⟩,_⟩:=x; exact Heap.lt_size e
 | rng lo hi=>obtain ⟨_,_,_,e⟩:=x; exact Heap.lt_size e
 | frz ob u=>obtain ⟨e,_⟩:=x; exact Heap.lt_size e
 | tbl ps=>exact Heap.lt_size (show h.get? a=some _ from x)
 | met f y=>exact Heap.lt_size (show h.get? a=some _ from x)
 | ext φ=>obtain ⟨_,⟨_,e⟩,_⟩:=x; exact Heap.lt_size e
theorem Paired.mapP {α β:Type} {F G:α->β->Prop}:∀ {l₁:List α} {l₂:List β},Paired F l₁ l₂->(∀ a b,F a b->G a b)->Paired G l₁ l₂
 | _,_,.nil,_=>.nil
 | _,_,.cons r t,f=>.cons (f _ _ r) (Paired.mapP t f)
theorem wj.stay (x:wj P w H h a o) (k:∀ b u,(b=a\/H b=some (.own a))->h.get? b=some u->h'.get? b=some u)
  (ho:∀ b,H b=some (.own a)->H' b=some (.own a)) (ht:∀ b xs,H b=some (.tup xs)->H' b=some (.tup xs)):wj P w H' h' a o:=by
 induction o with
 | lst xs=>obtain ⟨z,its,n,r,e⟩:=x; exact ⟨z,its,n,r,k _ _ (.inl rfl) e⟩
 | tup xs=>obtain ⟨z,its,r,ob,e,c⟩:=x; exact ⟨z,its,r,ob,k _ _ (.inl rfl) e,c⟩
 | dK kvs=>obtain ⟨z,y,vs,r,ob,es,ep,e,c⟩:=x; exact ⟨z,y,vs,r,ob,es,ep,k _ _ (.inl rfl) e,c⟩
 | dT kvs =>
  obtain ⟨z,y,xs,r,ob,es,ep,e,c⟩:=x
  exact ⟨z,y,xs,Paired.mapP r fun p q z=>⟨z.1,ht _ _ z.2.1,z.2.2⟩,ob,es,ep,k _ _ (.inl rfl) e,c⟩
 | set S n=>obtain ⟨ob,es,ep,t,e,c⟩:=x; exact ⟨ob,es,ep,t,k _ _ (.inl rfl) e,c⟩
 | ins C dx fs =>
  obtain ⟨d,z,ne,e,mA,⟨od,es,ep,e2,c⟩,r⟩:=x
  exact ⟨ho _ d,z,ne,k _ _ (.inl rfl) e,mA,⟨od,es,ep,k _ _ (.inr d) e2,c⟩,r⟩
 | own y=>obtain ⟨ob,e⟩:=x; exact ⟨ob,k _ _ (.inl rfl) e⟩
 | xd fs=>obtain ⟨mA,⟨od,es,ep,e,c⟩,r⟩:=x; exact ⟨mA,⟨od,es,ep,k _ _ (.inl rfl) e,c⟩,r⟩
 | rng lo hi=>obtain ⟨t,u,v,e⟩:=x; exact ⟨t,u,v,k _ _ (.inl rfl) e⟩
 | frz ob u ih=>obtain ⟨e,q⟩:=x; exact ⟨k _ _ (.inl rfl) e,ih q⟩
 | tbl ps =>
  have e:h.get? a=some { cls:=.none,data:=.fields ps }:=x
  show h'.get? a=some { cls:=.none,data:=.fields ps }
  exact k a _ (.inl rfl) e
 | met f y =>
  have e:h.get? a=some (W.methodObj (.ref f) (.ref y)):=x
  show h'.get? a=some (W.methodObj (.ref f) (.ref y))
  exact k a _ (.inl rfl) e
 | ext φ=>obtain ⟨p,⟨o,e⟩,st⟩:=x; exact ⟨st _ _ p fun o q=>k _ _ (.inl rfl) q,⟨o,k _ _ (.inl rfl) e⟩,st⟩
theorem HOk.lt (x:HOk P w H h) (e:H a=some o):a < h.objs.size:=(x a o e).lt
theorem HOk.fresh (x:HOk P w H h) (e:h.objs.size <= a):H a=none:=by
 cases q:H a with
 | none=>rfl
 | some u=>exact absurd (Nat.lt_of_lt_of_le (x.lt q) e) (Nat.lt_irrefl _)
theorem HOk.kept (x:HOk P w H h) (k:∀ b u,h.get? b=some u->h'.get? b=some u):HOk P w H h':=fun a o e =>
 (x a o e).stay (fun b u _ q=>k b u q) (fun _ q=>q) fun _ _ q=>q
theorem HOk.laid (x:HOk P w H h) (k:∀ b u,h.get? b=some u->h'.get? b=some u) (hp:h.objs.size <= a) (new:wj P w (upd H a o) h' a o):HOk P w (upd H a o) h':=fun b u e=>by
 have hn:=x.fresh hp
 by_cases hb:b=a
 ·subst hb; rw [ya] at e; cases e; exact new
 ·rw [yi hb] at e
  exact (x b u e).stay (fun c v _ q=>k c v q) (fun c q=>by rw [yi (yd q hn)]; exact q) fun c xs q=>by rw [yi (yd q hn)]; exact q
end
def Rd (H:Hp) (a:Addr) (u:HO):Prop:=H a=some u\/∃ o,H a=some (.frz o u)
theorem Rd.ok {P:Program} {w:World} {H:Hp} {h:Heap} {a:Addr} {u:HO} (r:Rd H a u) (x:HOk P w H h):wj P w H h a u:=by
 rcases r with r | ⟨o,r⟩
 ·exact x a u r
 ·obtain ⟨_,q⟩:=x a _ r
  exact q
def Mut:Option HO->Prop
 | some (.lst _)=>True
 | some (.dK _)=>True
 | some (.dT _)=>True
 | some (.set _ _)=>True
 | some (.ins _ _ _)=>True
 | some (.ext _)=>True
 | _=>False
section
variable {P:Program} {w:World} {H:Hp} {h h':Heap} {x e:Addr} {o':HO}
theorem HOk.write (ok:HOk P w H h) (mu:Mut (H x)) (he:e=x\/H e=some (.own x)) (k:∀ b u,b≠e->h.get? b=some u->h'.get? b=some u) (heo:∃ u,h'.get? e=some u)
  (new:wj P w (upd H x o') h' x o'):HOk P w (upd H x o') h':=fun b u q=>by
 have nown:∀ c y,H c=some (.own y)->c≠x:=fun c y r z=>by subst z; rw [r] at mu; exact mu
 have ntup:∀ c xs,H c=some (.tup xs)->c≠x:=fun c xs r z=>by subst z; rw [r] at mu; exact mu
 by_cases hb:b=x
 ·subst hb; rw [ya] at q; cases q; exact new
 ·rw [yi hb] at q
  by_cases hbe:b=e
  ·have q':H b=some (.own x):=by
    rcases he with z | z
    ·exact absurd (hbe.trans z) hb
    ·rw [hbe]; exact z
   rw [q] at q'; cases q'
   obtain ⟨v,hv⟩:=heo
   exact ⟨v,by rw [hbe]; exact hv⟩
  ·refine (ok b u q).stay (fun c v hc r=>k c v ?_ r) (fun c r=>by rw [yi (nown c b r)]; exact r) fun c xs r=>by rw [yi (ntup c xs r)]; exact r
   rcases hc with rfl | hc
   ·exact hbe
   ·rintro rfl
    rcases he with z | z
    ·exact nown c b hc z
    ·rw [hc] at z; cases z; exact hb rfl
end
structure Un (fs ex:List Addr) (H H':Hp) (h h':Heap):Prop where
 keep:∀ b o,h.get? b=some o->H b=none->b∉fs->b∉ex->h'.get? b=some o
 slot:∀ b o,h.get? b=some o->H b=none->b∈fs->b∉ex->∃ sl,h'.get? b=some { o with slots:=sl }
 free:∀ b o,h.get? b=some o->H b=none->b∉ex->H' b=none
 there:∀ b o,h.get? b=some o->b∉ex->∃ o',h'.get? b=some o'
 tups:∀ b xs,H b=some (.tup xs)->H' b=some (.tup xs)
 frzs:∀ b o u,H b=some (.frz o u)->H' b=some (.frz o u)
 tbls:∀ b ps,H b=some (.tbl ps)->∃ more,H' b=some (.tbl (ps++more))
section
variable {fs fs' ex ex':List Addr} {H H1 H2:Hp} {h h1 h2 h':Heap} {a x e:Addr} {o:HO}
theorem Un.any (u:Un fs ex H H1 h h1) {b:Addr} {ob:Obj} (q:h.get? b=some ob) (n:H b=none) (hx:b∉ex):∃ sl,h1.get? b=some { ob with slots:=sl }:=by
 by_cases hb:b∈fs
 ·exact u.slot b ob q n hb hx
 ·exact ⟨ob.slots,u.keep b ob q n hb hx⟩
theorem Un.kept (k:∀ b u,h.get? b=some u->h'.get? b=some u):Un fs ex H H h h' :=
 ⟨fun b ob q _ _ _=>k b ob q,fun b ob q _ _ _=>⟨ob.slots,k b ob q⟩,fun _ _ _ n _=>n,fun b ob q _=>⟨ob,k b ob q⟩,fun _ _ q=>q,fun _ _ _ q=>q,fun _ ps q=>⟨#[],by rw [q]; simp⟩⟩
theorem Un.refl:Un fs ex H H h h:=Un.kept fun _ _ q=>q
theorem Un.laid (k:∀ b u,h.get? b=some u->h'.get? b=some u) (hp:h.objs.size <= a) (hn:H a=none):Un fs ex H (upd H a o) h h' where
 keep:=fun b u q _ _ _=>k b u q
 slot:=fun b u q _ _ _=>⟨u.slots,k b u q⟩
 free:=fun b u q n _=>by rw [yi (Nat.ne_of_lt (Nat.lt_of_lt_of_le (Heap.lt_size q) hp))]; exact n
 there:=fun b u q _=>⟨u,k b u q⟩
 tups:=fun b xs q=>by rw [yi (yd q hn)]; exact q
 frzs:=fun b u xs q=>by rw [yi (yd q hn)]; exact q
 tbls:=fun b ps q=>⟨#[],by rw [yi (yd q hn),q]; simp⟩
theorem Un.write (mu:Mut (H x)) (he:e=x\/H e=some (.own x)) (k:∀ b u,b≠e->h.get? b=some u->h'.get? b=some u) (heo:∃ u,h'.get? e=some u):Un fs ex H (upd H x o) h h':=by
 have hx:∀ b,H b=none->b≠x:=fun b n z=>by subst z; rw [n] at mu; exact mu
 have hb:∀ b,H b=none->b≠e:=fun b n z=>by
  subst z
  rcases he with r | r
  ·exact hx b n r
  ·rw [n] at r; cases r
 have hm:∀ b u,H b=some u->¬ Mut (some u)->b≠x:=fun b u q nm z=>by subst z; rw [q] at mu; exact nm mu
 refine ⟨fun b u q n _ _=>k b u (hb b n) q,fun b u q n _ _=>⟨u.slots,k b u (hb b n) q⟩,fun b u q n _=>by rw [yi (hx b n)]; exact n,fun b u q _=>?_,
  fun b xs q=>by rw [yi (hm b _ q fun z=>z)]; exact q,fun b u xs q=>by rw [yi (hm b _ q fun z=>z)]; exact q,fun b ps q=>⟨#[],by rw [yi (hm b _ q fun z=>z),q]; simp⟩⟩
 by_cases hbe:b=e
 ·subst hbe; exact heo
 ·exact ⟨u,k b u hbe q⟩
end
def trk (h:Heap) (H:Hp):List Addr:=(List.range h.objs.size).filter fun a=>(H a).isSome
def yj1 (h:Heap) (H:Hp):Heap:=W.hideAll h (trk h H)
theorem ygq (h:Heap) (H:Hp):(yj1 h H).objs.size=h.objs.size:=W.hideAll_size _ _
theorem yio {h:Heap} {H:Hp} {b:Addr} {o:Obj} (e:h.get? b=some o) (n:H b=none):(yj1 h H).get? b=some o :=
 W.hideAll_get _ e fun hm=>by
  have q:(H b).isSome=true:=(List.mem_filter.mp hm).2
  rw [n] at q; simp at q
theorem ylg {h:Heap} {H:Hp} {b:Addr} {o:Obj} (e:(yj1 h H).get? b=some o):h.get? b=some o/\H b=none:=by
 have e':h.get? b=some o:=W.of_hideAll (trk h H) e
 refine ⟨e',?_⟩
 cases q:H b with
 | none=>rfl
 | some x =>
  have hm:b∈trk h H:=List.mem_filter.mpr ⟨List.mem_range.mpr (Heap.lt_size e'),by simp [q]⟩
  have z:(yj1 h H).get? b=none:=W.hideAll_none (trk h H) hm
  rw [z] at e; cases e
def yln (g h:Heap) (L:Addr):List (Addr × Obj):=(List.range h.objs.size).filterMap fun a=>if a=L\/(g.get? a).isSome=true then none else (h.get? a).map fun o=>(a,o)
def jh (g h:Heap) (L d:Addr):List (Addr × Obj):=(yln g h L).filter fun p=>decide (p.1≠d)
end L2
namespace L2
open PySem PySem.Spec PyProof.Rows
structure Mod (K:W.Frag) (mg:Str->Option Value) (base:Heap):Prop where
 kin:K.In base
 glob:base.Ns mainGlobals mg
 blt:∃ mb,base.Ns builtinsNs mb/\∀ x:Str,x≠"__name__"->mb x=bootBuiltins x
 nolimit:base.NoLimit
structure Cx where
 prog:Program
 w:World
 K:W.Frag
 mg:Str->Option Value
 base:Heap
 A:Around
 N:List Str
 s₀:Shared
 H₀:Hp
 env:Env
 outer:List Env
 stack:List Env
 ex:List Addr
 fn:Str->Bool
 calm:Bool
 pn:List (Addr × Obj)
 xe:Value->Shared->Prop
def frs (l:List Env):List Addr:=l.filterMap (·.frame)
abbrev Cx.fs (X:Cx):List Addr:=frs X.outer
def Vis (sc:Scope) (x:Str):Prop:=sc.names.lookup x=some .local\/sc.names.lookup x=some .cell\/sc.names.lookup x=some .free
def Loc (sc:Scope) (x:Str):Prop:=sc.names.lookup x=some .local\/sc.names.lookup x=some .cell
def yu1 (env:Env) (h:Heap) (m:Str->Option Value) (x:Str) (u:Value):Prop :=
 (env.kindOf x=some .local/\m x=some u)\/((env.kindOf x=some .cell\/env.kindOf x=some .free)/\∃ c,env.cells.lookup x=some c/\h.IsCell c (some u))
structure Cx.Ok (X:Cx):Prop where
 mod:Mod X.K X.mg X.base
 kind:X.env.scope.kind=.function
 glob:X.env.globals=mainGlobals
 blt:X.env.builtins=builtinsNs
 above:X.s₀.heap.objs.size <= X.env.locals
 inj:∀ x y c,X.env.cells.lookup x=some c->X.env.cells.lookup y=some c->x=y
 has:∀ x,(X.env.kindOf x=some .cell\/X.env.kindOf x=some .free)->∃ c,X.env.cells.lookup x=some c
 cab:∀ x c,X.fn x=true->X.env.cells.lookup x=some c->X.s₀.heap.objs.size <= c
 hd:X.calm=true->X.A.handled=none
 frames:X.A.frames=some X.stack
 stk:X.stack=X.outer\/(X.stack=X.env :: X.outer/\X.env.frame=some X.env.locals)
 exf:∀ b∈X.ex,b≠X.env.locals/\∀ x c,X.env.cells.lookup x=some c->c≠b
 bs:∀ b o,X.base.get? b=some o->X.s₀.heap.get? b=some o/\X.H₀ b=none
 bsz:X.base.objs.size <= X.s₀.heap.objs.size
 noex:∀ b o,X.base.get? b=some o->b∉X.ex
 exfs:∀ b∈X.ex,b∉X.fs
 funs:X.s₀.heap.FunFrames X.base X.outer
 frf:∀ b∈X.fs,X.H₀ b=none
structure Inv (X:Cx) (pins:List (Addr × Obj)) (σ:List (Option V)) (H:Hp) (s:Shared):Prop where
 ok:X.Ok
 os:s.os=X.s₀.os
 bare:AllBare s.gens
 base:Un X.fs X.ex X.H₀ H X.s₀.heap s.heap
 loc:∃ m,s.heap.Ns X.env.locals m/\∀ (i:Nat) (x:Str) (v:V),X.N[i]?=some x->σ[i]?=some (some v)->Vis X.env.scope x->∃ u,wn v u/\yu1 X.env s.heap m x u
 cell:∀ x c,X.env.cells.lookup x=some c->∃ v,s.heap.IsCell c v
 free:H X.env.locals=none
 freeC:∀ x c,X.env.cells.lookup x=some c->H c=none
 pin:∀ p∈X.pn++pins,s.heap.get? p.1=some p.2/\H p.1=none/\p.1≠X.env.locals/\p.1∉X.fs/\∀ v,p.2.data≠.cell v
 hok:HOk X.prog X.w H s.heap
 len:σ.length=X.N.length
section
variable {X:Cx} {pins:List (Addr × Obj)} {σ:List (Option V)} {H H':Hp} {s:Shared} {h':Heap}
theorem Cx.Ok.nofr (ok:X.Ok) {b:Addr} {o:Obj} (e:X.base.get? b=some o):b∉X.fs:=fun hb=>by
 have:=(ok.funs.mem hb).1
 rw [e] at this; cases this
theorem Inv.bs (I:Inv X pins σ H s):∀ b o,X.base.get? b=some o->s.heap.get? b=some o/\H b=none:=fun b o e =>
 ⟨I.base.keep b o (I.ok.bs b o e).1 (I.ok.bs b o e).2 (I.ok.nofr e) (I.ok.noex b o e),I.base.free b o (I.ok.bs b o e).1 (I.ok.bs b o e).2 (I.ok.noex b o e)⟩
theorem Inv.bk (I:Inv X pins σ H s):∀ b o,X.base.get? b=some o->s.heap.get? b=some o:=fun b o e=>(I.bs b o e).1
theorem Inv.mod (I:Inv X pins σ H s):Mod X.K X.mg X.base:=I.ok.mod
theorem Inv.kIn (I:Inv X pins σ H s):X.K.In s.heap:=I.ok.mod.kin.keeps I.bk
theorem Inv.lt (I:Inv X pins σ H s):X.env.locals < s.heap.objs.size:=let ⟨_,hn,_⟩:=I.loc; hn.lt
theorem Inv.sz (I:Inv X pins σ H s):X.s₀.heap.objs.size <= s.heap.objs.size:=Nat.le_trans I.ok.above (Nat.le_of_lt I.lt)
theorem Inv.nofs (I:Inv X pins σ H s) {a:Addr} (h:s.heap.objs.size <= a):a∉X.fs:=fun hb=>by
 obtain ⟨_,o,ho,_⟩:=I.ok.funs.mem hb
 exact absurd (Nat.lt_of_lt_of_le (Heap.lt_size ho) (Nat.le_trans I.sz h)) (Nat.lt_irrefl _)
theorem Inv.cne (I:Inv X pins σ H s):∀ x c,X.env.cells.lookup x=some c->c≠X.env.locals:=fun x c e z=>by
 obtain ⟨v,o,ho,hd⟩:=I.cell x c e
 obtain ⟨m,⟨o',es,ep,ho',hd',_⟩,_⟩:=I.loc
 rw [z,ho'] at ho; cases ho; rw [hd'] at hd; cases hd
theorem Inv.funs (I:Inv X pins σ H s):s.heap.FunFrames X.base X.outer:=by
 have all:∀ (l:List Env),(∀ b∈frs l,b∈X.fs)->X.s₀.heap.FunFrames X.base l->s.heap.FunFrames X.base l:=by
  intro l
  induction l with
  | nil=>intro _ _; trivial
  | cons env r ih =>
   intro hs hl
   obtain ⟨hk,⟨L,o,hf,hn,ho,hd⟩,hr⟩:=hl
   have hL:L∈X.fs:=hs L (by unfold frs; rw [List.filterMap_cons,hf]; exact List.mem_cons_self)
   obtain ⟨sl,e⟩:=I.base.slot L o ho (I.ok.frf L hL) hL fun z=>I.ok.exfs L z hL
   exact ⟨hk,⟨L,_,hf,hn,e,hd⟩,ih (fun b hb=>hs b (by unfold frs; rw [List.filterMap_cons,hf]; exact List.mem_cons_of_mem _ hb)) hr⟩
 exact all X.outer (fun _ hb=>hb) I.ok.funs
theorem Inv.stack (I:Inv X pins σ H s):s.heap.FunFrames X.base X.stack:=by
 rcases I.ok.stk with e | ⟨e,hf⟩
 ·rw [e]; exact I.funs
 ·rw [e]
  obtain ⟨m,hn,_⟩:=I.loc
  refine .cons (by rw [I.ok.kind]; decide) hf hn ?_ I.funs
  exact Heap.get?_none_of_le (Nat.le_trans I.ok.bsz I.ok.above)
theorem Inv.stkSub (I:Inv X pins σ H s):∀ b∈frs X.stack,b∈X.env.locals :: X.fs:=fun b hb=>by
 rcases I.ok.stk with e | ⟨e,hf⟩
 ·rw [e] at hb; exact List.mem_cons_of_mem _ hb
 ·rw [e] at hb
  unfold frs at hb
  rw [List.filterMap_cons,hf] at hb
  exact hb
theorem Inv.stkFree (I:Inv X pins σ H s):∀ b∈frs X.stack,H b=none:=fun b hb=>by
 rcases List.mem_cons.mp (I.stkSub b hb) with e | hb
 ·rw [e]; exact I.free
 ·obtain ⟨_,o,ho,_⟩:=I.ok.funs.mem hb
  exact I.base.free b o ho (I.ok.frf b hb) fun z=>I.ok.exfs b z hb
theorem Inv.step {g':Array GenState} {t':Nat} {d':Drawn} {ch:List Addr} (I:Inv X pins σ H s)
  (hch:∀ b∈ch,(b∈X.ex\/X.s₀.heap.objs.size <= b)/\b≠X.env.locals/\(∀ x c,X.env.cells.lookup x=some c->c≠b)/\∀ p∈X.pn++pins,p.1≠b)
  (keep:∀ b o,b≠X.env.locals->b∉X.fs->b∉ch->s.heap.get? b=some o->H b=none->h'.get? b=some o)
  (slot:∀ b o,b≠X.env.locals->b∈X.fs->b∉ch->s.heap.get? b=some o->H b=none->∃ sl,h'.get? b=some { o with slots:=sl }) (free:∀ b o,b∉ch->s.heap.get? b=some o->H b=none->H' b=none)
  (there:∀ b o,b∉ch->s.heap.get? b=some o->∃ o',h'.get? b=some o')
  (tups:∀ b xs,H b=some (.tup xs)->H' b=some (.tup xs)) (frzs:∀ b o u,H b=some (.frz o u)->H' b=some (.frz o u)) (tbls:∀ b ps,H b=some (.tbl ps)->∃ more,H' b=some (.tbl (ps++more)))
  (ns:∀ m,s.heap.Ns X.env.locals m->h'.Ns X.env.locals m) (hok:HOk X.prog X.w H' h') (hg:AllBare g') :
  Inv X pins σ H' { s with heap:=h',gens:=g',drawn:=d',toks:=t' }:=by
 have neL:∀ b o,X.s₀.heap.get? b=some o->b≠X.env.locals:=fun b o e=>Nat.ne_of_lt (Nat.lt_of_lt_of_le (Heap.lt_size e) I.ok.above)
 have neC:∀ b o,X.s₀.heap.get? b=some o->b∉X.ex->b∉ch:=fun b o e hx hb=>by
  rcases (hch b hb).1 with z | z
  ·exact hx z
  ·exact absurd (Nat.lt_of_lt_of_le (Heap.lt_size e) z) (Nat.lt_irrefl _)
 have cellK:∀ x c,X.env.cells.lookup x=some c->∀ v,s.heap.IsCell c v->h'.IsCell c v:=fun x c e v ⟨o,ho,hd⟩=>by
  have nch:c∉ch:=fun z=>(hch c z).2.2.1 x c e rfl
  by_cases hc:c∈X.fs
  ·obtain ⟨sl,q⟩:=slot c o (I.cne x c e) hc nch ho (I.freeC x c e)
   exact ⟨_,q,hd⟩
  ·exact ⟨o,keep c o (I.cne x c e) hc nch ho (I.freeC x c e),hd⟩
 refine ⟨I.ok,I.os,hg,⟨fun b o e n hb hx=>?_,fun b o e n hb hx=>?_,fun b o e n hx=>?_,fun b o e hx=>?_,fun b xs e=>tups b xs (I.base.tups b xs e),fun b o xs e=>frzs b o xs (I.base.frzs b o xs e),fun b ps e=>?_⟩,?_,fun x c e=>?_,?_,fun x c e=>?_,fun p hp=>?_,hok,I.len⟩
 ·exact keep b o (neL b o e) hb (neC b o e hx) (I.base.keep b o e n hb hx) (I.base.free b o e n hx)
 ·obtain ⟨sl,e1⟩:=I.base.slot b o e n hb hx
  obtain ⟨sl',e2⟩:=slot b _ (neL b o e) hb (neC b o e hx) e1 (I.base.free b o e n hx)
  exact ⟨sl',e2⟩
 ·obtain ⟨o',e1⟩:=I.base.there b o e hx
  exact free b o' (neC b o e hx) e1 (I.base.free b o e n hx)
 ·obtain ⟨o',e1⟩:=I.base.there b o e hx
  exact there b o' (neC b o e hx) e1
 ·obtain ⟨m1,e1⟩:=I.base.tbls b ps e
  obtain ⟨m2,e2⟩:=tbls b _ e1
  exact ⟨m1++m2,by rw [e2,Array.append_assoc]⟩
 ·obtain ⟨m,hn,hl⟩:=I.loc
  refine ⟨m,ns m hn,fun i x v e1 e2 e3=>?_⟩
  obtain ⟨u,r,l⟩:=hl i x v e1 e2 e3
  refine ⟨u,r,?_⟩
  rcases l with l | ⟨k,c,e,z⟩
  ·exact .inl l
  ·exact .inr ⟨k,c,e,cellK x c e _ z⟩
 ·obtain ⟨v,z⟩:=I.cell x c e
  exact ⟨v,cellK x c e v z⟩
 ·obtain ⟨m,⟨o,_,_,ho,_⟩,_⟩:=I.loc
  exact free _ o (fun z=>(hch _ z).2.1 rfl) ho I.free
 ·obtain ⟨v,o,ho,hd⟩:=I.cell x c e
  exact free c o (fun z=>(hch c z).2.2.1 x c e rfl) ho (I.freeC x c e)
 ·obtain ⟨e,n,ne,nf,d⟩:=I.pin p hp
  have nch:p.1∉ch:=fun z=>(hch p.1 z).2.2.2 p hp rfl
  exact ⟨keep p.1 p.2 ne nf nch e n,free p.1 p.2 nch e n,ne,nf,d⟩
theorem Inv.un {t':Nat} (I:Inv X pins σ H s) (u:Un X.fs [] H H' s.heap h') (hok:HOk X.prog X.w H' h'):Inv X pins σ H' { s with heap:=h',toks:=t' }:=by
 obtain ⟨m,⟨o,es,ep,ho,r⟩,_⟩:=id I.loc
 obtain ⟨sl,hL⟩:=u.any ho I.free (by simp)
 exact I.step (g':=s.gens) (d':=s.drawn) (ch:=[]) (fun _ z=>nomatch z) (fun b o _ hb _ e n=>u.keep b o e n hb (by simp)) (fun b o _ hb _ e n=>u.slot b o e n hb (by simp)) (fun b o _ e n=>u.free b o e n (by simp)) (fun b o _ e=>u.there b o e (by simp)) u.tups u.frzs u.tbls (fun m' hm=>by
  obtain ⟨o',es',ep',ho',r'⟩:=hm
  rw [ho] at ho'; cases ho'
  exact ⟨_,es',ep',hL,r'⟩) hok I.bare
theorem Inv.call {g':Array GenState} {t':Nat} {d':Drawn} {ch:List Addr} (I:Inv X pins σ H s) (u:Un (frs X.stack) ch H H' s.heap h') (hok:HOk X.prog X.w H' h') (hg:AllBare g')
  (hch:∀ b∈ch,(b∈X.ex\/X.s₀.heap.objs.size <= b)/\b≠X.env.locals/\(∀ x c,X.env.cells.lookup x=some c->c≠b)/\∀ p∈X.pn++pins,p.1≠b) :
  Inv X pins σ H' { s with heap:=h',gens:=g',drawn:=d',toks:=t' }:=by
 obtain ⟨m,⟨o,es,ep,ho,r⟩,_⟩:=id I.loc
 obtain ⟨sl,hL⟩:=u.any ho I.free fun z=>(hch _ z).2.1 rfl
 exact I.step (ch:=ch) hch (fun b o hL hb hc e n=>u.keep b o e n (fun z=>(List.mem_cons.mp (I.stkSub b z)).elim hL hb) hc) (fun b o _ _ hc e n=>u.any e n hc) (fun b o hc e n=>u.free b o e n hc) (fun b o hc e=>u.there b o e hc) u.tups u.frzs u.tbls (fun m' hm=>by
  obtain ⟨o',es',ep',ho',r'⟩:=hm
  rw [ho] at ho'; cases ho'
  exact ⟨_,es',ep',hL,r'⟩) hok hg
theorem Inv.turned {t':Nat} {it:Addr} (I:Inv X pins σ H s) (k:∀ b o,b≠it->s.heap.get? b=some o->h'.get? b=some o) (hn:H it=none) (hL:it≠X.env.locals)
  (h1:it∈X.ex\/X.s₀.heap.objs.size <= it) (h2:∀ x c,X.env.cells.lookup x=some c->c≠it) (h3:∀ p∈X.pn++pins,p.1≠it):Inv X pins σ H { s with heap:=h',toks:=t' }:=by
 have nit:∀ b u,H b=some u->b≠it:=fun b u e z=>by rw [z,hn] at e; cases e
 refine I.step (g':=s.gens) (d':=s.drawn) (ch:=[it]) (fun b hb=>?_) (fun b o _ _ hc e _=>k b o (fun z=>hc (by simp [z])) e) (fun b o _ _ hc e _=>⟨o.slots,k b o (fun z=>hc (by simp [z])) e⟩) (fun _ _ _ _ n=>n)
  (fun b o hc e=>⟨o,k b o (fun z=>hc (by simp [z])) e⟩) (fun _ _ e=>e) (fun _ _ _ e=>e) (fun b ps e=>⟨#[],by rw [e]; simp⟩) (fun m hm=>?_) (fun b u e=>?_) I.bare
 ·have e:b=it:=by simpa using hb
  subst e
  exact ⟨h1,hL,h2,h3⟩
 ·obtain ⟨o,es,ep,ho,r⟩:=hm
  exact ⟨o,es,ep,k _ o (Ne.symm hL) ho,r⟩
 ·refine (I.hok b u e).stay (fun c v hc q=>k c v ?_ q) (fun _ q=>q) fun _ _ q=>q
  rcases hc with z | z
  ·rw [z]; exact nit b u e
  ·exact nit c _ z
theorem Inv.tok (I:Inv X pins σ H s) (t:Nat):Inv X pins σ H { s with toks:=t }:=I.un (h':=s.heap) (t':=t) Un.refl I.hok
theorem Inv.kept {t':Nat} (I:Inv X pins σ H s) (k:∀ b u,s.heap.get? b=some u->h'.get? b=some u):Inv X pins σ H { s with heap:=h',toks:=t' }:=I.un (Un.kept k) (I.hok.kept k)
theorem Inv.laid {a:Addr} {o:HO} {t':Nat} (I:Inv X pins σ H s) (k:∀ b u,s.heap.get? b=some u->h'.get? b=some u) (hp:s.heap.objs.size <= a) (new:wj X.prog X.w (upd H a o) h' a o) :
  Inv X pins σ (upd H a o) { s with heap:=h',toks:=t' }:=I.un (Un.laid k hp (I.hok.fresh hp)) (I.hok.laid k hp new)
theorem Inv.write {x e:Addr} {o:HO} {t':Nat} (I:Inv X pins σ H s) (mu:Mut (H x)) (he:e=x\/H e=some (.own x)) (k:∀ b u,b≠e->s.heap.get? b=some u->h'.get? b=some u) (heo:∃ u,h'.get? e=some u)
  (new:wj X.prog X.w (upd H x o) h' x o):Inv X pins σ (upd H x o) { s with heap:=h',toks:=t' }:=I.un (Un.write mu he k heo) (I.hok.write mu he k heo new)
theorem Inv.pins_of {pins':List (Addr × Obj)} (I:Inv X pins σ H s) (h:∀ p∈pins',s.heap.get? p.1=some p.2/\H p.1=none/\p.1≠X.env.locals/\p.1∉X.fs/\∀ v,p.2.data≠.cell v):Inv X pins' σ H s :=
 ⟨I.ok,I.os,I.bare,I.base,I.loc,I.cell,I.free,I.freeC,fun p hp=>(List.mem_append.mp hp).elim (fun z=>I.pin p (List.mem_append_left _ z)) (h p),I.hok,I.len⟩
theorem yes {N:List Str} (hN:N.Nodup) {i j:Nat} {x:Str} (a:N[i]?=some x) (b:N[j]?=some x):i=j:=by
 obtain ⟨h1,e1⟩:=List.getElem?_eq_some_iff.mp a
 obtain ⟨h2,e2⟩:=List.getElem?_eq_some_iff.mp b
 exact (List.getElem_inj hN).mp (e1.trans e2.symm)
theorem za {M:Model} {A:Around} {E:Value->Shared->Prop} {i:Nat} {x:Str} {v:V} {u:Value} {Q:Unit->Shared->Prop} (I:Inv X pins σ H s) (hN:X.N.Nodup) (hi:X.N[i]?=some x) (hx:Loc X.env.scope x) (r:wn v u)
  (h:∀ s',Inv X pins (σ.set i (some v)) H s'->(∃ a,Heap.SameBut a s.heap s'.heap/\(a=X.env.locals\/X.env.cells.lookup x=some a))->Q () s') (hf:X.fn x=true\/X.env.scope.names.lookup x=some .local:=by first | exact .inl rfl | exact .inr rfl | assumption):wpAny M A (storeName X.env x u) Q E s:=by
 obtain ⟨m,hn,hl⟩:=id I.loc
 have hcls:(X.env.scope.kind == .class || (X.env.scope.kind == .module && X.env.locals != X.env.globals))=false:=by rw [I.ok.kind]; rfl
 have hiσ:i < σ.length:=by rw [I.len]; exact (List.getElem?_eq_some_iff.mp hi).1
 have cne:=I.cne
 have tracked:∀ {a:Addr} {h':Heap},(∃ o,s.heap.get? a=some o/\H a=none)->Heap.SameBut a s.heap h'->HOk X.prog X.w H h':=fun {a h'} ha hs b ob e=>by
  obtain ⟨_,_,hfree⟩:=ha
  refine (I.hok b ob e).stay (fun c w' hc q=>(hs.2 c ?_).trans q) (fun _ q=>q) fun _ _ q=>q
  rintro rfl
  rcases hc with rfl | hc
  ·rw [hfree] at e; cases e
  ·rw [hfree] at hc; cases hc
 rcases hx with hk | hk
 ·refine wpAny_storeName_local hk hn (fun h' hn' hs=>?_) hcls
  obtain ⟨oL,_,_,hoL,_⟩:=id hn
  refine h _ ⟨I.ok,I.os,I.bare,⟨fun b o e n hb hx=>?_,fun b o e n hb hx=>?_,I.base.free,fun b o e hx=>?_,I.base.tups,I.base.frzs,I.base.tbls⟩,⟨_,hn',fun j y v' e1 e2 e3=>?_⟩,fun y c e=>?_,I.free,I.freeC,fun p hp=>?_,tracked ⟨oL,hoL,I.free⟩ hs,by simpa using I.len⟩ ⟨_,hs,.inl rfl⟩
  ·exact (hs.2 b (Nat.ne_of_lt (Nat.lt_of_lt_of_le (Heap.lt_size e) I.ok.above))).trans (I.base.keep b o e n hb hx)
  ·obtain ⟨sl,e1⟩:=I.base.slot b o e n hb hx
   exact ⟨sl,(hs.2 b (Nat.ne_of_lt (Nat.lt_of_lt_of_le (Heap.lt_size e) I.ok.above))).trans e1⟩
  ·obtain ⟨o',e1⟩:=I.base.there b o e hx
   exact ⟨o',(hs.2 b (Nat.ne_of_lt (Nat.lt_of_lt_of_le (Heap.lt_size e) I.ok.above))).trans e1⟩
  ·by_cases hj:j=i
   ·subst hj
    rw [hi] at e1; cases e1
    rw [List.getElem?_set_self hiσ] at e2
    cases e2
    exact ⟨u,r,.inl ⟨hk,by simp⟩⟩
   ·rw [List.getElem?_set_ne (Ne.symm hj)] at e2
    obtain ⟨u',r',q⟩:=hl j y v' e1 e2 e3
    refine ⟨u',r',?_⟩
    rcases q with ⟨k,e⟩ | ⟨k,c,e,z⟩
    ·refine .inl ⟨k,?_⟩
     have:y≠x:=fun e=>hj (yes hN e1 (e ▸ hi))
     simp [this,e]
    ·exact .inr ⟨k,c,e,z.sameBut hs (cne y c e)⟩
  ·obtain ⟨w',z⟩:=I.cell y c e
   exact ⟨w',z.sameBut hs (cne y c e)⟩
  ·obtain ⟨e,n,ne,nf,d⟩:=I.pin p hp
   exact ⟨(hs.2 p.1 ne).trans e,n,ne,nf,d⟩
 ·have hfn:X.fn x=true:=by
   rcases hf with z | z
   ·exact z
   ·rw [z] at hk; cases hk
  obtain ⟨c,hc⟩:=I.ok.has x (.inl hk)
  obtain ⟨w',z⟩:=I.cell x c hc
  refine wpAny_storeName_cell I.ok.kind hk hc z (fun h' hc' hs=>?_)
  obtain ⟨oc,hoc,hocd⟩:=id z
  refine h { s with heap:=h' } ⟨I.ok,I.os,I.bare,⟨fun b o e n hb hx=>?_,fun b o e n hb hx=>?_,I.base.free,fun b o e hx=>?_,I.base.tups,I.base.frzs,I.base.tbls⟩,⟨m,hn.sameBut hs (Ne.symm (cne x c hc)),fun j y v' e1 e2 e3=>?_⟩,fun y c' e=>?_,I.free,I.freeC,fun p hp=>?_,tracked ⟨oc,hoc,I.freeC x c hc⟩ hs,by simpa using I.len⟩ ⟨c,hs,.inr hc⟩
  ·exact (hs.2 b (Nat.ne_of_lt (Nat.lt_of_lt_of_le (Heap.lt_size e) (I.ok.cab x c hfn hc)))).trans (I.base.keep b o e n hb hx)
  ·obtain ⟨sl,e1⟩:=I.base.slot b o e n hb hx
   exact ⟨sl,(hs.2 b (Nat.ne_of_lt (Nat.lt_of_lt_of_le (Heap.lt_size e) (I.ok.cab x c hfn hc)))).trans e1⟩
  ·obtain ⟨o',e1⟩:=I.base.there b o e hx
   exact ⟨o',(hs.2 b (Nat.ne_of_lt (Nat.lt_of_lt_of_le (Heap.lt_size e) (I.ok.cab x c hfn hc)))).trans e1⟩
  ·by_cases hj:j=i
   ·subst hj
    rw [hi] at e1; cases e1
    rw [List.getElem?_set_self hiσ] at e2
    cases e2
    exact ⟨u,r,.inr ⟨.inl hk,c,hc,hc'⟩⟩
   ·rw [List.getElem?_set_ne (Ne.symm hj)] at e2
    obtain ⟨u',r',q⟩:=hl j y v' e1 e2 e3
    refine ⟨u',r',?_⟩
    rcases q with q | ⟨k,c',e,z'⟩
    ·exact .inl q
    ·refine .inr ⟨k,c',e,z'.sameBut hs ?_⟩
     rintro rfl
     exact hj (yes hN e1 (I.ok.inj _ _ _ e hc ▸ hi))
  ·by_cases hcc:c'=c
   ·subst hcc; exact ⟨_,hc'⟩
   ·obtain ⟨w2,z2⟩:=I.cell y c' e
    exact ⟨w2,z2.sameBut hs hcc⟩
  ·obtain ⟨e,n,ne,nf,d⟩:=I.pin p hp
   refine ⟨(hs.2 p.1 ?_).trans e,n,ne,nf,d⟩
   intro q
   rw [q,hoc] at e
   have q':oc=p.2:=Option.some.inj e
   exact d w' (by rw [<- q']; exact hocd)
theorem zg {M:Model} {A:Around} {E:Value->Shared->Prop} {i:Nat} {x:Str} {v:V} {u:Value} {Q:Unit->Shared->Prop} (I:Inv X pins σ H s) (hN:X.N.Nodup) (hi:X.N[i]?=some x) (hx:Loc X.env.scope x) (r:wn v u)
  (h:∀ s',Inv X pins (σ.set i (some v)) H s'->Q () s') (hf:X.fn x=true\/X.env.scope.names.lookup x=some .local:=by first | exact .inl rfl | exact .inr rfl | assumption):wpAny M A (storeName X.env x u) Q E s :=
 za I hN hi hx r (fun s' I' _=>h s' I') hf
theorem Inv.call' {s':Shared} {ch:List Addr} (I:Inv X pins σ H s) (ho:s'.os=s.os) (u:Un (frs X.stack) ch H H' s.heap s'.heap) (hok:HOk X.prog X.w H' s'.heap) (hg:AllBare s'.gens)
  (hch:∀ b∈ch,(b∈X.ex\/X.s₀.heap.objs.size <= b)/\b≠X.env.locals/\(∀ x c,X.env.cells.lookup x=some c->c≠b)/\∀ p∈X.pn++pins,p.1≠b):Inv X pins σ H' s':=by
 obtain ⟨h',g',d',t',o'⟩:=s'
 have e:o'=s.os:=ho
 subst e
 exact I.call (g':=g') (t':=t') (d':=d') u hok hg hch
end
abbrev XK:=Value->Option Addr->Hp->Prop
abbrev St:=List (Option V)
abbrev VK:=V->Hp->Prop
abbrev TE:=St->Hp->VK->Prop
abbrev TT:=St->Hp->(Bool->Hp->Prop)->Prop
abbrev TA:=St->Hp->(List V->Hp->Prop)->Prop
structure yb6 where
 nx:St->Hp->Prop
 rt:VK
 bk:St->Hp->Prop:=fun _ _=>False
 ct:St->Hp->Prop:=fun _ _=>False
abbrev TS:=yb6->St->Hp->Prop
def EP (X:Cx) (pins:List (Addr × Obj)) (σ:St) (Q:VK) (u:Value) (s':Shared):Prop:=∃ v H',Inv X pins σ H' s'/\wn v u/\Q v H'
def TP (X:Cx) (pins:List (Addr × Obj)) (σ:St) (Q:Bool->Hp->Prop) (b:Bool) (s':Shared):Prop:=∃ H',Inv X pins σ H' s'/\Q b H'
def AP (X:Cx) (pins:List (Addr × Obj)) (σ:St) (Q:List V->Hp->Prop) (us:List Value) (s':Shared):Prop:=∃ vs H',Inv X pins σ H' s'/\vp vs us/\Q vs H'
def SP (X:Cx) (pins:List (Addr × Obj)) (D:yb6) (f:Flow) (s':Shared):Prop :=
 match f with
 | .next=>∃ σ' H',Inv X pins σ' H' s'/\D.nx σ' H'
 | .brk=>∃ σ' H',Inv X pins σ' H' s'/\D.bk σ' H'
 | .cont=>∃ σ' H',Inv X pins σ' H' s'/\D.ct σ' H'
 | .ret u=>∃ v σ' H',Inv X pins σ' H' s'/\wn v u/\D.rt v H'
def PE (X:Cx) (e:Expr) (t:TE):Prop :=
 ∀ (pins:List (Addr × Obj)) (s:Shared) (σ:St) (H:Hp) (Q:VK),Inv X pins σ H s->t σ H Q->wpAny (model X.prog X.w) X.A (eval e X.env) (EP X pins σ Q) X.xe s
def PT (X:Cx) (e:Expr) (t:TT):Prop :=
 ∀ (pins:List (Addr × Obj)) (s:Shared) (σ:St) (H:Hp) (Q:Bool->Hp->Prop),Inv X pins σ H s->t σ H Q->wpAny (model X.prog X.w) X.A (isTrue e X.env (eval e X.env)) (TP X pins σ Q) X.xe s
def PW (X:Cx) (e:Expr) (t:TT):Prop :=
 ∀ (whole:Sem Value) (pins:List (Addr × Obj)) (s:Shared) (σ:St) (H:Hp) (Q:Bool->Hp->Prop),Inv X pins σ H s->t σ H Q->wpAny (model X.prog X.w) X.A (isTrue e X.env whole) (TP X pins σ Q) X.xe s
theorem PW.pt {X:Cx} {e:Expr} {t:TT} (h:PW X e t):PT X e t:=h _
def PA (X:Cx) (es:List Expr) (t:TA):Prop :=
 ∀ (pos:Pos) (pins:List (Addr × Obj)) (s:Shared) (σ:St) (H:Hp) (Q:List V->Hp->Prop),Inv X pins σ H s->t σ H Q->wpAny (model X.prog X.w) X.A (spliced (backTo pos (starEach es X.env))) (AP X pins σ Q) X.xe s
def PS (X:Cx) (st:Stmt) (t:TS):Prop :=
 ∀ (pins:List (Addr × Obj)) (s:Shared) (σ:St) (H:Hp) (D:yb6),Inv X pins σ H s->t D σ H->wpAny (model X.prog X.w) X.A (exec st X.env) (SP X pins D) X.xe s
def PSs (X:Cx) (st:List Stmt) (t:TS):Prop :=
 ∀ (pins:List (Addr × Obj)) (s:Shared) (σ:St) (H:Hp) (D:yb6),Inv X pins σ H s->t D σ H->wpAny (model X.prog X.w) X.A (execs st X.env) (SP X pins D) X.xe s
theorem thn {α:Type} {t:Sem α} {Q Q':α->Shared->Prop} {M:Model} {A:Around} {E:Value->Shared->Prop} {s:Shared} (h:wpAny M A t Q E s) (hQ:∀ a s,Q a s->Q' a s):wpAny M A t Q' E s:=wpAny_mono h hQ fun _ _ x=>x
end L2
namespace L2
open PySem PySem.Spec PyProof.Rows
section
variable {X:Cx}
def ytw (i:Nat):TE:=fun σ H Q=>∃ v,σ[i]?=some (some v)/\Q v H
def tC (v:V):TE:=fun _ H Q=>Q v H
theorem ypk {i:Nat} {x:Str} {pos:Pos} (hN:X.N[i]?=some x) (hv:Vis X.env.scope x) (hd:(x == ("__debug__":Str))=false:=by decide) (hcd:(x == ("__classdict__":Str))=false:=by decide):PE X (.Name x pos) (ytw i):=by
 intro pins s σ H Q I h
 obtain ⟨v,e,h⟩:=h
 obtain ⟨m,hn,hl⟩:=I.loc
 obtain ⟨u,r,l⟩:=hl i x v hN e hv
 have fin:EP X pins σ Q u s:=⟨v,H,I,r,h⟩
 rcases l with ⟨hk,hm⟩ | ⟨hk,c,hc,hcell⟩
 ·exact wpAny_Name (wpAny_loadName_local I.ok.kind hk hn hm fin) hd
 ·rcases hk with hk | hk
  ·exact wpAny_Name (wpAny_loadName_cell I.ok.kind hk hc hcell fin) hd
  ·exact wpAny_Name (wpAny_loadName_free I.ok.kind hk hc hcell fin hcd) hd
theorem yh {i j pos}:PE X (.Constant (.int i) j pos) (tC (.int i)):=fun _ _ _ H _ I h=>wpAny_Constant_int ⟨.int i,H,I.tok _,⟨_,rfl⟩,h⟩
theorem yf9 {b j pos}:PE X (.Constant (.bool b) j pos) (tC (.bl b)):=fun _ _ _ H _ I h=>Constant_bool ⟨.bl b,H,I,rfl,h⟩
theorem uq {x j pos}:PE X (.Constant (.str x) j pos) (tC (.str x)):=fun _ _ _ H _ I h=>Calls.Constant_str ⟨.str x,H,I.tok _,⟨_,rfl⟩,h⟩
def Gl (X:Cx) (x:Str):Prop:=X.env.kindOf x=some .globalImplicit
theorem uz {E:Value->Shared->Prop} {pins:List (Addr × Obj)} {s:Shared} {σ:St} {H:Hp} {x:Str} {u:Value} {pos:Pos} {Q:Value->Shared->Prop} (I:Inv X pins σ H s) (hg:Gl X x) (hm:X.mg x=some u) (h:Q u s)
  (hd:(x == ("__debug__":Str))=false:=by decide):wpAny (model X.prog X.w) X.A (eval (.Name x pos) X.env) Q E s :=
 Calls.Name_function_global I.ok.kind hg (Calls.loadGlobal_global (by rw [I.ok.glob]; exact I.mod.glob.keeps I.bk) hm h) hd
theorem yae {E:Value->Shared->Prop} {pins:List (Addr × Obj)} {s:Shared} {σ:St} {H:Hp} {x:Str} {u:Value} {pos:Pos} {Q:Value->Shared->Prop} (I:Inv X pins σ H s) (hg:Gl X x) (hm:X.mg x=none) (hv:bootBuiltins x=some u) (h:Q u s)
  (hn:x≠"__name__":=by decide) (hd:(x == ("__debug__":Str))=false:=by decide):wpAny (model X.prog X.w) X.A (eval (.Name x pos) X.env) Q E s:=by
 obtain ⟨mb,h1,h2⟩:=I.mod.blt
 exact Calls.Name_function_global I.ok.kind hg (Calls.loadGlobal_builtin (by rw [I.ok.glob]; exact I.mod.glob.keeps I.bk) hm (by rw [I.ok.blt]; exact h1.keeps I.bk) ((h2 x hn).trans hv) h) hd
theorem yhq {x:Str} {v:V} {u:Value} {pos:Pos} (hg:Gl X x) (hm:X.mg x=some u) (r:wn v u) (hd:(x == ("__debug__":Str))=false:=by decide):PE X (.Name x pos) (tC v) :=
 fun _ _ _ H _ I h=>uz I hg hm ⟨v,H,I,r,h⟩ hd
theorem yma {x:Str} {v:V} {u:Value} {pos:Pos} (hg:Gl X x) (hm:X.mg x=none) (hv:bootBuiltins x=some u) (r:wn v u) (hn:x≠"__name__":=by decide) (hd:(x == ("__debug__":Str))=false:=by decide):PE X (.Name x pos) (tC v) :=
 fun _ _ _ H _ I h=>yae I hg hm hv ⟨v,H,I,r,h⟩ hn hd
variable {a b:Expr} {ta tb:TE} {pos:Pos}
def PC (X:Cx) (op:CmpOp) (a b:Expr) (t:TE):Prop :=
 ∀ (pins:List (Addr × Obj)) (s:Shared) (σ:St) (H:Hp) (Q:VK),Inv X pins σ H s->t σ H Q ->
  wpAny (model X.prog X.w) X.A (eval a X.env) (fun v s₁=>wpAny (model X.prog X.w) X.A (eval b X.env) (fun u s₂=>wpAny (model X.prog X.w) X.A (compareOp op v u) (EP X pins σ Q) X.xe s₂) X.xe s₁) X.xe s
def tB (t:TE):TT:=fun σ H Q=>t σ H fun x H1=>∃ c,x=.bl c/\Q c H1
theorem yrg {op:CmpOp} {t:TE} (h:PC X op a b t) (h1:behindInMarks op b=false:=by first | exact nobehind _ (by decide) (by decide) | rfl):PT X (.Compare a [op] [b] pos) (tB t):=by
 intro pins s σ H Q I hw
 refine wpAny_isTrue_Compare1 (thn (h pins s σ H _ I hw) fun v s1 h1=>thn h1 fun u s2 h2=>thn h2 fun c s3 ⟨x,H1,I1,r1,q1⟩=>?_) h1
 obtain ⟨d,rfl,q⟩:=q1
 cases r1
 exact wpAny_truthy_bool ⟨H1,I1,q⟩
theorem ur {e:Expr} {t:TE} (h:PE X e t) (he:∀ whole,isTrue e X.env whole=(do let v <- whole; standAt e.pos; holding [v] (truthy v)):=by intro _; rfl):PT X e (tB t):=by
 intro pins s σ H Q I hw
 refine isTrue_plain (thn (h pins s σ H _ I hw) fun v s1 ⟨x,H1,I1,r1,q1⟩=>?_) (he _)
 obtain ⟨d,rfl,q⟩:=q1
 cases r1
 exact wpAny_truthy_bool ⟨H1,I1,q⟩
variable {tA tB':TT} {jh:List Expr}
def yul (t u:TT):TT:=fun σ H Q=>t σ H fun c H1=>if c=true then u σ H1 Q else Q false H1
def tOr (t u:TT):TT:=fun σ H Q=>t σ H fun c H1=>if c=true then Q true H1 else u σ H1 Q
def yug (t:TT):TT:=fun σ H Q=>t σ H fun c H1=>Q (!c) H1
theorem ylv (ha:PT X a tA):PW X (.BoolOp .And [a] pos) tA:=by
 intro wh pins s σ H Q I h
 refine isTrue_and (thn (ha pins s σ H Q I h) fun c s1 e=>?_)
 cases c with
 | true=>exact isTrue_and_nil e
 | false=>exact e
theorem j8 (ha:PT X a tA):PW X (.BoolOp .Or [a] pos) tA:=by
 intro wh pins s σ H Q I h
 refine isTrue_or (thn (ha pins s σ H Q I h) fun c s1 e=>?_)
 cases c with
 | false=>exact isTrue_or_nil e
 | true=>exact e
theorem yq5 (ha:PT X a tA) (hb:PW X (.BoolOp .And (b :: jh) pos) tB'):PW X (.BoolOp .And (a :: b :: jh) pos) (yul tA tB'):=by
 intro wh pins s σ H Q I h
 refine isTrue_and (thn (ha pins s σ H _ I h) fun c s1 ⟨H1,I1,q1⟩=>?_)
 cases c with
 | true=>exact hb wh pins s1 σ H1 Q I1 q1
 | false=>exact ⟨H1,I1,q1⟩
theorem yag (ha:PT X a tA) (hb:PW X (.BoolOp .Or (b :: jh) pos) tB'):PW X (.BoolOp .Or (a :: b :: jh) pos) (tOr tA tB'):=by
 intro wh pins s σ H Q I h
 refine isTrue_or (thn (ha pins s σ H _ I h) fun c s1 ⟨H1,I1,q1⟩=>?_)
 cases c with
 | true=>exact ⟨H1,I1,q1⟩
 | false=>exact hb wh pins s1 σ H1 Q I1 q1
theorem x0 (ha:PT X a tA):PT X (.UnaryOp .Not a pos) (yug tA):=by
 intro pins s σ H Q I h
 exact isTrue_not (ha pins s σ H (fun c H1=>Q (!c) H1) I h)
def yr4 (ta tb:TE):TE:=fun σ H Q=>ta σ H fun x H1=>∃ c,x=.bl c/\if c=true then tb σ H1 Q else Q (.bl false) H1
def yr7 (ta:TE):TE:=fun σ H Q=>ta σ H fun x H1=>∃ c,x=.bl c/\Q (.bl (!c)) H1
theorem j9 {op} {t:TE} (h:PE X a t):PE X (.BoolOp op [a] pos) t:=fun pins s σ H Q I hw=>BoolOp_one (h pins s σ H Q I hw)
theorem zi (ha:PE X a ta) (hb:PE X (.BoolOp .And (b :: jh) pos) tb):PE X (.BoolOp .And (a :: b :: jh) pos) (yr4 ta tb):=by
 intro pins s σ H Q I h
 refine BoolOp_and (thn (ha pins s σ H _ I h) fun v s1 ⟨x,H1,I1,r1,q1⟩=>?_)
 obtain ⟨c,rfl,q1⟩:=q1
 cases r1
 refine wpAny_truthy_bool ?_
 cases c with
 | true=>exact hb pins s1 σ H1 Q I1 q1
 | false=>exact ⟨.bl false,H1,I1,rfl,q1⟩
theorem yqs (ha:PE X a ta):PE X (.UnaryOp .Not a pos) (yr7 ta):=by
 intro pins s σ H Q I h
 refine UnaryOp_ (thn (ha pins s σ H _ I h) fun v s1 ⟨x,H1,I1,r1,q1⟩=>?_)
 obtain ⟨c,rfl,q1⟩:=q1
 cases r1
 exact not_of (wpAny_truthy_bool ⟨.bl (!c),H1,I1,rfl,q1⟩)
def tIf (t:TT) (ta tb:TE):TE:=fun σ H Q=>t σ H fun c H1=>if c=true then ta σ H1 Q else tb σ H1 Q
theorem ybr {c:Expr} (hc:PT X c tA) (ha:PE X a ta) (hb:PE X b tb):PE X (.IfExp c a b pos) (tIf tA ta tb):=by
 intro pins s σ H Q I h
 refine wpAny_IfExp (thn (hc pins s σ H _ I h) fun d s1 ⟨H1,I1,q1⟩=>?_)
 cases d with
 | true=>exact ha pins s1 σ H1 Q I1 q1
 | false=>exact hb pins s1 σ H1 Q I1 q1
end
end L2
namespace L2
open PySem PySem.Spec PyProof.Rows
def SqL (K:W.Frag) (H:Hp) (a:Addr) (xs:List V):Prop :=
 Rd H a (.lst xs) \/
  ∃ (o:Obj) (its:Array Value) (n:Nat),K.lookup a=some o/\o.cls=.type "list"/\o.dict=none/\o.data=.seq its n/\its.size <= sizeLine/\vp xs its.toList
def SqT (K:W.Frag) (H:Hp) (a:Addr) (xs:List V):Prop :=
 Rd H a (.tup xs) \/
  ∃ (o:Obj) (its:Array Value) (n:Nat),K.lookup a=some o/\o.cls=.type "tuple"/\o.data=.seq its n/\its.size <= sizeLine/\vp xs its.toList
def yu6:Value->Option V
 | .none=>some .non
 | .bool b=>some (.bl b)
 | .int i _=>some (.int i)
 | .str x _=>some (.str x)
 | .bytes b _=>some (.byt b)
 | .float b _=>some (.flt b)
 | .ref a=>some (.ref a)
 | .type n=>some (.ty n)
 | _=>none
theorem wn.abs {x:V} {u:Value} (r:wn x u):yu6 u=some x:=by
 cases x with
 | non=>cases r; rfl
 | bl _=>cases r; rfl
 | int _=>obtain ⟨t,rfl⟩:=r; rfl
 | str _=>obtain ⟨t,rfl⟩:=r; rfl
 | byt _=>obtain ⟨t,rfl⟩:=r; rfl
 | flt _=>obtain ⟨t,rfl⟩:=r; rfl
 | ref _=>cases r; rfl
 | ty _=>cases r; rfl
theorem wn.inj {x y:V} {u:Value} (r:wn x u) (q:wn y u):x=y:=Option.some.inj (r.abs.symm.trans q.abs)
theorem vp.inj:∀ {xs ys:List V} {us:List Value},vp xs us->vp ys us->xs=ys
 | _,_,_,.nil,.nil=>rfl
 | _,_,_,.cons r t,.cons r' t'=>by rw [r.inj r',vp.inj t t']
section
variable {X:Cx} {pins:List (Addr × Obj)} {σ:St} {H:Hp} {s:Shared} {a:Addr} {xs ys:List V}
theorem SqL.of {K:W.Frag} (h:H a=some (.lst xs)):SqL K H a xs:=.inl (.inl h)
theorem SqT.of {K:W.Frag} (h:H a=some (.tup xs)):SqT K H a xs:=.inl (.inl h)
theorem Inv.list (I:Inv X pins σ H s) (h:SqL X.K H a xs):∃ its:List Value,vp xs its/\PlainL s.heap a its.toArray/\xs.length <= sizeLine:=by
 rcases h with h | ⟨o,its,n,hk,hc,hd,hs,hz,r⟩
 ·obtain ⟨z,its,n,r,e⟩:=h.ok I.hok
  exact ⟨its,r,⟨_,n,e,rfl,rfl,rfl⟩,z⟩
 ·refine ⟨its.toList,r,⟨o,n,I.kIn a o hk,hc,hd,by simpa using hs⟩,?_⟩
  have e:=r.length
  simp only [Array.length_toList] at e
  omega
theorem Inv.tuple (I:Inv X pins σ H s) (h:SqT X.K H a xs):∃ its:List Value,vp xs its/\IsTup s.heap a its.toArray/\xs.length <= sizeLine:=by
 rcases h with h | ⟨o,its,n,hk,hc,hs,hz,r⟩
 ·obtain ⟨z,its,r,p⟩:=h.ok I.hok
  exact ⟨its,r,p,z⟩
 ·refine ⟨its.toList,r,⟨o,I.kIn a o hk,hc,n,by simpa using hs⟩,?_⟩
  have e:=r.length
  simp only [Array.length_toList] at e
  omega
theorem Inv.list_inj (I:Inv X pins σ H s) (h:SqL X.K H a xs) (h':SqL X.K H a ys):xs=ys:=by
 obtain ⟨its,r,⟨o,n,e,_,_,d⟩,_⟩:=I.list h
 obtain ⟨its',r',⟨o',n',e',_,_,d'⟩,_⟩:=I.list h'
 rw [e] at e'; cases e'
 rw [d] at d'
 injection d' with d1 _
 have:its=its':=by simpa using congrArg Array.toList d1
 subst this
 exact r.inj r'
theorem Inv.tuple_inj (I:Inv X pins σ H s) (h:SqT X.K H a xs) (h':SqT X.K H a ys):xs=ys:=by
 obtain ⟨its,r,⟨o,e,_,n,d⟩,_⟩:=I.tuple h
 obtain ⟨its',r',⟨o',e',_,n',d'⟩,_⟩:=I.tuple h'
 rw [e] at e'; cases e'
 rw [d] at d'
 injection d' with d1 _
 have:its=its':=by simpa using congrArg Array.toList d1
 subst this
 exact r.inj r'
end
abbrev Cx.wish (X:Cx) (E:Value->Shared->Prop):Cx:={ X with xe:=E }
abbrev Cx.nox (X:Cx):Cx:=X.wish fun _ _=>False
theorem Cx.Ok.wish {X:Cx} (ok:X.Ok) (E:Value->Shared->Prop):(X.wish E).Ok :=
 ⟨ok.mod,ok.kind,ok.glob,ok.blt,ok.above,ok.inj,ok.has,ok.cab,ok.hd,ok.frames,ok.stk,ok.exf,ok.bs,ok.bsz,ok.noex,ok.exfs,ok.funs,ok.frf⟩
theorem Cx.Ok.unwish {X:Cx} {E:Value->Shared->Prop} (ok:(X.wish E).Ok):X.Ok :=
 ⟨ok.mod,ok.kind,ok.glob,ok.blt,ok.above,ok.inj,ok.has,ok.cab,ok.hd,ok.frames,ok.stk,ok.exf,ok.bs,ok.bsz,ok.noex,ok.exfs,ok.funs,ok.frf⟩
section
variable {X:Cx} {pins:List (Addr × Obj)} {σ:St} {H:Hp} {s:Shared} {E:Value->Shared->Prop}
theorem Inv.wish (I:Inv X pins σ H s) (E:Value->Shared->Prop):Inv (X.wish E) pins σ H s:=⟨I.ok.wish E,I.os,I.bare,I.base,I.loc,I.cell,I.free,I.freeC,I.pin,I.hok,I.len⟩
theorem Inv.unwish (I:Inv (X.wish E) pins σ H s):Inv X pins σ H s:=⟨I.ok.unwish,I.os,I.bare,I.base,I.loc,I.cell,I.free,I.freeC,I.pin,I.hok,I.len⟩
theorem SP.unwish {D:yb6} {f:Flow} {s':Shared} (h:SP (X.wish E) pins D f s'):SP X pins D f s':=by
 cases f with
 | next=>obtain ⟨σ',H',I,q⟩:=h; exact ⟨σ',H',I.unwish,q⟩
 | brk=>obtain ⟨σ',H',I,q⟩:=h; exact ⟨σ',H',I.unwish,q⟩
 | cont=>obtain ⟨σ',H',I,q⟩:=h; exact ⟨σ',H',I.unwish,q⟩
 | ret u=>obtain ⟨v,σ',H',I,r,q⟩:=h; exact ⟨v,σ',H',I.unwish,r,q⟩
theorem PSs.nox {st:List Stmt} {t:TS} (h:PSs X.nox st t):PSs X st t:=fun pins s σ H D I hw =>
 wpAny_mono (h pins s σ H D (I.wish _) hw) (fun _ _ q=>q.unwish) fun _ _ z=>False.elim z
end
section
variable {X:Cx} {st:Stmt} {jh:List Stmt} {t u:TS} {e:Expr} {te:TE} {pos:Pos}
def yrw:TS:=fun D σ H=>D.nx σ H
def yt9 (t u:TS):TS:=fun D σ H=>t { D with nx:=u D } σ H
theorem vw:PSs X [] yrw:=fun _ _ σ H _ I h=>wpAny_execs_nil ⟨σ,H,I,h⟩
theorem yn (h1:PS X st t) (h2:PSs X jh u):PSs X (st :: jh) (yt9 t u):=by
 intro pins s σ H D I h
 refine wpAny_execs_cons (thn (h1 pins s σ H { D with nx:=u D } I h) fun f s1 q=>?_)
 cases f with
 | next =>
  obtain ⟨σ',H',I',q⟩:=q
  exact h2 pins s1 σ' H' D I' q
 | ret v=>exact q
 | brk=>exact q
 | cont=>exact q
theorem yf (h1:PS X st t):PSs X [st] t:=by
 intro pins s σ H D I h
 refine wpAny_execs_cons (thn (h1 pins s σ H D I h) fun f s1 q=>?_)
 cases f with
 | next=>exact wpAny_execs_nil q
 | ret v=>exact q
 | brk=>exact q
 | cont=>exact q
theorem Inv.quiet {pins:List (Addr × Obj)} {σ:St} {H:Hp} {s:Shared} (I:Inv X pins σ H s):interactive X.env=false:=by simp [interactive,I.ok.kind]
def yr1 (te:TE):TS:=fun D σ H=>te σ H fun _ H1=>D.nx σ H1
theorem y3 (he:PE X e te) (hs:swapsWith e none pos.line X.env=pure false:=by rfl):PS X (.Expr e pos) (yr1 te):=by
 intro pins s σ H D I h
 exact wpAny_Expr_any (thn (he pins s σ H _ I h) fun v s1 ⟨x,H1,I1,r1,q1⟩=>⟨σ,H1,I1,q1⟩) I.quiet hs
def yum (te:TE):TS:=fun D σ H=>te σ H D.rt
theorem yy (he:PE X e te):PS X (.Return (some e) pos) (yum te):=by
 intro pins s σ H D I h
 exact wpAny_Return_some (thn (he pins s σ H _ I h) fun v s1 ⟨x,H1,I1,r1,q1⟩=>⟨x,σ,H1,I1,r1,q1⟩)
def yus (c:TT) (t u:TS):TS:=fun D σ H=>c σ H fun b H1=>if b=true then t D σ H1 else u D σ H1
theorem wt {c:Expr} {a b:List Stmt} {tc:TT} (hc:PT X c tc) (ha:PSs X a t) (hb:PSs X b u):PS X (.If c a b pos) (yus tc t u):=by
 intro pins s σ H D I h
 refine wpAny_If (thn (hc pins s σ H _ I h) fun d s1 ⟨H1,I1,q1⟩=>?_)
 cases d with
 | true=>exact ha pins s1 σ H1 D I1 q1
 | false=>exact hb pins s1 σ H1 D I1 q1
def ypx:TS:=fun _ _ _=>False
theorem yjb:PS X st ypx:=fun _ _ _ _ _ _ h=>h.elim
end
abbrev TG:=V->St->Hp->(St->Hp->Prop)->Prop
abbrev TGs:=List V->St->Hp->(St->Hp->Prop)->Prop
def PG (X:Cx) (target:Expr) (t:TG):Prop :=
 ∀ (pins:List (Addr × Obj)) (s:Shared) (σ:St) (H:Hp) (v:V) (u:Value) (Q:St->Hp->Prop),Inv X pins σ H s->wn v u->t v σ H Q ->
  wpAny (model X.prog X.w) X.A (assign target X.env u) (fun _ s'=>∃ σ' H',Inv X pins σ' H' s'/\Q σ' H') X.xe s
def PGs (X:Cx) (ts:List Expr) (t:TGs):Prop :=
 ∀ (pins:List (Addr × Obj)) (s:Shared) (σ:St) (H:Hp) (vs:List V) (us:List Value) (Q:St->Hp->Prop),Inv X pins σ H s->vp vs us->t vs σ H Q ->
  wpAny (model X.prog X.w) X.A (assignInOrder ((assignEach ts X.env).map (·.2)) us) (fun _ s'=>∃ σ' H',Inv X pins σ' H' s'/\Q σ' H') X.xe s
section
variable {X:Cx} {pos:Pos}
def wf (i:Nat):TG:=fun v σ H Q=>Q (σ.set i (some v)) H
theorem wu {i:Nat} {x:Str} (hN:X.N.Nodup) (hi:X.N[i]?=some x) (hx:Loc X.env.scope x) (hf:X.fn x=true\/X.env.scope.names.lookup x=some .local:=by first | exact .inl rfl | exact .inr rfl | assumption):PG X (.Name x pos) (wf i):=by
 intro pins s σ H v u Q I r h
 exact wpAny_assign_Name (zg I hN hi hx r (fun s' I'=>⟨_,H,I',h⟩) hf)
def yj2:TGs:=fun vs σ H Q=>vs=[]/\Q σ H
def ul (t:TG) (u:TGs):TGs:=fun vs σ H Q=>∃ v r,vs=v :: r/\t v σ H fun σ' H'=>u r σ' H' Q
theorem yb2:PGs X [] yj2:=by
 intro pins s σ H vs us Q I r h
 obtain ⟨e,h⟩:=h
 subst e
 cases r
 exact assignInOrder_nil ⟨σ,H,I,h⟩
theorem xh {e:Expr} {es:List Expr} {t:TG} {u:TGs} (h1:PG X e t) (h2:PGs X es u)
  (hs:(assignEach (e :: es) X.env).map (·.2)=assign e X.env :: (assignEach es X.env).map (·.2):=by rfl):PGs X (e :: es) (ul t u):=by
 intro pins s σ H vs us Q I r h
 obtain ⟨v,vr,e1,h⟩:=h
 subst e1
 cases r with
 | cons r rr =>
  rw [hs]
  refine assignInOrder_cons (thn (h1 pins s σ H _ _ _ I r h) fun _ s1 ⟨σ1,H1,I1,q1⟩=>?_)
  exact h2 pins s1 σ1 H1 _ _ Q I1 rr q1
def yox (K:W.Frag) (n:Nat) (t:TGs):TG:=fun v σ H Q=>∃ a xs,v=.ref a/\SqT K H a xs/\xs.length=n/\t xs σ H Q
theorem ye2 {es:List Expr} {k:Nat} {t:TGs} {n:Nat} (hc:X.calm=true) (h:PGs X es t)
  (hn:(assignEach es X.env).length=n:=by rfl) (hst:(assignEach es X.env).findIdx? (·.1)=none:=by rfl):PG X (.Tuple es k pos) (yox X.K n t):=by
 intro pins s σ H v u Q I r hw
 obtain ⟨a,xs,e1,hq,hl,hw⟩:=hw
 subst e1
 cases r
 obtain ⟨its,rv,ht,hz⟩:=I.tuple hq
 refine assign_Tuple_tuple (I.ok.hd hc) ht (by simp [hn,<- hl,rv.length]) hst fun h' hx=>?_
 have I1:Inv X pins σ H { s with heap:=h' }:=I.kept (t':=s.toks) fun b o e=>hx b o (Nat.ne_of_lt (Heap.lt_size e)) e
 exact h pins _ σ H xs _ Q I1 (by simpa using rv) hw
def ysh (te:TE) (g:TG):TS:=fun D σ H=>te σ H fun x H1=>g x σ H1 D.nx
theorem vj {i:Nat} {x:Str} {e:Expr} {te:TE} {pos':Pos} (hN:X.N.Nodup) (hi:X.N[i]?=some x) (hx:Loc X.env.scope x) (he:PE X e te) (hs:swapsWith e (some (.Name x pos')) pos.line X.env=pure false:=by rfl) (hf:X.fn x=true\/X.env.scope.names.lookup x=some .local:=by first | exact .inl rfl | exact .inr rfl | assumption) :
  PS X (.Assign [.Name x pos'] e pos) (ysh te (wf i)):=by
 intro pins s σ H D I h
 refine wpAny_Assign_Name (thn (he pins s σ H _ I h) fun v s1 ⟨y,H1,I1,r1,q1⟩=>?_) hs
 exact zg I1 hN hi hx r1 (fun s2 I2=>⟨_,H1,I2,q1⟩) hf
end
section
variable {X:Cx} {pos:Pos}
end
structure It where
 go:Nat->Hp->Prop
 yld:Nat->Hp->V->Hp->Prop
 stop:Nat->Hp->Prop
def yb5 (X:Cx) (pins:List (Addr × Obj)) (H:Hp) (b:Addr):Prop :=
 H b=none/\b≠X.env.locals/\b∉X.fs/\(b∈X.ex\/X.s₀.heap.objs.size <= b)/\(∀ x c,X.env.cells.lookup x=some c->c≠b)/\∀ p∈X.pn++pins,p.1≠b
theorem Inv.fpOk {X:Cx} {pins:List (Addr × Obj)} {σ:St} {H H':Hp} {s:Shared} {b:Addr} (I:Inv X pins σ H s) (hb:s.heap.objs.size <= b) (hn:H' b=none):yb5 X pins H' b:=by
 refine ⟨hn,Nat.ne_of_gt (Nat.lt_of_lt_of_le I.lt hb),I.nofs hb,.inr (Nat.le_trans I.sz hb),fun x c e z=>?_,fun p hp z=>?_⟩
 ·obtain ⟨v,q⟩:=I.cell x c e
  exact absurd (Nat.lt_of_lt_of_le q.lt (by rw [z]; exact hb)) (Nat.lt_irrefl _)
 ·exact absurd (Nat.lt_of_lt_of_le (Heap.lt_size (I.pin p hp).1) (by rw [z]; exact hb)) (Nat.lt_irrefl _)
structure yii (P:Program) (w:World) (K:W.Frag) (tg:Expr) (J:It) (fp:List Addr) (it:Addr) (tn:Nat->Heap->Prop):Prop where
 mem:it∈fp
 obj:∀ i h,tn i h->∀ b∈fp,∃ o,h.get? b=some o/\∀ v,o.data≠.cell v
 keep:∀ i h h',tn i h->(∀ b∈fp,∀ o,h.get? b=some o->h'.get? b=some o)->tn i h'
 item:∀ (X:Cx),X.prog=P->X.w=w->X.K=K->X.calm=true->∀ (i:Nat) (pins:List (Addr × Obj)) (s:Shared) (σ:St) (H:Hp) (E:Value->Shared->Prop),Inv X pins σ H s->(∀ b∈fp,yb5 X pins H b)->tn i s.heap->J.go i H ->
  wpAny (model P w) X.A (pyNext (.ref it)) (fun r s1=>∃ u,r=some u /\
   wpAny (model P w) X.A (letOwnedTupleGo tg (.ref it) u) (fun _ s2=>∃ x H',Inv X pins σ H' s2/\wn x u/\J.yld i H x H'/\tn (i+1) s2.heap/\∀ b∈fp,H' b=none) E s1) E s
 done:∀ (X:Cx),X.prog=P->X.w=w->X.K=K->X.calm=true->∀ (i:Nat) (pins:List (Addr × Obj)) (s:Shared) (σ:St) (H:Hp) (E:Value->Shared->Prop),Inv X pins σ H s->(∀ b∈fp,yb5 X pins H b)->tn i s.heap->J.stop i H ->
  wpAny (model P w) X.A (pyNext (.ref it)) (fun r s1=>r=none/\Inv X pins σ H s1) E s
 self:∀ (A:Around) (i:Nat) (s:Shared) (Q:Value->Shared->Prop) (E:Value->Shared->Prop),tn i s.heap->Q (.ref it) s->wpAny (model P w) A (pyIter (.ref it)) Q E s
abbrev TI:=St->Hp->(It->Hp->Prop)->Prop
def PIE (X:Cx) (pins:List (Addr × Obj)) (σ:St) (tg:Expr) (R:It->Hp->Prop) (itv:Value) (s2:Shared):Prop :=
 ∃ (it:Addr) (fp:List Addr) (tn:Nat->Heap->Prop) (J:It) (H':Hp),itv=.ref it/\Inv X pins σ H' s2/\yii X.prog X.w X.K tg J fp it tn/\tn 0 s2.heap/\(∀ b∈fp,yb5 X pins H' b)/\R J H'
def PI (X:Cx) (tg iter:Expr) (wi:TI):Prop :=
 ∀ (pins:List (Addr × Obj)) (s:Shared) (σ:St) (H:Hp) (R:It->Hp->Prop),Inv X pins σ H s->wi σ H R ->
  wpAny (model X.prog X.w) X.A (eval iter X.env) (fun v s1=>wpAny (model X.prog X.w) X.A (pyIter v) (PIE X pins σ tg R) X.xe s1) X.xe s
theorem yn3 {M:Model} {A:Around} {E:Value->Shared->Prop} {s:Shared} {tg:Expr} {it:Addr} {u:Value} {o:Obj} {n:String} {vs:Array Value} {Q:Unit->Shared->Prop} (ho:s.heap.get? it=some o) (hc:o.cls=.type n) (hd:o.data=.fields vs)
  (hn:["enumerate","zip","dict_itemiterator","dict_reverseitemiterator","odict_iterator","itertools.zip_longest","itertools.pairwise"].contains n=false) (hQ:Q () s):wpAny M A (letOwnedTupleGo tg (.ref it) u) Q E s:=by
 unfold letOwnedTupleGo
 cases tg <;> first
  | exact wpAny_pure hQ
  | (cases u <;> first
    | exact wpAny_pure hQ
    | (refine wpAny_bind (wpAny_load ho ?_)
       rw [hc,hd]
       show wpAny M A (if (["enumerate","zip","dict_itemiterator","dict_reverseitemiterator","odict_iterator","itertools.zip_longest","itertools.pairwise"].contains n && vs[0]? == some (rawInt _))=true then _ else _) Q E s
       rw [if_neg (by intro h; rw [hn,Bool.false_and] at h; cases h)]
       exact wpAny_pure hQ))
def Itl (K:W.Frag) (a:Addr):It :=
 ⟨fun i H=>∃ xs x,SqL K H a xs/\xs[i]?=some x,fun i H x H'=>H'=H/\∀ xs,SqL K H a xs->xs[i]?=some x,fun i H=>∃ xs,SqL K H a xs/\xs.length <= i⟩
def Itt (K:W.Frag) (a:Addr):It :=
 ⟨fun i H=>∃ xs x,SqT K H a xs/\xs[i]?=some x,fun i H x H'=>H'=H/\∀ xs,SqT K H a xs->xs[i]?=some x,fun i H=>∃ xs,SqT K H a xs/\xs.length <= i⟩
def Itr (lo:Int) (n:Nat):It:=⟨fun i _=>i < n,fun i H x H'=>H'=H/\x=.int (lo+i),fun i _=>n <= i⟩
theorem ygu {P:Program} {w:World} {K:W.Frag} {tg:Expr} (a it:Addr):yii P w K tg (Itl K a) [it] it (fun i h=>h.IsListIter it a i) where
 mem:=by simp
 obj:=fun i h st b hb=>by
  have e:b=it:=by simpa using hb
  subst e
  obtain ⟨o,e,c,d⟩:=st
  exact ⟨o,e,fun v z=>by rw [d] at z; cases z⟩
 keep:=fun i h h' st k=>st.at fun o e=>k it (by simp) o e
 item:=by
  intro X hP hw hK hc i pins s σ H E I hf st hg
  subst hP hw hK
  obtain ⟨xs,x,hq,hx⟩:=hg
  obtain ⟨its,rv,p,hz⟩:=I.list hq
  obtain ⟨u,hu,ru⟩:=rv.get hx
  obtain ⟨f0,f1,f2,f3,f4,f5⟩:=hf it (by simp)
  refine wpAny_pyNext_list_item st p.isList (x:=u) (by simpa using hu) fun h' st' sb=>?_
  have I1:Inv X pins σ H { s with heap:=h' }:=I.turned (t':=s.toks) (fun b o hb e=>(sb.2 b hb).trans e) f0 f1 f3 f4 f5
  obtain ⟨o,e,c,d⟩:=id st'
  exact ⟨u,rfl,yn3 (s:={ s with heap:=h' }) e c d (by decide) ⟨x,H,I1,ru,⟨rfl,fun ys hy=>by rw [I.list_inj hy hq]; exact hx⟩,st',fun b hb=>(hf b hb).1⟩⟩
 done:=by
  intro X hP hw hK hc i pins s σ H E I hf st hg
  subst hP hw hK
  obtain ⟨xs,hq,hx⟩:=hg
  obtain ⟨its,rv,p,hz⟩:=I.list hq
  obtain ⟨f0,f1,f2,f3,f4,f5⟩:=hf it (by simp)
  have hl:=rv.length
  exact wpAny_pyNext_list_end (I.ok.hd hc) st p.isList (by simp; omega) fun h' eb=>⟨rfl,I.turned (t':=s.toks) (fun b o hb e=>eb b o hb e) f0 f1 f3 f4 f5⟩
 self:=fun _ _ _ _ _ st h=>wpAny_pyIter_listiter st h
theorem yfl {P:Program} {w:World} {K:W.Frag} {tg:Expr} (a it:Addr):yii P w K tg (Itt K a) [it] it (fun i h=>h.IsTupleIter it a i) where
 mem:=by simp
 obj:=fun i h st b hb=>by
  have e:b=it:=by simpa using hb
  subst e
  obtain ⟨o,e,c,d⟩:=st
  exact ⟨o,e,fun v z=>by rw [d] at z; cases z⟩
 keep:=fun i h h' st k=>st.at fun o e=>k it (by simp) o e
 item:=by
  intro X hP hw hK hc i pins s σ H E I hf st hg
  subst hP hw hK
  obtain ⟨xs,x,hq,hx⟩:=hg
  obtain ⟨its,rv,p,hz⟩:=I.tuple hq
  obtain ⟨u,hu,ru⟩:=rv.get hx
  obtain ⟨f0,f1,f2,f3,f4,f5⟩:=hf it (by simp)
  refine wpAny_pyNext_tuple_item st (show s.heap.IsTuple a its.toArray from p) (x:=u) (by simpa using hu) fun h' st' sb=>?_
  have I1:Inv X pins σ H { s with heap:=h' }:=I.turned (t':=s.toks) (fun b o hb e=>(sb.2 b hb).trans e) f0 f1 f3 f4 f5
  obtain ⟨o,e,c,d⟩:=id st'
  exact ⟨u,rfl,yn3 (s:={ s with heap:=h' }) e c d (by decide) ⟨x,H,I1,ru,⟨rfl,fun ys hy=>by rw [I.tuple_inj hy hq]; exact hx⟩,st',fun b hb=>(hf b hb).1⟩⟩
 done:=by
  intro X hP hw hK hc i pins s σ H E I hf st hg
  subst hP hw hK
  obtain ⟨xs,hq,hx⟩:=hg
  obtain ⟨its,rv,p,hz⟩:=I.tuple hq
  obtain ⟨f0,f1,f2,f3,f4,f5⟩:=hf it (by simp)
  have hl:=rv.length
  exact wpAny_pyNext_tuple_end (I.ok.hd hc) st (show s.heap.IsTuple a its.toArray from p) (by simp; omega) fun h' eb=>⟨rfl,I.turned (t':=s.toks) (fun b o hb e=>eb b o hb e) f0 f1 f3 f4 f5⟩
 self:=fun _ _ _ _ _ st h=>wpAny_pyIter_tupleiter st h
theorem yfv {P:Program} {w:World} {K:W.Frag} {tg:Expr} (it:Addr) (lo:Int) (n:Nat):yii P w K tg (Itr lo n) [it] it (fun i h=>IsRangeIter h it (lo+(i:Nat) * 1) ((n:Int) - (i:Nat)) 1) where
 mem:=by simp
 obj:=fun i h st b hb=>by
  have e:b=it:=by simpa using hb
  subst e
  exact ⟨_,st,fun v z=>by
   have z':Data.fields _=Data.cell v:=z
   cases z'⟩
 keep:=fun i h h' st k=>k it (by simp) _ st
 item:=by
  intro X hP hw hK hc i pins s σ H E I hf st hg
  subst hP hw hK
  obtain ⟨f0,f1,f2,f3,f4,f5⟩:=hf it (by simp)
  have W:=Walks.range (prog:=X.prog) (w:=X.w) (I.ok.hd hc) it lo 1 n
  refine W.item i s _ _ hg st fun v h' tk hv st' kk=>?_
  obtain ⟨t,rfl⟩:=hv
  have I1:Inv X pins σ H { s with heap:=h',toks:=tk }:=I.turned (fun b o hb e=>kk b o (by simpa using hb) e) f0 f1 f3 f4 f5
  refine ⟨_,rfl,yn3 (s:={ s with heap:=h',toks:=tk }) (n:="range_iterator") st' rfl rfl (by decide) ⟨.int (lo+i),H,I1,⟨t,?_⟩,⟨rfl,rfl⟩,st',fun b hb=>(hf b hb).1⟩⟩
  rw [Int.mul_one]
 done:=by
  intro X hP hw hK hc i pins s σ H E I hf st hg
  subst hP hw hK
  obtain ⟨f0,f1,f2,f3,f4,f5⟩:=hf it (by simp)
  exact wpAny_pyNext_range_end (I.ok.hd hc) st (by have:n <= i:=hg; omega) fun h' eb=>⟨rfl,I.turned (t':=s.toks) (fun b o hb e=>eb b o hb e) f0 f1 f3 f4 f5⟩
 self:=fun _ _ _ _ _ st h=>wpAny_pyIter_rangeiter st h
end L2
namespace L2
open PySem PySem.Spec PyProof.Rows
section
variable {X:Cx} {tg:Expr}
def ysc (K:W.Frag) (tl:TE):TI:=fun σ H R=>tl σ H fun x H1=>∃ a,x=.ref a/\(∃ xs,SqL K H1 a xs)/\R (Itl K a) H1
def yuh (K:W.Frag) (tl:TE):TI:=fun σ H R=>tl σ H fun x H1=>∃ a,x=.ref a/\(∃ xs,SqT K H1 a xs)/\R (Itt K a) H1
theorem wx {l:Expr} {tl:TE} (hl:PE X l tl):PI X tg l (ysc X.K tl):=by
 intro pins s σ H R I h
 refine thn (hl pins s σ H _ I h) fun v s1 ⟨x,H1,I1,r1,q1⟩=>?_
 obtain ⟨a,e,⟨xs,hq⟩,q⟩:=q1
 subst e
 cases r1
 obtain ⟨its,rv,p,hz⟩:=I1.list hq
 refine wpAny_pyIter_list p.isList ?_
 refine ⟨s1.heap.objs.size,[s1.heap.objs.size],_,_,H1,rfl,I1.kept (t':=s1.toks) fun b o e=>Heap.get?_push_of_some _ e,ygu a _,⟨_,Heap.get?_push_size _ rfl,rfl,rfl⟩,fun b hb=>?_,q⟩
 have e:b=s1.heap.objs.size:=by simpa using hb
 subst e
 exact I1.fpOk (Nat.le_refl _) (I1.hok.fresh (Nat.le_refl _))
theorem ykr {l:Expr} {tl:TE} (hl:PE X l tl):PI X tg l (yuh X.K tl):=by
 intro pins s σ H R I h
 refine thn (hl pins s σ H _ I h) fun v s1 ⟨x,H1,I1,r1,q1⟩=>?_
 obtain ⟨a,e,⟨xs,hq⟩,q⟩:=q1
 subst e
 cases r1
 obtain ⟨its,rv,p,hz⟩:=I1.tuple hq
 refine wpAny_pyIter_tuple (show s1.heap.IsTuple a its.toArray from p) ?_
 refine ⟨s1.heap.objs.size,[s1.heap.objs.size],_,_,H1,rfl,I1.kept (t':=s1.toks) fun b o e=>Heap.get?_push_of_some _ e,yfl a _,⟨_,Heap.get?_push_size _ rfl,rfl,rfl⟩,fun b hb=>?_,q⟩
 have e:b=s1.heap.objs.size:=by simpa using hb
 subst e
 exact I1.fpOk (Nat.le_refl _) (I1.hok.fresh (Nat.le_refl _))
theorem yeo {pins:List (Addr × Obj)} {σ:St} {H:Hp} {s:Shared} {R:It->Hp->Prop} {E:Value->Shared->Prop} {lo hi:Int} {t u v:Tok} {tk:Nat} (I:Inv X pins σ H s) (h1:-(2 ^ 62) <= lo) (h2:lo < 2 ^ 62) (h3:-(2 ^ 62) <= hi) (h4:hi < 2 ^ 62)
  (q:R (Itr lo (hi - lo).toNat) H):wpAny (model X.prog X.w) X.A (pyIter (.ref s.heap.objs.size)) (PIE X pins σ tg R) E { s with heap:=s.heap.push { cls:=.type "range",data:=.fields #[.int lo t,.int hi u,.int 1 v] },toks:=tk }:=by
 refine wpAny_pyIter_range (IsRange.new ..) (small_one h1 h2 h3 h4) ?_
 have I1:Inv X pins σ H { s with heap:=s.heap.push { cls:=.type "range",data:=.fields #[.int lo t,.int hi u,.int 1 v] },toks:=tk }:=I.kept fun b o e=>Heap.get?_push_of_some _ e
 refine ⟨(s.heap.push { cls:=.type "range",data:=.fields #[.int lo t,.int hi u,.int 1 v] }).objs.size,[(s.heap.push { cls:=.type "range",data:=.fields #[.int lo t,.int hi u,.int 1 v] }).objs.size],_,_,H,rfl,
  I1.kept (t':=tk) fun b o e=>Heap.get?_push_of_some _ e,yfv _ lo (hi - lo).toNat,?_,fun b hb=>?_,q⟩
 ·have e1:lo+((0:Nat):Int) * 1=lo:=by simp
  have e2:(((hi - lo).toNat:Nat):Int) - ((0:Nat):Int)=Builtin.Range.rangeSize lo hi 1:=by rw [rangeSize_one]; split <;> omega
  show IsRangeIter _ _ (lo+((0:Nat):Int) * 1) ((((hi - lo).toNat:Nat):Int) - ((0:Nat):Int)) 1
  rw [e1,e2]
  exact Heap.get?_push_size _ rfl
 ·have e:b=(s.heap.push { cls:=.type "range",data:=.fields #[.int lo t,.int hi u,.int 1 v] }).objs.size:=by simpa using hb
  subst e
  exact I1.fpOk (Nat.le_refl _) (I1.hok.fresh (Nat.le_refl _))
def ysd (ta:TA):TI:=fun σ H R=>ta σ H fun vs H1=>∃ j:Int,vs=[.int j]/\-(2 ^ 62) <= j/\j < 2 ^ 62/\R (Itr 0 j.toNat) H1
def yr2 (ta:TA):TI:=fun σ H R=>ta σ H fun vs H1=>∃ i j:Int,vs=[.int i,.int j]/\(-(2 ^ 62) <= i/\i < 2 ^ 62/\-(2 ^ 62) <= j/\j < 2 ^ 62)/\R (Itr i (j - i).toNat) H1
theorem x5 {a:Expr} {ta:TA} {p pos:Pos} (hg:Gl X "range") (hm:X.mg "range"=none) (ha:PA X [a] ta) (hs:starEach [a] X.env=[(false,eval a X.env)]:=by rfl):PI X tg (.Call (.Name "range" p) [a] [] pos) (ysd ta):=by
 intro pins s σ H R I h
 refine Call_ (yae I hg hm boot_range (PyProof.Rows.callWith_type1 (thn (ha pos pins s σ H _ I h) fun us s1 ⟨vs,H1,I1,r1,q1⟩=>?_) hs rfl))
 obtain ⟨j,e,q1,q2,q⟩:=q1
 subst e
 cases r1 with
 | cons r rr =>
  cases rr
  obtain ⟨t,rfl⟩:=r
  exact call_range_1 (yeo I1 (by omega) (by omega) q1 q2 (by simpa using q))
theorem yg9 {a b:Expr} {ta:TA} {p pos:Pos} (hg:Gl X "range") (hm:X.mg "range"=none) (ha:PA X [a,b] ta) (hs:starEach [a,b] X.env=[(false,eval a X.env),(false,eval b X.env)]:=by rfl) (hs2:starEach [b] X.env=[(false,eval b X.env)]:=by rfl) :
  PI X tg (.Call (.Name "range" p) [a,b] [] pos) (yr2 ta):=by
 intro pins s σ H R I h
 refine Call_ (yae I hg hm boot_range (PyProof.Rows.callWith_type1 (thn (ha pos pins s σ H _ I h) fun us s1 ⟨vs,H1,I1,r1,q1⟩=>?_) (by rw [hs,hs2]) (by rw [hs2]; rfl)))
 obtain ⟨i,j,e,⟨q1,q2,q3,q4⟩,q⟩:=q1
 subst e
 cases r1 with
 | cons r rr =>
  cases rr with
  | cons r' rr =>
   cases rr
   obtain ⟨t,rfl⟩:=r
   obtain ⟨t',rfl⟩:=r'
   exact call_range_2 (yeo I1 q1 q2 q3 q4 q)
def yuq (wi:TI) (g:TG) (tb:TS):TS:=fun D σ H=>wi σ H fun J H1=>∃ W:Nat->Nat->St->Hp->Prop,(∃ m,W 0 m σ H1)/\∀ i m σ H,W i m σ H ->
 (J.stop i H/\D.nx σ H)\/(J.go i H/\∃ N:St->Hp->Prop,(∀ σ' H',N σ' H'->∃ m',m' < m/\W (i+1) m' σ' H')/\∀ x H',J.yld i H x H'->g x σ H' fun σ2 H2=>tb { D with nx:=N,ct:=N,bk:=D.nx } σ2 H2)
def yev (fp:List Addr) (h:Heap):List (Addr × Obj):=fp.filterMap fun b=>(h.get? b).map fun o=>(b,o)
theorem vh {fp:List Addr} {h:Heap} {b:Addr} {o:Obj} (hb:b∈fp) (e:h.get? b=some o):(b,o)∈yev fp h:=List.mem_filterMap.mpr ⟨b,hb,by rw [e]; rfl⟩
theorem yge {fp:List Addr} {h:Heap} {p:Addr × Obj} (hp:p∈yev fp h):p.1∈fp/\h.get? p.1=some p.2:=by
 obtain ⟨b,hb,e⟩:=List.mem_filterMap.mp hp
 cases q:h.get? b with
 | none=>rw [q] at e; cases e
 | some o =>
  rw [q] at e
  have e':(b,o)=p:=Option.some.inj e
  subst e'
  exact ⟨hb,q⟩
theorem Inv.pinned {pins:List (Addr × Obj)} {σ:St} {H:Hp} {s:Shared} {fp:List Addr} (I:Inv X pins σ H s) (hf:∀ b∈fp,yb5 X pins H b) (ho:∀ b∈fp,∃ o,s.heap.get? b=some o/\∀ v,o.data≠.cell v):Inv X (pins++yev fp s.heap) σ H s :=
 I.pins_of fun p hp=>(List.mem_append.mp hp).elim (fun z=>I.pin p (List.mem_append_right _ z)) fun z=>by
  obtain ⟨hb,e⟩:=yge z
  obtain ⟨f0,f1,f2,_⟩:=hf p.1 hb
  obtain ⟨o,e',d⟩:=ho p.1 hb
  rw [e] at e'; cases e'
  exact ⟨e,f0,f1,f2,d⟩
theorem Inv.unpinned {pins pl:List (Addr × Obj)} {σ:St} {H:Hp} {s:Shared} (I:Inv X (pins++pl) σ H s):Inv X pins σ H s:=I.pins_of fun p hp=>I.pin p (List.mem_append_right _ (List.mem_append_left _ hp))
theorem yaz {iter:Expr} {body:List Stmt} {wi:TI} {g:TG} {tb:TS} {pos:Pos} (hp:PassesOwn (model X.prog X.w) X.A X.env X.xe) (hc:X.calm=true) (hi:PI X tg iter wi) (hg:PG X tg g) (hb:PSs X body tb)
  (hs:∀ x,foldedSetIterable iter X.env x=pure x:=by intro _; rfl):PS X (.For tg iter body [] pos) (yuq wi g tb):=by
 intro pins s σ H D I h
 refine wpAny_For (thn (hi pins s σ H _ I h) fun v s1 h1=>thn h1 fun itv s2 h2=>?_) hs
 obtain ⟨it,fp,tn,J,H2,e,I2,T,st2,f2,W,⟨m0,w0⟩,turn⟩:=h2
 subst e
 have stat:∀ {H':Hp},(∀ b∈fp,H' b=none)->∀ b∈fp,yb5 X pins H' b:=fun hn b hb=>⟨hn b hb,(f2 b hb).2⟩
 refine codeAny_forLoop_any (fun n s'=>∃ i σ' H',Inv X pins σ' H' s'/\tn i s'.heap/\(∀ b∈fp,H' b=none)/\W i n σ' H') ?_ m0 ⟨0,σ,H2,I2,st2,fun b hb=>(f2 b hb).1,w0⟩
 rintro n s3 ⟨i,σ3,H3,I3,st3,fr3,w3⟩
 rcases turn i n σ3 H3 w3 with ⟨stop,qn⟩ | ⟨go,N,hN,step⟩
 ·refine wpAny_passesOwn hp (thn (T.done X rfl rfl rfl hc i pins s3 σ3 H3 X.xe I3 (stat fr3) st3 stop) fun r s4 ⟨hr,I4⟩=>?_)
  subst hr
  exact wpAny_execs_nil ⟨σ3,H3,I4,qn⟩
 ·refine wpAny_passesOwn hp (thn (T.item X rfl rfl rfl hc i pins s3 σ3 H3 X.xe I3 (stat fr3) st3 go) fun r s4 ⟨u,hr,h4⟩=>?_)
  subst hr
  refine wpAny_passesOwn hp (thn h4 fun _ s5 ⟨x,H5,I5,r5,y5,st5,fr5⟩=>?_)
  have I5':=I5.pinned (stat fr5) (T.obj _ _ st5)
  refine wpAny_passesOwn hp (thn (hg _ s5 σ3 H5 x u _ I5' r5 (step x H5 y5)) fun _ s6 ⟨σ6,H6,I6,q6⟩=>?_)
  refine wpAny_passesOwn hp (thn (hb _ s6 σ6 H6 _ I6 q6) fun f s7 q7=>?_)
  have again:∀ {σ7:St} {H7:Hp},Inv X (pins++yev fp s5.heap) σ7 H7 s7->N σ7 H7->∃ m,m < n/\∃ i σ' H',Inv X pins σ' H' s7/\tn i s7.heap/\(∀ b∈fp,H' b=none)/\W i m σ' H':=fun {σ7 H7} I7 n7=>by
   obtain ⟨m',hm,w7⟩:=hN σ7 H7 n7
   refine ⟨m',hm,i+1,σ7,H7,I7.unpinned,T.keep _ _ _ st5 fun b hb o e=>(I7.pin (b,o) (List.mem_append_right _ (List.mem_append_right _ (vh hb e)))).1,fun b hb=>?_,w7⟩
   obtain ⟨o,e,d⟩:=T.obj _ _ st5 b hb
   exact (I7.pin (b,o) (List.mem_append_right _ (List.mem_append_right _ (vh hb e)))).2.1
  cases f with
  | next=>obtain ⟨σ7,H7,I7,n7⟩:=q7; exact again I7 n7
  | cont=>obtain ⟨σ7,H7,I7,n7⟩:=q7; exact again I7 n7
  | brk=>obtain ⟨σ7,H7,I7,q7⟩:=q7; exact ⟨σ7,H7,I7.unpinned,q7⟩
  | ret v=>obtain ⟨x7,σ7,H7,I7,r7,q7⟩:=q7; exact ⟨x7,σ7,H7,I7.unpinned,r7,q7⟩
end
theorem yei {K:W.Frag} {a:Addr} {xs:List V} {g:TG} {tb:TS} {D:yb6} {σ:St} {H:Hp} (Pv:Nat->St->Hp->Prop) (h0:Pv 0 σ H) (hl:∀ i σ H,i <= xs.length->Pv i σ H->SqL K H a xs)
  (hs:∀ i x σ H,xs[i]?=some x->Pv i σ H->g x σ H fun σ2 H2=>tb { D with nx:=Pv (i+1),ct:=Pv (i+1),bk:=D.nx } σ2 H2) (hd:∀ σ H,Pv xs.length σ H->D.nx σ H) :
  ∃ W:Nat->Nat->St->Hp->Prop,(∃ m,W 0 m σ H)/\∀ i m σ H,W i m σ H ->
   ((Itl K a).stop i H/\D.nx σ H)\/((Itl K a).go i H/\∃ N:St->Hp->Prop,(∀ σ' H',N σ' H'->∃ m',m' < m/\W (i+1) m' σ' H')/\∀ x H',(Itl K a).yld i H x H'->g x σ H' fun σ2 H2=>tb { D with nx:=N,ct:=N,bk:=D.nx } σ2 H2):=by
 refine ⟨fun i m σ H=>m=xs.length - i/\i <= xs.length/\Pv i σ H,⟨xs.length,by simp,Nat.zero_le _,h0⟩,?_⟩
 rintro i m σ H ⟨rfl,hi,p⟩
 have q:=hl i σ H hi p
 by_cases hlt:i < xs.length
 ·refine .inr ⟨⟨xs,xs[i],q,by simp [hlt]⟩,Pv (i+1),fun σ' H' p'=>⟨xs.length - (i+1),by omega,rfl,hlt,p'⟩,fun x H' y=>?_⟩
  obtain ⟨e,y⟩:=y
  subst e
  exact hs i x σ _ (y xs q) p
 ·have e:i=xs.length:=by omega
  subst e
  exact .inl ⟨⟨xs,q,Nat.le_refl _⟩,hd σ H p⟩
theorem j6 {lo:Int} {n:Nat} {g:TG} {tb:TS} {D:yb6} {σ:St} {H:Hp} (Pv:Nat->St->Hp->Prop) (h0:Pv 0 σ H)
  (hs:∀ i σ H,i < n->Pv i σ H->g (.int (lo+i)) σ H fun σ2 H2=>tb { D with nx:=Pv (i+1),ct:=Pv (i+1),bk:=D.nx } σ2 H2) (hd:∀ σ H,Pv n σ H->D.nx σ H) :
  ∃ W:Nat->Nat->St->Hp->Prop,(∃ m,W 0 m σ H)/\∀ i m σ H,W i m σ H ->
   ((Itr lo n).stop i H/\D.nx σ H)\/((Itr lo n).go i H/\∃ N:St->Hp->Prop,(∀ σ' H',N σ' H'->∃ m',m' < m/\W (i+1) m' σ' H')/\∀ x H',(Itr lo n).yld i H x H'->g x σ H' fun σ2 H2=>tb { D with nx:=N,ct:=N,bk:=D.nx } σ2 H2):=by
 refine ⟨fun i m σ H=>m=n - i/\i <= n/\Pv i σ H,⟨n,by simp,Nat.zero_le _,h0⟩,?_⟩
 rintro i m σ H ⟨rfl,hi,p⟩
 by_cases hlt:i < n
 ·refine .inr ⟨hlt,Pv (i+1),fun σ' H' p'=>⟨n - (i+1),by omega,rfl,hlt,p'⟩,fun x H' y=>?_⟩
  obtain ⟨e,y⟩:=y
  subst e y
  exact hs i σ _ hlt p
 ·have e:i=n:=by omega
  subst e
  exact .inl ⟨Nat.le_refl _,hd σ H p⟩
end L2
namespace L2
open PySem PySem.Spec PyProof.Rows
abbrev R2:=V->V->Hp->VK->Prop
def OpR (X:Cx) (f:Value->Value->Sem Value) (r:R2):Prop :=
 ∀ (pins:List (Addr × Obj)) (s:Shared) (σ:St) (H:Hp) (x y:V) (v u:Value) (Q:VK),Inv X pins σ H s->wn x v->wn y u->r x y H Q ->
  wpAny (model X.prog X.w) X.A (f v u) (EP X pins σ Q) X.xe s
def UnR (X:Cx) (f:Value->Sem Value) (r:V->Hp->VK->Prop):Prop :=
 ∀ (pins:List (Addr × Obj)) (s:Shared) (σ:St) (H:Hp) (x:V) (v:Value) (Q:VK),Inv X pins σ H s->wn x v->r x H Q ->
  wpAny (model X.prog X.w) X.A (f v) (EP X pins σ Q) X.xe s
def yak (X:Cx) (f:Value) (r:List V->Hp->VK->Prop):Prop :=
 ∀ (pins:List (Addr × Obj)) (s:Shared) (σ:St) (H:Hp) (xs:List V) (us:List Value) (Q:VK),Inv X pins σ H s->vp xs us->r xs H Q ->
  wpAny (model X.prog X.w) X.A (call f us) (EP X pins σ Q) X.xe s
def tOp (r:R2) (ta tb:TE):TE:=fun σ H Q=>ta σ H fun x H1=>tb σ H1 fun y H2=>r x y H2 Q
def tUn (r:V->Hp->VK->Prop) (ta:TE):TE:=fun σ H Q=>ta σ H fun x H1=>r x H1 Q
def rI (C:Int->Int->Prop) (g:Int->Int->V):R2:=fun x y H Q=>∃ i j,x=.int i/\y=.int j/\C i j/\Q (g i j) H
def rI0 (g:Int->Int->V):R2:=fun x y H Q=>∃ i j,x=.int i/\y=.int j/\Q (g i j) H
def rU (g:Int->V):V->Hp->VK->Prop:=fun x H Q=>∃ i,x=.int i/\Q (g i) H
section
variable {X:Cx} {a b c:Expr} {ta tb tc:TE} {pos:Pos}
theorem yt8 (ha:PE X a ta) (hb:PE X b tb) {pins:List (Addr × Obj)} {s:Shared} {σ:St} {H:Hp} {R:V->V->Hp->Prop} (I:Inv X pins σ H s)
  (h:ta σ H fun x H1=>tb σ H1 fun y H2=>R x y H2) {Q:Value->Shared->Prop} {f:Value->Value->Sem Value}
  (hf:∀ v u s2 x y H2,Inv X pins σ H2 s2->wn x v->wn y u->R x y H2->wpAny (model X.prog X.w) X.A (f v u) Q X.xe s2) :
  wpAny (model X.prog X.w) X.A (eval a X.env) (fun v s₁=>wpAny (model X.prog X.w) X.A (eval b X.env) (fun u s₂=>wpAny (model X.prog X.w) X.A (f v u) Q X.xe s₂) X.xe s₁) X.xe s:=by
 refine thn (ha pins s σ H _ I h) fun v s1 ⟨x,H1,I1,r1,q1⟩=>?_
 refine thn (hb pins s1 σ H1 _ I1 q1) fun u s2 ⟨y,H2,I2,r2,q2⟩=>?_
 exact hf v u s2 x y H2 I2 r1 r2 q2
theorem yr {op:Operator} {r:R2} (ho:OpR X (binaryOp op) r) (ha:PE X a ta) (hb:PE X b tb):PE X (.BinOp a op b pos) (tOp r ta tb):=by
 intro pins s σ H Q I h
 exact wpAny_BinOp (yt8 ha hb I h fun v u s2 x y H2 I2 rx ry q=>ho pins s2 σ H2 x y v u Q I2 rx ry q)
theorem ysu {op:UnaryOp} {r:V->Hp->VK->Prop} (ho:UnR X (unaryOp op) r) (ha:PE X a ta):PE X (.UnaryOp op a pos) (tUn r ta):=by
 intro pins s σ H Q I h
 exact UnaryOp_ (thn (ha pins s σ H _ I h) fun v s1 ⟨x,H1,I1,r1,q1⟩=>ho pins s1 σ H1 x v Q I1 r1 q1)
theorem opI {f:Value->Value->Sem Value} {C:Int->Int->Prop} {g:Int->Int->Int}
  (rule:∀ (i j:Int) (t u:Tok) (s:Shared) (Q:Value->Shared->Prop) (E:Value->Shared->Prop),C i j->Q (.int (g i j) s.toks) { s with toks:=s.toks+1 }->wpAny (model X.prog X.w) X.A (f (.int i t) (.int j u)) Q E s) :
  OpR X f (rI C fun i j=>.int (g i j)):=by
 intro pins s σ H x y v u Q I rx ry h
 obtain ⟨i,j,rfl,rfl,hc,q⟩:=h
 obtain ⟨t,rfl⟩:=rx
 obtain ⟨t',rfl⟩:=ry
 exact rule i j t t' s _ _ hc ⟨.int (g i j),H,I.tok _,⟨_,rfl⟩,q⟩
theorem yt6 {f:Value->Value->Sem Value} {g:Int->Int->Int}
  (rule:∀ (i j:Int) (t u:Tok) (s:Shared) (Q:Value->Shared->Prop) (E:Value->Shared->Prop),Q (.int (g i j) s.toks) { s with toks:=s.toks+1 }->wpAny (model X.prog X.w) X.A (f (.int i t) (.int j u)) Q E s) :
  OpR X f (rI0 fun i j=>.int (g i j)):=by
 intro pins s σ H x y v u Q I rx ry h
 obtain ⟨i,j,rfl,rfl,q⟩:=h
 obtain ⟨t,rfl⟩:=rx
 obtain ⟨t',rfl⟩:=ry
 exact rule i j t t' s _ _ ⟨.int (g i j),H,I.tok _,⟨_,rfl⟩,q⟩
theorem ysk {f:Value->Value->Sem Value} {g:Int->Int->Bool}
  (rule:∀ (i j:Int) (t u:Tok) (s:Shared) (Q:Value->Shared->Prop) (E:Value->Shared->Prop),Q (.bool (g i j)) s->wpAny (model X.prog X.w) X.A (f (.int i t) (.int j u)) Q E s) :
  OpR X f (rI0 fun i j=>.bl (g i j)):=by
 intro pins s σ H x y v u Q I rx ry h
 obtain ⟨i,j,rfl,rfl,q⟩:=h
 obtain ⟨t,rfl⟩:=rx
 obtain ⟨t',rfl⟩:=ry
 exact rule i j t t' s _ _ ⟨.bl (g i j),H,I,rfl,q⟩
def yt5 (i j:Int):Prop:=0 <= j/\j <= 1000000/\i.natAbs < 2 ^ 64
def ytv (i j:Int):Prop:=(-(2 ^ 64) < i/\i < 2 ^ 64)\/(-(2 ^ 64) < j/\j < 2 ^ 64)
theorem ytv.ok {i j:Int} (h:ytv i j):IntMulOk i j:=by
 rcases h with ⟨h1,h2⟩ | ⟨h1,h2⟩
 ·exact .of_left (intBits_le_64 h1 h2)
 ·exact .of_right (intBits_le_64 h1 h2)
theorem yfn (k:Nat):(0:Int) <= 2 ^ k:=by
 rw [two_pow_cast]
 exact Int.natCast_nonneg _
theorem vo:OpR X (binaryOp .Add) (rI0 fun i j=>.int (i+j)):=yt6 fun _ _ _ _ _ _ _ q=>add_int q
theorem uc:OpR X (binaryOp .Sub) (rI0 fun i j=>.int (i - j)):=yt6 fun _ _ _ _ _ _ _ q=>sub_int q
theorem xt:OpR X (binaryOp .Mult) (rI ytv fun i j=>.int (i * j)):=opI fun _ _ _ _ _ _ _ hc q=>mul_int q hc.ok
theorem x3:OpR X (binaryOp .Mod) (rI (fun _ j=>0 < j) fun i j=>.int (i % j)):=opI fun i j _ _ _ _ _ hc q=>by
 have h1:(0:Int) < j:=hc
 exact mod_int' (by omega) (by rw [Int.fmod_eq_emod_of_nonneg i (by omega)]; exact q)
theorem yqb:OpR X (binaryOp .Pow) (rI yt5 fun i j=>.int (i ^ j.toNat)):=opI fun _ _ _ _ _ _ _ hc q=>pow_int_small hc.1 hc.2.1 hc.2.2 q
theorem yks:OpR X (binaryOp .RShift) (rI (fun _ j=>0 <= j) fun i j=>.int (i / 2 ^ j.toNat)):=opI fun i j _ _ _ _ _ hc q =>
 rshift_int hc (by rw [Int.fdiv_eq_ediv_of_nonneg i (yfn _)]; exact q)
theorem yqv:OpR X (binaryOp .BitAnd) (rI0 fun i j=>.int (Builtin.bitAnd i j)):=yt6 fun _ _ _ _ _ _ _ q=>and_int q
theorem unI {f:Value->Sem Value} {g:Int->Int}
  (rule:∀ (i:Int) (t:Tok) (s:Shared) (Q:Value->Shared->Prop) (E:Value->Shared->Prop),Q (.int (g i) s.toks) { s with toks:=s.toks+1 }->wpAny (model X.prog X.w) X.A (f (.int i t)) Q E s) :
  UnR X f (rU fun i=>.int (g i)):=by
 intro pins s σ H x v Q I rx h
 obtain ⟨i,rfl,q⟩:=h
 obtain ⟨t,rfl⟩:=rx
 exact rule i t s _ _ ⟨.int (g i),H,I.tok _,⟨_,rfl⟩,q⟩
theorem ypo:UnR X (unaryOp .USub) (rU fun i=>.int (-i)):=unI fun _ _ _ _ _ q=>neg_int q
end
def yvc:V->V->Bool
 | .non,.non=>true | .non,.int _=>true | .int _,.non=>true | .non,.bl _=>true | .bl _,.non=>true | .non,.str _=>true | .str _,.non=>true
 | .int _,.int _=>true | .bl _,.bl _=>true | .str _,.str _=>true | .byt _,.byt _=>true
 | .int _,.str _=>true | .str _,.int _=>true | .bl _,.str _=>true | .str _,.bl _=>true
 | _,_=>false
def rEq:R2:=fun x y H Q=>yvc x y=true/\Q (.bl (decide (x=y))) H
theorem ym2 {i j:Int}:decide (V.int i=V.int j)=(i == j):=by
 rw [Bool.eq_iff_iff]
 simp
theorem yq3 {i j:Bool}:decide (V.bl i=V.bl j)=(i == j):=by
 rw [Bool.eq_iff_iff]
 simp
theorem ym0 {i j:Str}:decide (V.str i=V.str j)=(i == j):=by
 rw [Bool.eq_iff_iff]
 simp
theorem ym4 {i j:Array UInt8}:decide (V.byt i=V.byt j)=(i.toList == j.toList):=by
 rw [Bool.eq_iff_iff]
 cases i
 cases j
 simp
section
variable {X:Cx} {a b c:Expr} {ta tb tc:TE} {pos:Pos}
theorem xc {pins:List (Addr × Obj)} {σ:St} {H:Hp} {s:Shared} {Q:VK} {k k':Bool} (I:Inv X pins σ H s) (q:Q (.bl k) H) (e:k=k'):EP X pins σ Q (.bool k') s:=by
 subst e
 exact ⟨.bl k,H,I,rfl,q⟩
theorem ud:OpR X (compareOp .Eq) rEq:=by
 intro pins s σ H x y v u Q I rx ry h
 obtain ⟨hs,q⟩:=h
 cases x with
 | non =>
  cases rx
  cases y with
  | non=>cases ry; exact PySem.EqNone.eq_none_none (xc I q (by simp))
  | bl j=>cases ry; exact PySem.EqNone.eq_none_bool (xc I q (by simp))
  | int j=>obtain ⟨t',rfl⟩:=ry; exact PySem.EqNone.eq_none_int (xc I q (by simp))
  | str j=>obtain ⟨t',rfl⟩:=ry; exact PySem.EqNone.eq_none_str (xc I q (by simp))
  | _=>exact absurd (show false=true from hs) Bool.false_ne_true
 | bl i =>
  cases rx
  cases y with
  | non=>cases ry; exact PySem.EqNone.eq_bool_none (xc I q (by simp))
  | bl j=>cases ry; exact eq_bool (xc I q yq3)
  | str j=>obtain ⟨t',rfl⟩:=ry; exact PySem.EqMixed.eq_bool_str (xc I q (by simp))
  | _=>exact absurd (show false=true from hs) Bool.false_ne_true
 | int i =>
  obtain ⟨t,rfl⟩:=rx
  cases y with
  | non=>cases ry; exact PySem.EqNone.eq_int_none (xc I q (by simp))
  | int j=>obtain ⟨t',rfl⟩:=ry; exact eq_int (xc I q ym2)
  | str j=>obtain ⟨t',rfl⟩:=ry; exact PySem.EqMixed.eq_int_str (xc I q (by simp))
  | _=>exact absurd (show false=true from hs) Bool.false_ne_true
 | str i =>
  obtain ⟨t,rfl⟩:=rx
  cases y with
  | non=>cases ry; exact PySem.EqNone.eq_str_none (xc I q (by simp))
  | bl j=>cases ry; exact PySem.EqMixed.eq_str_bool (xc I q (by simp))
  | int j=>obtain ⟨t',rfl⟩:=ry; exact PySem.EqMixed.eq_str_int (xc I q (by simp))
  | str j=>obtain ⟨t',rfl⟩:=ry; exact eq_str (xc I q ym0)
  | _=>exact absurd (show false=true from hs) Bool.false_ne_true
 | byt i =>
  obtain ⟨t,rfl⟩:=rx
  cases y with
  | byt j=>obtain ⟨t',rfl⟩:=ry; exact W.eq_bytes (xc I q ym4)
  | _=>exact absurd (show false=true from hs) Bool.false_ne_true
 | _=>cases y <;> exact absurd (show false=true from hs) Bool.false_ne_true
theorem yne:OpR X (compareOp .Lt) (rI0 fun i j=>.bl (decide (i < j))):=ysk fun _ _ _ _ _ _ _ q=>lt_int q
theorem yai:OpR X (compareOp .LtE) (rI0 fun i j=>.bl (decide (i <= j))):=ysk fun _ _ _ _ _ _ _ q=>le_int q
theorem ynn:OpR X (compareOp .Gt) (rI0 fun i j=>.bl (decide (j < i))):=ysk fun _ _ _ _ _ _ _ q=>gt_int q
theorem ys8:OpR X (compareOp .GtE) (rI0 fun i j=>.bl (decide (j <= i))):=ysk fun _ _ _ _ _ _ _ q=>ge_int q
theorem y8 (b:Expr) {op:CmpOp} (h:op≠.In:=by decide) (h2:op≠.NotIn:=by decide):behindInMarks op b=false:=by
 have e1:(op == CmpOp.In)=false:=by cases op <;> first | rfl | exact absurd rfl h
 have e2:(op == CmpOp.NotIn)=false:=by cases op <;> first | rfl | exact absurd rfl h2
 cases b <;> simp [behindInMarks,e1,e2]
theorem j7 {op:CmpOp} {r:R2} (ho:OpR X (compareOp op) r) (ha:PE X a ta) (hb:PE X b tb) (hm:behindInMarks op b=false):PE X (.Compare a [op] [b] pos) (tOp r ta tb):=by
 intro pins s σ H Q I h
 exact wpAny_Compare1 (yt8 ha hb I h fun v u s2 x y H2 I2 rx ry q=>ho pins s2 σ H2 x y v u Q I2 rx ry q) hm
def yoc (t:TE):TT:=fun σ H Q=>t σ H fun x H'=>∃ k,x=.bl k/\Q k H'
theorem yz {op:CmpOp} {r:R2} (ho:OpR X (compareOp op) r) (ha:PE X a ta) (hb:PE X b tb) (hm:behindInMarks op b=false):PT X (.Compare a [op] [b] pos) (yoc (tOp r ta tb)):=by
 intro pins s σ H Q I h
 refine wpAny_isTrue_Compare1 (thn (ha pins s σ H _ I h) fun v s1 ⟨x,H1,I1,r1,q1⟩=>thn (hb pins s1 σ H1 _ I1 q1) fun u s2 ⟨y,H2,I2,r2,q2⟩ =>
  thn (ho pins s2 σ H2 x y v u _ I2 r1 r2 q2) fun c s3 ⟨z,H3,I3,r3,k,e,q3⟩=>?_) hm
 subst e
 cases r3
 exact wpAny_truthy_bool ⟨H3,I3,q3⟩
def yh3 (r r':R2) (ta tb tc:TE):TE:=fun σ H Q=>ta σ H fun x H1=>tb σ H1 fun y H2=>r x y H2 fun z H3=>∃ k,z=.bl k /\
 (if k=true then tc σ H3 fun w' H4=>r' y w' H4 Q else Q (.bl false) H3)
theorem ybu {op op':CmpOp} {r r':R2} (ho:OpR X (compareOp op) r) (ho':OpR X (compareOp op') r') (ha:PE X a ta) (hb:PE X b tb) (hc:PE X c tc)
  (hm:lastMarks [op,op'] [b,c]=false:=by with_unfolding_all rfl):PE X (.Compare a [op,op'] [b,c] pos) (yh3 r r' ta tb tc):=by
 intro pins s σ H Q I h
 refine Compare_chain (thn (ha pins s σ H _ I h) fun v s1 ⟨x,H1,I1,r1,q1⟩=>chain_link (thn (hb pins s1 σ H1 _ I1 q1) fun u s2 ⟨y,H2,I2,r2,q2⟩ =>
  thn (ho pins s2 σ H2 x y v u _ I2 r1 r2 q2) fun d s3 ⟨z,H3,I3,r3,k,e,q3⟩=>?_)) hm
 subst e
 cases r3
 refine wpAny_truthy_bool ?_
 cases k with
 | false=>exact ite_ff ⟨.bl false,H3,I3,rfl,q3⟩
 | true=>exact ite_tt (chain_last (thn (hc pins s3 σ H3 _ I3 q3) fun w' s4 ⟨z',H4,I4,r4,q4⟩=>ho' pins s4 σ H4 y z' u w' Q I4 r2 r4 q4))
theorem yet {op op':CmpOp} {r r':R2} (ho:OpR X (compareOp op) r) (ho':OpR X (compareOp op') r') (ha:PE X a ta) (hb:PE X b tb) (hc:PE X c tc)
  (hm:lastMarks [op,op'] [b,c]=false:=by with_unfolding_all rfl):PT X (.Compare a [op,op'] [b,c] pos) (yoc (yh3 r r' ta tb tc)):=by
 intro pins s σ H Q I h
 refine isTrue_chain (thn (ha pins s σ H _ I h) fun v s1 ⟨x,H1,I1,r1,q1⟩=>test_link (thn (hb pins s1 σ H1 _ I1 q1) fun u s2 ⟨y,H2,I2,r2,q2⟩ =>
  thn (ho pins s2 σ H2 x y v u _ I2 r1 r2 q2) fun d s3 ⟨z,H3,I3,r3,k,e,q3⟩=>?_)) hm
 subst e
 cases r3
 refine wpAny_truthy_bool ?_
 cases k with
 | false =>
  obtain ⟨k',e',q'⟩:=q3
  cases e'
  exact ite_ff ⟨H3,I3,q'⟩
 | true =>
  refine ite_tt (test_last (thn (hc pins s3 σ H3 _ I3 q3) fun w' s4 ⟨z',H4,I4,r4,q4⟩=>thn (ho' pins s4 σ H4 y z' u w' _ I4 r2 r4 q4) fun d' s5 ⟨z2,H5,I5,r5,k2,e2,q5⟩=>?_))
  subst e2
  cases r5
  exact wpAny_truthy_bool ⟨H5,I5,q5⟩
theorem yh9:(sizeLine:Nat) < 2 ^ 63:=by rw [sizeLine_eq]; decide
theorem yid {x:V} {us:List Value} (r:vp [x] us):∃ u,us=[u]/\wn x u:=by
 cases r with
 | cons r1 r2=>cases r2; exact ⟨_,rfl,r1⟩
theorem ynr {x y:V} {us:List Value} (r:vp [x,y] us):∃ u w',us=[u,w']/\wn x u/\wn y w':=by
 cases r with
 | cons r1 r2 =>
  cases r2 with
  | cons r3 r4=>cases r4; exact ⟨_,_,rfl,r1,r3⟩
theorem j5 (hc:X.calm=true):yak X (.builtin "max") (fun xs H Q=>∃ i j,xs=[.int i,.int j]/\Q (.int (if j > i then j else i)) H):=by
 intro pins s σ H xs us Q I r h
 obtain ⟨i,j,rfl,q⟩:=h
 obtain ⟨u,w',rfl,⟨t,rfl⟩,⟨t',rfl⟩⟩:=ynr r
 refine max_two_ints (I.ok.hd hc) fun h' tk k=>⟨_,H,I.kept k,?_,q⟩
 by_cases hj:j > i
 ·rw [if_pos hj,if_pos hj]; exact ⟨_,rfl⟩
 ·rw [if_neg hj,if_neg hj]; exact ⟨_,rfl⟩
theorem j4 (hc:X.calm=true):yak X (.builtin "min") (fun xs H Q=>∃ i j,xs=[.int i,.int j]/\Q (.int (if j < i then j else i)) H):=by
 intro pins s σ H xs us Q I r h
 obtain ⟨i,j,rfl,q⟩:=h
 obtain ⟨u,w',rfl,⟨t,rfl⟩,⟨t',rfl⟩⟩:=ynr r
 refine min_two_ints (I.ok.hd hc) fun h' tk k=>⟨_,H,I.kept k,?_,q⟩
 by_cases hj:j < i
 ·rw [if_pos hj,if_pos hj]; exact ⟨_,rfl⟩
 ·rw [if_neg hj,if_neg hj]; exact ⟨_,rfl⟩
end
end L2
namespace L2
open PySem PySem.Spec PyProof.Rows
structure yor (h:Heap) (x dx C:Addr) (mA:Str->Option Value):Prop where
 obj:h.get? x=some (W.instObj C dx)
 ns:h.Ns1 dx mA
 ne:dx≠x
theorem yhf {h:Heap} {dx:Addr} {mA:Str->Option Value} (n:h.Ns1 dx mA):∃ od,h.get? dx=some od/\∀ name,W.lookIn name od=some (mA name):=by
 obtain ⟨o,es,ep,ho,hd,hk,_,hm⟩:=n
 refine ⟨o,ho,fun name=>?_⟩
 have e:=hm name
 unfold nsFind findBy at e
 rw [<- Array.find?_toList] at e
 unfold W.lookIn
 rw [hd]
 dsimp only
 split
 ·rename_i y q
  rw [q] at e
  exact congrArg some e
 ·rename_i q
  rw [q] at e
  have a:es.toList.any (·.refKey)=false:=by
   rw [List.any_eq_false]
   intro y hy
   obtain ⟨z,t,hkey⟩:=hk y (Array.mem_toList_iff.mp hy)
   simp [DictEntry.refKey,hkey]
  have a':¬ es.toList.any (·.refKey)=true:=by rw [a]; exact Bool.false_ne_true
  rw [if_neg a']
  exact congrArg some e
theorem yor.look {h:Heap} {x dx C:Addr} {mA:Str->Option Value} (I:yor h x dx C mA):∃ od,W.InstAt h x (W.instObj C dx) C (some od)/\∀ name,W.lookIn name od=some (mA name) :=
 let ⟨od,ho,hl⟩:=yhf I.ns
 ⟨od,⟨I.obj,rfl,rfl,ho⟩,hl⟩
section
variable {prog:Program} {w:World} {A:Around} {E:Value->Shared->Prop} {s:Shared} {K:W.Frag} {x dx C f:Addr} {mA:Str->Option Value} {name:Str} {v:Value}
theorem ymu {expr:Bool} {Q:Value->Shared->Prop} (X:K.In s.heap) (I:yor s.heap x dx C mA) (hg:W.plainGet K C name=true) (hh:W.hasDictIn K C=true)
  (ha:W.findIn K (.ref C) name=some none) (hv:mA name=some v) (hv':W.handedIn v=true) (h:Q v { s with toks:=s.toks+1 }) :
  wpAny (model prog w) A (getAttr (.ref x) name expr) Q E s:=by
 obtain ⟨od,J,hl⟩:=I.look
 exact W.get_value X J (W.plainGet_of hg).1 (W.findObj_own hh ha rfl (by rw [hl,hv])) hv' h
theorem yin {pl:Sem Bool} {Q:Value × List Value->Shared->Prop} (X:K.In s.heap) (I:yor s.heap x dx C mA) (hg:W.plainGet K C name=true)
  (hf:W.findIn K (.ref C) name=some (some (.ref f))) (ht:W.isFn K (.ref f)=true) (hv:mA name=none) (h:Q (.ref f,[.ref x]) s) :
  wpAny (model prog w) A (getMethod (.ref x) name pl) Q E s:=by
 obtain ⟨od,J,hl⟩:=I.look
 exact W.method_fn X J (W.plainGet_of hg).1 (W.plainGet_of hg).2 hf (beq_iff_eq.mp ht) (by show (W.lookIn name od).map (·.isSome)=some false; rw [hl,hv]; rfl) h
theorem ymi {ns:List Str} {Q:Unit->Shared->Prop} (X:K.In s.heap) (I:yor s.heap x dx C mA)
  (hs:W.findIn K (.ref C) "__setattr__"=some (some (.builtin "object.__setattr__"))) (hp:W.plainOver K C=true) (ht:W.takerIn K C name=some none) (hh:W.hasDictIn K C=true)
  (hw:PySem.Within mA ns) (hsz:ns.length <= sizeLine)
  (h:∀ h',yor h' x dx C (fun y=>if y=name then some v else mA y)->Heap.SameBut dx s.heap h'->Q () { s with heap:=h',toks:=s.toks+2 }) :
  wpAny (model prog w) A (setAttr (.ref x) name v) Q E s:=by
 obtain ⟨od,J,hl⟩:=I.look
 refine W.set_plain X J hs (W.osa_open (s:={ s with toks:=s.toks+1 }) (r:=none) X J hp ht fun b=>?_)
 obtain ⟨cd,hc,hd'⟩:=W.any_some hh
 have hx:s.heap.get? x=some ⟨.ref C,some dx,.plain,#[]⟩:=I.obj
 refine wpAny_bind (wpAny_pure (wpAny_bind (wpAny_bind (wpAny_loadPart hx (wpAny_bind (W.Looks.here (s:={ s with toks:=s.toks+1 }) (W.looks_clsIn X hc) ?_))))))
 rw [hd']
 refine wpAny_pure (a:=some dx) (wpAny_bind (wpAny_pure (wpAny_bind ?_)))
 refine wpAny_nsSet1 (s:={ s with toks:=s.toks+1 }) I.ns fun h' hn2 hs2=>?_
 obtain ⟨oD,esD,epD,hoD,hdD,hcD⟩:=hn2.count (PySem.Within.cons name v hw)
 refine wpAny_bind (wpAny_lookBehind hoD (by rw [hdD]; exact pastItsLine_dict (Nat.le_trans hcD (by rw [List.length_cons]; omega))) ?_)
 exact wpAny_pure (h _ ⟨(hs2.2 _ (Ne.symm I.ne)).trans I.obj,hn2,I.ne⟩ hs2)
theorem yen {R:Result->Shared->Prop} {vs:List Value} {kw:List (Str × Value)} (X:K.In s.heap) (hm:W.makesIn K C=true)
  (hi:W.findIn K (.ref C) "__init__"=some (some (.ref f))) (hf:W.typeIn K (.ref f)=some (.type "function"))
  (h:codeAny (model prog w) (A.under (.builtin "type.__call__" ⟨.ref C :: vs,kw⟩)) (.call (.ref f) ⟨.ref (s.heap.objs.size+1) :: vs,kw⟩) (W.InitBack (s.heap.objs.size+1) R)
   { s with heap:=(s.heap.push W.emptyDict).push (W.instObj C s.heap.objs.size) }) :
  codeAny (model prog w) A (.call (.ref C) ⟨vs,kw⟩) R s:=by
 obtain ⟨hh,g,d,t,os⟩:=s
 exact W.make_core (W.makes_of X hm) (W.looks_findIn X hi) (fun self=>W.bind_fn X self hf) (.inl rfl) h
end
def vz (f:Str) (v:V):List (Str × V)->List (Str × V)
 | []=>[(f,v)]
 | (g,x) :: r=>if g=f then (g,v) :: r else (g,x) :: vz f v r
theorem jy (f g:Str) (v:V):∀ fs:List (Str × V),(vz f v fs).lookup g=if g=f then some v else fs.lookup g
 | []=>by
  show List.lookup g [(f,v)]=_
  by_cases h:g=f
  ·have hb:(g == f)=true:=beq_iff_eq.mpr h
   simp only [List.lookup,hb,if_pos h]
  ·have hb:(g == f)=false:=beq_eq_false_iff_ne.mpr h
   simp only [List.lookup,hb,if_neg h]
 | (k,x) :: r=>by
  have ih:=jy f g v r
  rw [show vz f v ((k,x) :: r)=(if k=f then (k,v) :: r else (k,x) :: vz f v r) from rfl]
  by_cases hk:k=f
  ·rw [if_pos hk]
   by_cases h:g=k
   ·have hb:(g == k)=true:=beq_iff_eq.mpr h
    simp only [List.lookup,hb,if_pos (h.trans hk)]
   ·have hb:(g == k)=false:=beq_eq_false_iff_ne.mpr h
    simp only [List.lookup,hb,if_neg (fun e:g=f=>h (e.trans hk.symm))]
  ·rw [if_neg hk]
   by_cases h:g=k
   ·have hb:(g == k)=true:=beq_iff_eq.mpr h
    simp only [List.lookup,hb,if_neg (fun e:g=f=>hk (h.symm.trans e))]
   ·have hb:(g == k)=false:=beq_eq_false_iff_ne.mpr h
    simp only [List.lookup,hb]
    exact ih
theorem j3 (f:Str) (v:V):∀ fs:List (Str × V),f∈(vz f v fs).map (·.1)/\∀ g,g∈fs.map (·.1)->g∈(vz f v fs).map (·.1)
 | []=>⟨by simp [vz],fun g h=>by simp at h⟩
 | (k,x) :: r=>by
  obtain ⟨i1,i2⟩:=j3 f v r
  rw [show vz f v ((k,x) :: r)=(if k=f then (k,v) :: r else (k,x) :: vz f v r) from rfl]
  by_cases hk:k=f
  ·rw [if_pos hk]
   subst hk
   exact ⟨by simp,fun g h=>by simpa using h⟩
  ·rw [if_neg hk]
   refine ⟨?_,fun g h=>?_⟩
   ·rw [List.map_cons]
    exact List.mem_cons_of_mem _ i1
   ·rw [List.map_cons] at h ⊢
    rcases List.mem_cons.mp h with e | e
    ·exact List.mem_cons.mpr (.inl e)
    ·exact List.mem_cons_of_mem _ (i2 g e)
theorem jt (f:Str) (v:V):∀ fs:List (Str × V),(vz f v fs).length <= fs.length+1
 | []=>by simp [vz]
 | (k,x) :: r=>by
  have ih:=jt f v r
  rw [show vz f v ((k,x) :: r)=(if k=f then (k,v) :: r else (k,x) :: vz f v r) from rfl]
  by_cases hk:k=f
  ·rw [if_pos hk,List.length_cons,List.length_cons]; omega
  ·rw [if_neg hk,List.length_cons,List.length_cons]; omega
theorem yc4.some_of {v:V} {o:Option Value} (r:yc4 (some v) o):∃ u,o=some u/\wn v u:=by
 cases o with
 | none=>exact (show False from r).elim
 | some u=>exact ⟨u,rfl,r⟩
theorem yc4.none_of {o:Option Value} (r:yc4 none o):o=none:=by
 cases o with
 | none=>rfl
 | some u=>exact (show False from r).elim
theorem yg4 {v:V} {u:Value} (r:wn v u):W.handedIn u=true:=by
 cases v with
 | non=>cases (show u=Value.none from r); rfl
 | bl b=>cases (show u=Value.bool b from r); rfl
 | int i=>obtain ⟨t,e⟩:=(show ∃ t,u=Value.int i t from r); cases e; rfl
 | str x=>obtain ⟨t,e⟩:=(show ∃ t,u=Value.str x t from r); cases e; rfl
 | byt b=>obtain ⟨t,e⟩:=(show ∃ t,u=Value.bytes b t from r); cases e; rfl
 | flt b=>obtain ⟨t,e⟩:=(show ∃ t,u=Value.float b t from r); cases e; rfl
 | ref a=>cases (show u=Value.ref a from r); rfl
 | ty n=>cases (show u=Value.type n from r); rfl
section
variable {P:Program} {w:World} {H H':Hp} {h h':Heap} {a C dx:Addr} {fs fs':List (Str × V)}
theorem ybx (hok:HOk P w H h) (e:H a=some (.ins C dx fs)):∃ mA,yor h a dx C mA/\(∀ f,yc4 (fs.lookup f) (mA f))/\PySem.Within mA (fs.map (·.1))/\fs.length <= 1000/\H dx=some (.own a):=by
 obtain ⟨d,z,ne,ob,mA,n,r,q⟩:=(show wj P w H h a (.ins C dx fs) from hok a _ e)
 exact ⟨mA,⟨ob,n,ne⟩,r,q,z,d⟩
end
structure Cls (K:W.Frag) (C:Addr):Prop where
 pg:W.plainGet K C Str.empty=true
 hd:W.hasDictIn K C=true
 po:W.plainOver K C=true
 sa:W.findIn K (.ref C) "__setattr__"=some (some (.builtin "object.__setattr__"))
theorem Cls.get {K:W.Frag} {C:Addr} (c:Cls K C) (f:Str):W.plainGet K C f=true:=c.pg
def yq (K:W.Frag) (C:Addr) (f:Str):Prop:=W.findIn K (.ref C) f=some none
theorem yq.taker {K:W.Frag} {C:Addr} {f:Str} (n:yq K C f):W.takerIn K C f=some none:=by
 unfold W.takerIn
 rw [show W.findIn K (.ref C) f=some none from n]
 rfl
structure Con (K:W.Frag) (C:Addr) (f:Str) (v:V) (u:Value):Prop where
 at_:W.findIn K (.ref C) f=some (some u)
 rel:wn v u
 get:W.specialIn K u "__get__"=some none
 cp:W.copiedNames.contains f=false
structure yov (K:W.Frag) (C:Addr) (m:Str) (f:Addr):Prop where
 at_:W.findIn K (.ref C) m=some (some (.ref f))
 fn:W.isFn K (.ref f)=true
 kp:W.keepIn K (.ref f)=true
section
variable {X:Cx} {pins:List (Addr × Obj)} {σ:St} {H:Hp} {s:Shared} {a C dx:Addr} {fs:List (Str × V)} {f:Str} {v:V} {A:Around} {E:Value->Shared->Prop}
theorem yfb {b:Bool} {Q:Value->Shared->Prop} (I:Inv X pins σ H s) (e:H a=some (.ins C dx fs)) (c:Cls X.K C) (n:yq X.K C f) (l:fs.lookup f=some v)
  (h:∀ u s',Inv X pins σ H s'->wn v u->Q u s'):wpAny (model X.prog X.w) A (getAttr (.ref a) f b) Q E s:=by
 obtain ⟨mA,O,r,_,_,_⟩:=ybx I.hok e
 obtain ⟨u,hu,ru⟩:=yc4.some_of (v:=v) (o:=mA f) (by rw [<- l]; exact r f)
 exact ymu I.kIn O (c.get f) c.hd n hu (yg4 ru) (h u _ (I.tok _) ru)
theorem zl {m:Str} {g:Addr} {pl:Sem Bool} {Q:Value × List Value->Shared->Prop} (I:Inv X pins σ H s) (e:H a=some (.ins C dx fs)) (c:Cls X.K C) (k:yov X.K C m g) (l:fs.lookup m=none)
  (h:Q (.ref g,[.ref a]) s):wpAny (model X.prog X.w) A (getMethod (.ref a) m pl) Q E s:=by
 obtain ⟨mA,O,r,_,_,_⟩:=ybx I.hok e
 have hn:mA m=none:=yc4.none_of (by rw [<- l]; exact r m)
 exact yin I.kIn O (c.get m) k.at_ k.fn hn h
theorem yf1 {y:V} {u:Value} {Q:Unit->Shared->Prop} (I:Inv X pins σ H s) (e:H a=some (.ins C dx fs)) (c:Cls X.K C) (n:yq X.K C f) (hl:fs.length < 1000) (ry:wn y u)
  (h:∀ s',Inv X pins σ (upd H a (.ins C dx (vz f y fs))) s'->Q () s'):wpAny (model X.prog X.w) A (setAttr (.ref a) f u) Q E s:=by
 obtain ⟨mA,O,r,wi,_,ho⟩:=ybx I.hok e
 have hz:(fs.map (·.1)).length <= sizeLine:=by rw [List.length_map,sizeLine_eq]; omega
 refine ymi I.kIn O c.sa c.po n.taker c.hd wi hz fun h' O' sb=>h _ ?_
 have hd:∃ o,h'.get? dx=some o:=let ⟨o,_,_,e',_⟩:=O'.ns; ⟨o,e'⟩
 refine I.write (x:=a) (e:=dx) (by rw [e]; exact True.intro) (.inr ho) (fun b q hb z=>(sb.2 b hb).trans z) hd ?_
 refine ⟨by rw [yi O.ne]; exact ho,?_,O.ne,O'.obj,_,O'.ns,fun g=>?_,fun g hg=>?_⟩
 ·have:=jt f y fs; omega
 ·show yc4 ((vz f y fs).lookup g) (if g=f then some u else mA g)
  rw [jy]
  by_cases q:g=f
  ·rw [if_pos q,if_pos q]; exact ry
  ·rw [if_neg q,if_neg q]; exact r g
 ·by_cases q:g=f
  ·rw [q]; exact (j3 f y fs).1
  ·refine (j3 f y fs).2 g (wi g fun z=>hg ?_)
   show (if g=f then some u else mA g)=none
   rw [if_neg q]; exact z
theorem Inv.made (I:Inv X pins σ H s):Inv X pins σ (upd (upd H s.heap.objs.size (.own (s.heap.objs.size+1))) (s.heap.objs.size+1) (.ins C s.heap.objs.size []))
  { s with heap:=(s.heap.push W.emptyDict).push (W.instObj C s.heap.objs.size) }:=by
 have e1:(s.heap.push W.emptyDict).get? s.heap.objs.size=some W.emptyDict:=Heap.get?_push_size s.heap rfl
 have e2:((s.heap.push W.emptyDict).push (W.instObj C s.heap.objs.size)).get? (s.heap.objs.size+1)=some (W.instObj C s.heap.objs.size):=by
  have:=Heap.get?_push_size (s.heap.push W.emptyDict) (o:=W.instObj C s.heap.objs.size) rfl
  rwa [Heap.size_push] at this
 have e3:(s.heap.push W.emptyDict).Ns s.heap.objs.size (fun _=>none):=⟨W.emptyDict,#[],_,e1,rfl,(fun e he=>absurd he (by simp)),fun _=>rfl⟩
 have I1:=I.laid (a:=s.heap.objs.size) (o:=.own (s.heap.objs.size+1)) (h':=s.heap.push W.emptyDict) (t':=s.toks) (fun b u q=>Heap.get?_push_of_some _ q) (Nat.le_refl _) ⟨_,e1⟩
 refine I1.laid (a:=s.heap.objs.size+1) (o:=.ins C s.heap.objs.size []) (t':=s.toks) (fun b u q=>Heap.get?_push_of_some _ q) (Nat.le_of_eq (Heap.size_push _ _)) ?_
 have ne:s.heap.objs.size≠s.heap.objs.size+1:=Nat.ne_of_lt (Nat.lt_succ_self _)
 refine ⟨by rw [yi ne,ya],Nat.zero_le _,ne,e2,fun _=>none,(Heap.Ns1.of_empty e3).at fun o q=>Heap.get?_push_of_some _ q,fun _=>True.intro,fun y hy=>absurd rfl hy⟩
theorem yll {prog:Program} {w:World} {env:Env} {e:Expr} {f:Str} {pos:Pos} {s:Shared} {Q:Value->Shared->Prop} (hb:attributeBase e f env (eval e env)=eval e env)
  (h:wpAny (model prog w) A (eval e env) (fun o s₁=>wpAny (model prog w) A (getAttr o f true) Q E s₁) E s):wpAny (model prog w) A (eval (.Attribute e f pos) env) Q E s :=
 Attribute_any_ h (by rw [arm_eval_Attribute,hb])
end
def ytq (K:W.Frag) (ta:TE) (f:Str):TE:=fun σ H Q=>ta σ H fun x H1=>∃ a C dx fs v,x=.ref a/\H1 a=some (.ins C dx fs)/\Cls K C/\yq K C f/\fs.lookup f=some v/\Q v H1
def yun (K:W.Frag) (ta tv:TE) (f:Str):TS:=fun D σ H=>tv σ H fun y H1=>ta σ H1 fun x H2=>∃ a C dx fs,x=.ref a/\H2 a=some (.ins C dx fs)/\Cls K C/\yq K C f/\fs.length < 1000 /\
 D.nx σ (upd H2 a (.ins C dx (vz f y fs)))
section
variable {X:Cx} {o e value:Expr} {f:Str} {pos pos' tpos:Pos} {ta tv:TE}
theorem yt (he:PE X e ta) (hb:attributeBase e f X.env (eval e X.env)=eval e X.env):PE X (.Attribute e f pos) (ytq X.K ta f):=by
 intro pins s σ H Q I h
 refine yll hb (thn (he pins s σ H _ I h) fun u s1 ⟨x,H1,I1,rx,a,C,dx,fs,v,ex,ea,c,n,l,q⟩=>?_)
 subst ex
 obtain rfl:u=Value.ref a:=rx
 exact yfb I1 ea c n l fun u' s2 I2 ru=>⟨v,H1,I2,ru,q⟩
theorem y4 (ha:PE X o ta) (hv:PE X value tv) (hs:swapsWith value (some (.Attribute o f pos')) pos.line X.env=pure false):PS X (.Assign [.Attribute o f pos'] value pos) (yun X.K ta tv f):=by
 intro pins s σ H D I h
 refine plainObj_wpAny_Assign_Attribute (thn (hv pins s σ H _ I h) fun u s1 ⟨y,H1,I1,ry,q⟩=>thn (ha pins s1 σ H1 _ I1 q) fun ov s2 ⟨x,H2,I2,rx,a,C,dx,fs,ex,ea,c,n,l,q2⟩=>?_) hs
 subst ex
 obtain rfl:ov=Value.ref a:=rx
 exact yf1 I2 ea c n l ry fun s3 I3=>⟨σ,_,I3,q2⟩
end
section
variable {X:Cx} {pins:List (Addr × Obj)} {σ:St} {H:Hp} {s:Shared} {A:Around} {E:Value->Shared->Prop} {Q:Value->Shared->Prop} {c:Value} {b:Bool}
inductive xn (K:W.Frag) (H:Hp):V->Value->Prop where
 | non:xn K H .non (.type "NoneType")
 | bl (x:Bool):xn K H (.bl x) (.type "bool")
 | int (i:Int):xn K H (.int i) (.type "int")
 | str (x:Str):xn K H (.str x) (.type "str")
 | flt (x:UInt64):xn K H (.flt x) (.type "float")
 | lst {a:Addr} {xs:List V} (e:H a=some (.lst xs)):xn K H (.ref a) (.type "list")
 | frz {a:Addr} {o:Obj} {xs:List V} (e:H a=some (.frz o (.lst xs))):xn K H (.ref a) (.type "list")
 | tup {a:Addr} {xs:List V} (e:H a=some (.tup xs)):xn K H (.ref a) (.type "tuple")
 | dK {a:Addr} {kvs:List (Key × V)} (e:H a=some (.dK kvs)):xn K H (.ref a) (.type "dict")
 | dT {a:Addr} {kvs:List (List Key × V)} (e:H a=some (.dT kvs)):xn K H (.ref a) (.type "dict")
 | ins {a C dx:Addr} {fs:List (Str × V)} (e:H a=some (.ins C dx fs)) (cl:Cls K C) (ha:W.findIn K (.ref C) "__class__"=some (some (.builtin "object.__class__")))
   (hn:W.specialIn K (.builtin "object.__class__") "__get__"=some (some (.builtin "getset_descriptor.__get__"))) (htk:W.takesIn K (.builtin "object.__class__")=some true)
   (hm:W.mroIn K C (.type "object")=some true):xn K H (.ref a) (.ref C)
theorem ygm {x:V} {u t:Value} (I:Inv X pins σ H s) (rx:wn x u) (ty:xn X.K H x t) (e:W.kitOne X.K t c=some b) (h:∀ tk,Q (.bool b) { s with toks:=tk }) :
  wpAny (model X.prog X.w) A (call (.builtin "isinstance") [u,c]) Q E s:=by
 cases ty with
 | non=>cases (show u=Value.none from rx); exact W.kia_one W.kitx_none I.kIn True.intro e (fun z=>nomatch z) h
 | bl y=>cases (show u=Value.bool y from rx); exact W.kia_one W.kitx_bool I.kIn True.intro e (fun z=>nomatch z) h
 | int i=>obtain ⟨t,q⟩:=(show ∃ t,u=Value.int i t from rx); cases q; exact W.kia_one W.kitx_int I.kIn True.intro e (fun z=>nomatch z) h
 | str y=>obtain ⟨t,q⟩:=(show ∃ t,u=Value.str y t from rx); cases q; exact W.kia_one W.kitx_str I.kIn True.intro e (fun z=>nomatch z) h
 | flt y=>obtain ⟨t,q⟩:=(show ∃ t,u=Value.float y t from rx); cases q; exact W.kia_one W.kitx_float I.kIn True.intro e (fun z=>nomatch z) h
 | @lst a xs ea =>
  cases (show u=Value.ref a from rx)
  obtain ⟨_,_,n,_,h1⟩:=(show wj X.prog X.w H s.heap a (.lst xs) from I.hok a _ ea)
  exact W.kia_one W.kitx_list I.kIn ⟨_,h1,rfl⟩ e (fun z=>nomatch z) h
 | @frz a ob xs ea =>
  cases (show u=Value.ref a from rx)
  obtain ⟨_,_,_,n,_,h1⟩:=(show wj X.prog X.w H s.heap a (.frz ob (.lst xs)) from I.hok a _ ea)
  exact W.kia_one W.kitx_list I.kIn ⟨_,h1,rfl⟩ e (fun z=>nomatch z) h
 | @tup a xs ea =>
  cases (show u=Value.ref a from rx)
  obtain ⟨_,_,_,p⟩:=(show wj X.prog X.w H s.heap a (.tup xs) from I.hok a _ ea)
  obtain ⟨o,h1,h2,_⟩:=p
  exact W.kia_one W.kitx_tuple I.kIn ⟨o,h1,h2⟩ e (fun z=>nomatch z) h
 | @dK a kvs ea =>
  cases (show u=Value.ref a from rx)
  obtain ⟨_,_,vs,_,p⟩:=(show wj X.prog X.w H s.heap a (.dK kvs) from I.hok a _ ea)
  obtain ⟨o,es,ep,h1,h2,_⟩:=p
  exact W.kia_one W.kitx_dict I.kIn ⟨o,h1,h2.1⟩ e (fun z=>nomatch z) h
 | @dT a kvs ea =>
  cases (show u=Value.ref a from rx)
  obtain ⟨_,_,xs,_,o,es,ep,h1,h2,_⟩:=(show wj X.prog X.w H s.heap a (.dT kvs) from I.hok a _ ea)
  exact W.kia_one W.kitx_dict I.kIn ⟨o,h1,h2.1⟩ e (fun z=>nomatch z) h
 | @ins a C dx fs ea cl ha hn htk hm =>
  cases (show u=Value.ref a from rx)
  obtain ⟨mA,O,_⟩:=ybx I.hok ea
  obtain ⟨od,J,_⟩:=O.look
  exact W.kia_one (W.kitx_own (cl.get _) cl.hd ha hn htk hm) I.kIn J e (fun z=>nomatch z) h
end
end L2
namespace L2
open PySem PySem.Spec PyProof.Rows
structure ut (k:Nat) (A:Around):Prop where
 hd:A.handled=none
 dp:A.depth+3 * k+5 < recursionLimit
 un:A.units+16 * k+200 < cLine
theorem ut.mono {j k:Nat} {A:Around} (r:ut k A) (h:j <= k):ut j A:=⟨r.hd,by have:=r.dp; omega,by have:=r.un; omega⟩
theorem ut.deeper {k:Nat} {A:Around} (r:ut (k+1) A) (env:Env):ut k (A.deeper env) :=
 ⟨r.hd,by have:=r.dp; show A.depth+1+3 * k+5 < _; omega,by have:=r.un; show A.units+3+16 * k+200 < _; omega⟩
theorem yfu {A:Around} {C:Addr} {us:List Value} {kw:List (Str × Value)}:(A.under (.builtin "type.__call__" ⟨.ref C :: us,kw⟩)).depth=A.depth+1:=by
 first | rfl | simp [Around.under,Code.weight,Code.isCreation,Code.isGuard,Code.isCaller,Code.frames,Code.isFrame,guardIds]
theorem yfk {A:Around} {C:Addr} {us:List Value} {kw:List (Str × Value)}:(A.under (.builtin "type.__call__" ⟨.ref C :: us,kw⟩)).units=A.units+1:=by
 first | rfl | simp [Around.under,Code.cUnits,Code.frames,Code.isFrame]
theorem ut.make {k:Nat} {A:Around} (r:ut (k+1) A) (C:Addr) (us:List Value) (kw:List (Str × Value)):ut k (A.under (.builtin "type.__call__" ⟨.ref C :: us,kw⟩)) :=
 ⟨r.hd,by have:=r.dp; rw [yfu]; omega,by have:=r.un; rw [yfk]; omega⟩
theorem ut.depth {k:Nat} {A:Around} (r:ut k A):A.depth < recursionLimit:=by have:=r.dp; omega
theorem ut.units {k:Nat} {A:Around} (r:ut k A):A.units+64 < cLine:=by have:=r.un; omega
def yil:TA:=fun _ H Q=>Q [] H
def yr3 (ta:TE) (tr:TA):TA:=fun σ H Q=>ta σ H fun x H1=>tr σ H1 fun xs H2=>Q (x :: xs) H2
section
variable {X:Cx} {e:Expr} {es:List Expr} {te:TE} {t:TA} {pos:Pos}
theorem ye:PA X [] yil:=fun _ _ _ _ H Q I h=>Calls.spliced_nil ⟨[],H,I,.nil,h⟩
theorem yc (ha:PE X e te) (hr:PA X es t) (hs:starEach (e :: es) X.env=(false,eval e X.env) :: starEach es X.env:=by rfl):PA X (e :: es) (yr3 te t):=by
 intro pos pins s σ H Q I h
 rw [hs]
 show wpAny _ _ (spliced ((false,eval e X.env) :: backTo pos (starEach es X.env))) _ _ s
 refine Calls.spliced_cons (thn (ha pins s σ H _ I h) fun u s1 ⟨x,H1,I1,r1,q1⟩=>?_)
 exact thn (hr pos pins s1 σ H1 _ I1 q1) fun us s2 ⟨xs,H2,I2,r2,q2⟩=>⟨x :: xs,H2,I2,.cons r1 r2,q2⟩
def yuo (t:TA):TE:=fun σ H Q=>t σ H fun xs H1=>xs.length <= sizeLine/\∀ p,H1 p=none->Q (.ref p) (upd H1 p (.tup xs))
def yui (t:TA):TE:=fun σ H Q=>t σ H fun xs H1=>xs.length <= sizeLine/\∀ p,H1 p=none->Q (.ref p) (upd H1 p (.lst xs))
theorem yo7 {x1} (h:PA X es t):PE X (.Tuple es x1 pos) (yuo t):=by
 intro pins s σ H Q I hq
 refine wpAny_Tuple_spliced (thn (h pos pins s σ H _ I hq) fun us s1 ⟨xs,H1,I1,r,z,q⟩=>⟨by rw [<- r.length]; exact z,?_⟩)
 have hf:H1 s1.heap.objs.size=none:=I1.hok.fresh (Nat.le_refl _)
 refine ⟨.ref s1.heap.objs.size,upd H1 s1.heap.objs.size (.tup xs),I1.laid (t':=s1.toks) (fun b u e=>Heap.get?_push_of_some _ e) (Nat.le_refl _) ?_,rfl,q _ hf⟩
 exact ⟨z,us,r,⟨_,Heap.get?_push_size _ rfl,rfl,_,rfl⟩⟩
theorem zx (h:PA X es t):PE X (.List es pos) (yui t):=by
 intro pins s σ H Q I hq
 refine wpAny_List_spliced (thn (h pos pins s σ H _ I hq) fun us s1 ⟨xs,H1,I1,r,z,q⟩=>⟨by rw [<- r.length]; exact z,?_⟩)
 have hf:H1 s1.heap.objs.size=none:=I1.hok.fresh (Nat.le_refl _)
 refine ⟨.ref s1.heap.objs.size,upd H1 s1.heap.objs.size (.lst xs),I1.laid (t':=s1.toks) (fun b u e=>Heap.get?_push_of_some _ e) (Nat.le_refl _) ?_,rfl,q _ hf⟩
 exact ⟨z,us,0,r,Heap.get?_push_size _ rfl⟩
end
abbrev Sp:=List V->Hp->VK->XK->Prop
abbrev CXT:=List Env->Hp->Shared->XK->Value->Shared->Prop
structure yop (P:Program) (w:World) (K:W.Frag) (mg:Str->Option Value) (base:Heap) (A:Around) (outer:List Env) (s:Shared) (H:Hp):Prop where
 frames:A.frames=some outer
 mod:Mod K mg base
 bs:∀ b o,base.get? b=some o->s.heap.get? b=some o/\H b=none
 bsz:base.objs.size <= s.heap.objs.size
 funs:s.heap.FunFrames base outer
 frf:∀ b∈frs outer,H b=none
 hok:HOk P w H s.heap
 bare:AllBare s.gens
def CE (outer:List Env) (P:Program) (w:World) (H:Hp) (s:Shared) (Q:VK) (u:Value) (s':Shared):Prop :=
 ∃ v H',s'.os=s.os/\AllBare s'.gens/\Un (frs outer) [] H H' s.heap s'.heap/\HOk P w H' s'.heap/\wn v u/\Q v H'
def CR (CX:CXT) (outer:List Env) (P:Program) (w:World) (H:Hp) (s:Shared) (Q:VK) (E:XK) (r:Result) (s':Shared):Prop :=
 match r with
 | .ok (.ret u)=>CE outer P w H s Q u s'
 | .ok _=>False
 | .error e=>CX outer H s E e s'
structure we (P:Program) (w:World) (K:W.Frag) (mg:Str->Option Value) (base:Heap) (CX:CXT) (k:Nat) (f:Addr) (fd:FuncData) (ps:List Str) (sp:Sp):Prop where
 len:∀ vs H Q E,sp vs H Q E->vs.length=ps.length
 run:∀ (A:Around) (outer:List Env) (s:Shared) (H:Hp) (args:Args) (us:List Value) (vs:List V) (Q:VK) (E:XK),ut k A->yop P w K mg base A outer s H->BindsTo s fd args (ps.zip us)->vp vs us->sp vs H Q E ->
  codeAny (model P w) A (.call (.ref f) args) (CR CX outer P w H s Q E) s
theorem yop.make {P:Program} {w:World} {K:W.Frag} {mg:Str->Option Value} {base:Heap} {A:Around} {outer:List Env} {s:Shared} {H:Hp} (e:yop P w K mg base A outer s H) (C:Addr) (us:List Value) (kw:List (Str × Value)) :
  yop P w K mg base (A.under (.builtin "type.__call__" ⟨.ref C :: us,kw⟩)) outer s H:=⟨by first | exact e.frames | (simpa [Around.under,Code.envs,Code.isFrame,pushEnvs] using e.frames),e.mod,e.bs,e.bsz,e.funs,e.frf,e.hok,e.bare⟩
section
variable {X:Cx} {pins:List (Addr × Obj)} {σ:St} {H:Hp} {s s':Shared}
theorem Inv.env0 (I:Inv X pins σ H s):yop X.prog X.w X.K X.mg X.base X.A X.stack s H :=
 ⟨I.ok.frames,I.ok.mod,I.bs,Nat.le_trans I.ok.bsz I.sz,I.stack,I.stkFree,I.hok,I.bare⟩
theorem Inv.after {Q:VK} {u:Value} (I:Inv X pins σ H s) (h:CE X.stack X.prog X.w H s Q u s'):EP X pins σ Q u s':=by
 obtain ⟨v,H',os,bare,un,hok,r,q⟩:=h
 obtain ⟨hh,g,d,t,os'⟩:=s'
 obtain rfl:os'=s.os:=os
 exact ⟨v,H',I.call (h':=hh) (g':=g) (d':=d) (t':=t) (ch:=[]) un hok bare (fun b z=>absurd z (by simp)),r,q⟩
end
def yru (sp:Sp) (dvs:List V) (E:XK) (t:TA):TE:=fun σ H Q=>t σ H fun vs H1=>sp (vs++dvs) H1 Q E
def yam (C:Addr) (m:Str) (sp:Sp) (dvs:List V) (E:XK) (ta:TE) (t:TA):TE:=fun σ H Q=>ta σ H fun x H1=>∃ a dx fs,x=.ref a/\H1 a=some (.ins C dx fs)/\fs.lookup m=none /\
 t σ H1 fun vs H2=>sp (x :: (vs++dvs)) H2 Q E
def ynb (C:Addr) (sp:Sp) (dvs:List V) (E:XK) (t:TA):TE:=fun σ H Q=>t σ H fun vs H1=>∀ x dx,H1 x=none->H1 dx=none->dx≠x ->
 sp (.ref x :: (vs++dvs)) (upd (upd H1 dx (.own x)) x (.ins C dx [])) (fun v H2=>v=.non/\Q (.ref x) H2) E
def uk (K:W.Frag) (fd:FuncData) (ps:List Str) (ds:List Value):Prop :=
 ∀ (s:Shared) (us:List Value),K.In s.heap->(us++ds).length=ps.length->BindsTo s fd ⟨us,[]⟩ (ps.zip (us++ds))
theorem uk.all {K:W.Frag} {fd:FuncData} {ps:List Str} (h:∀ us:List Value,us.length=ps.length->bindArgs fd ⟨us,[]⟩=pure (ps.zip us)):uk K fd ps []:=fun s us _ hl=>by
 rw [List.append_nil] at hl ⊢
 exact .of_eq (h us hl)
def zu (CX:CXT) (X:Cx) (E:XK):Prop:=∀ (pins:List (Addr × Obj)) (σ:St) (H:Hp) (s:Shared) (e:Value) (s':Shared),Inv X pins σ H s->CX X.stack H s E e s'->X.xe e s'
section
variable {X:Cx} {CX:CXT} {k:Nat} {f C:Addr} {fd:FuncData} {ps:List Str} {sp:Sp} {dvs:List V} {ds:List Value} {E:XK} {x m:Str} {p pos apos:Pos} {e o:Expr} {es:List Expr} {ta:TE} {t:TA}
theorem yic {pins:List (Addr × Obj)} {σ:St} {H:Hp} {s:Shared} {Q:VK} {us:List Value} {vs:List V} (F:we X.prog X.w X.K X.mg X.base CX k f fd ps sp) (hr:ut k X.A) (hb:uk X.K fd ps ds) (hd:vp dvs ds) (hx:zu CX X E)
  (I:Inv X pins σ H s) (r:vp vs us) (h:sp (vs++dvs) H Q E):wpAny (model X.prog X.w) X.A (call (.ref f) us) (EP X pins σ Q) X.xe s:=by
 have r2:vp (vs++dvs) (us++ds):=r.append hd
 have hl:(us++ds).length=ps.length:=by rw [<- r2.length]; exact F.len _ _ _ _ h
 refine wpAny_call (codeAny_mono (F.run X.A X.stack s H ⟨us,[]⟩ (us++ds) (vs++dvs) Q E hr I.env0 (hb s us I.kIn hl) r2 h) fun r s' hq=>?_)
 cases r with
 | error e=>exact hx pins σ H s e s' I hq
 | ok fl =>
  cases fl with
  | ret u=>exact I.after hq
  | next=>exact False.elim hq
  | brk=>exact False.elim hq
  | cont=>exact False.elim hq
theorem yw (F:we X.prog X.w X.K X.mg X.base CX k f fd ps sp) (hr:ut k X.A) (hg:Gl X x) (hm:X.mg x=some (.ref f)) (hk:W.keepIn X.K (.ref f)=true) (hb:uk X.K fd ps ds) (hd:vp dvs ds) (hx:zu CX X E)
  (ha:PA X (e :: es) t) (hdb:(x == ("__debug__":Str))=false:=by decide) (he:starEach (e :: es) X.env=(false,eval e X.env) :: starEach es X.env:=by rfl) (hpl:(backTo pos (starEach es X.env)).any (·.1)=false:=by rfl) :
  PE X (.Call (.Name x p) (e :: es) [] pos) (yru sp dvs E t):=by
 intro pins s σ H Q I h
 refine wpAny_Call_Name_kw (uz I hg hm ?_ hdb)
 refine W.callWith_K (h₀:=X.base) I.ok.mod.kin hk (thn (ha pos pins s σ H _ I h) fun us s1 ⟨vs,H1,I1,r,q⟩=>⟨I1.kIn,?_⟩) he hpl
 exact yic F hr hb hd hx I1 r q
theorem uv {pl:Sem Bool} (he:PE X o ta) (c:Cls X.K C) (hm:yov X.K C m f) (F:we X.prog X.w X.K X.mg X.base CX k f fd ps sp) (hr:ut k X.A) (hb:uk X.K fd ps ds) (hd:vp dvs ds) (hx:zu CX X E) (ha:PA X (e :: es) t)
  (hst:starEach (e :: es) X.env=(false,eval e X.env) :: starEach es X.env:=by rfl) (hpl:(backTo pos (starEach es X.env)).any (·.1)=false:=by rfl)
  (ht:eval (.Call (.Attribute o m apos) (e :: es) [] pos) X.env=(do
   let ov <- eval o X.env
   standAt apos.atName
   let (f,first) <- holding [ov] (getMethod ov m pl)
   callWith pos f first (backTo pos (starEach (e :: es) X.env)) (backToKw pos (keywordEach [] X.env))):=by rfl) :
  PE X (.Call (.Attribute o m apos) (e :: es) [] pos) (yam C m sp dvs E ta t):=by
 intro pins s σ H Q I h
 refine W.methodCall_KW (pl:=pl) (thn (he pins s σ H _ I h) fun u s1 ⟨x,H1,I1,rx,a,dx,fs,ex,ea,l,q⟩=>?_) ht
 subst ex
 obtain rfl:u=Value.ref a:=rx
 refine zl I1 ea c hm l ?_
 refine W.callWith_K (first:=[.ref a]) (h₀:=X.base) I.ok.mod.kin hm.kp (thn (ha pos pins s1 σ H1 _ I1 q) fun us s2 ⟨vs,H2,I2,r,q2⟩=>⟨I2.kIn,?_⟩) hst hpl
 exact yic (us:=.ref a :: us) (vs:=.ref a :: vs) F hr hb hd hx I2 (.cons rfl r) q2
theorem yx {pl:Sem Bool} (he:PE X o ta) (c:Cls X.K C) (hm:yov X.K C m f) (F:we X.prog X.w X.K X.mg X.base CX k f fd ps sp) (hr:ut k X.A) (hb:uk X.K fd ps ds) (hd:vp dvs ds) (hx:zu CX X E)
  (ht:eval (.Call (.Attribute o m apos) [] [] pos) X.env=(do
   let ov <- eval o X.env
   standAt apos.atName
   let (f,first) <- holding [ov] (getMethod ov m pl)
   callWith pos f first (backTo pos (starEach [] X.env)) (backToKw pos (keywordEach [] X.env))):=by rfl) :
  PE X (.Call (.Attribute o m apos) [] [] pos) (yam C m sp dvs E ta yil):=by
 intro pins s σ H Q I h
 refine W.methodCall_KW (pl:=pl) (thn (he pins s σ H _ I h) fun u s1 ⟨x,H1,I1,rx,a,dx,fs,ex,ea,l,q⟩=>?_) ht
 subst ex
 obtain rfl:u=Value.ref a:=rx
 refine zl I1 ea c hm l ?_
 exact W.callWith_K0 (first:=[.ref a]) I1.kIn hm.kp (yic (us:=[.ref a]) (vs:=[.ref a]) F hr hb hd hx I1 (.cons rfl .nil) q)
structure Mk (K:W.Frag) (C f:Addr):Prop where
 makes:W.makesIn K C=true
 init:W.findIn K (.ref C) "__init__"=some (some (.ref f))
 fn:W.isFn K (.ref f)=true
 kp:W.keepIn K (.ref C)=true
theorem yef {pins:List (Addr × Obj)} {σ:St} {H:Hp} {s:Shared} {Q:VK} {us:List Value} {vs:List V} (M:Mk X.K C f) (F:we X.prog X.w X.K X.mg X.base CX k f fd ps sp) (hr:ut (k+1) X.A) (hb:uk X.K fd ps ds) (hd:vp dvs ds)
  (hx:zu CX X E) (I:Inv X pins σ H s) (r:vp vs us)
  (h:∀ x dx,H x=none->H dx=none->dx≠x->sp (.ref x :: (vs++dvs)) (upd (upd H dx (.own x)) x (.ins C dx [])) (fun v H2=>v=.non/\Q (.ref x) H2) E) :
  wpAny (model X.prog X.w) X.A (call (.ref C) us) (EP X pins σ Q) X.xe s:=by
 have hq:=h (s.heap.objs.size+1) s.heap.objs.size (I.hok.fresh (Nat.le_succ _)) (I.hok.fresh (Nat.le_refl _)) (Nat.ne_of_lt (Nat.lt_succ_self _))
 have I2:=Inv.made (C:=C) I
 have r2:vp (V.ref (s.heap.objs.size+1) :: (vs++dvs)) (Value.ref (s.heap.objs.size+1) :: (us++ds)):=.cons rfl (r.append hd)
 have hl:(Value.ref (s.heap.objs.size+1) :: us++ds).length=ps.length:=by
  have e:=r2.length
  rw [F.len _ _ _ _ hq] at e
  exact e.symm
 refine wpAny_call (yen (f:=f) I.kIn M.makes M.init (beq_iff_eq.mp M.fn) (codeAny_mono (F.run _ X.stack _ _ ⟨Value.ref (s.heap.objs.size+1) :: us,[]⟩ (Value.ref (s.heap.objs.size+1) :: (us++ds)) _ _ E (hr.make C us [])
  (I2.env0.make C us []) (hb _ (Value.ref (s.heap.objs.size+1) :: us) I2.kIn hl) r2 hq) fun r s' hq'=>?_))
 cases r with
 | error e=>exact hx pins σ _ _ e s' I2 hq'
 | ok fl =>
  cases fl with
  | ret u =>
   obtain ⟨v,H',I3,rv,ev,q3⟩:=I2.after hq'
   subst ev
   exact ⟨rv,⟨V.ref (s.heap.objs.size+1),H',I3,rfl,q3⟩⟩
  | next=>exact False.elim hq'
  | brk=>exact False.elim hq'
  | cont=>exact False.elim hq'
theorem yb1 (M:Mk X.K C f) (F:we X.prog X.w X.K X.mg X.base CX k f fd ps sp) (hr:ut (k+1) X.A) (hg:Gl X x) (hm:X.mg x=some (.ref C)) (hb:uk X.K fd ps ds) (hd:vp dvs ds) (hx:zu CX X E)
  (ha:PA X (e :: es) t) (hdb:(x == ("__debug__":Str))=false:=by decide) (he:starEach (e :: es) X.env=(false,eval e X.env) :: starEach es X.env:=by rfl) (hpl:(backTo pos (starEach es X.env)).any (·.1)=false:=by rfl) :
  PE X (.Call (.Name x p) (e :: es) [] pos) (ynb C sp dvs E t):=by
 intro pins s σ H Q I h
 refine wpAny_Call_Name_kw (uz I hg hm ?_ hdb)
 refine W.callWith_K (h₀:=X.base) I.ok.mod.kin M.kp (thn (ha pos pins s σ H _ I h) fun us s1 ⟨vs,H1,I1,r,q⟩=>⟨I1.kIn,?_⟩) he hpl
 exact yef M F hr hb hd hx I1 r q
theorem uf (M:Mk X.K C f) (F:we X.prog X.w X.K X.mg X.base CX k f fd ps sp) (hr:ut (k+1) X.A) (hg:Gl X x) (hm:X.mg x=some (.ref C)) (hb:uk X.K fd ps ds) (hd:vp dvs ds) (hx:zu CX X E)
  (hdb:(x == ("__debug__":Str))=false:=by decide):PE X (.Call (.Name x p) [] [] pos) (ynb C sp dvs E yil):=by
 intro pins s σ H Q I h
 refine wpAny_Call_Name_kw (uz I hg hm ?_ hdb)
 exact W.callWith_K0 I.kIn M.kp (yef (us:=[]) M F hr hb hd hx I .nil h)
end
section
variable {X:Cx} {CX:CXT} {k:Nat} {f C:Addr} {fd:FuncData} {ps ks:List Str} {sp:Sp} {E:XK} {x m:Str} {p pos apos kpos:Pos} {e o:Expr} {es:List Expr} {kws:List Keyword} {te ta:TE} {t tk:TA} {nm:Option Str}
structure yud (K:W.Frag) (fd:FuncData) (ps ks:List Str) (g:List Value->List Value->List Value) (gV:List V->List V->List V):Prop where
 to:∀ (s:Shared) (us ws:List Value),K.In s.heap->(g us ws).length=ps.length->BindsTo s fd ⟨us,ks.zip ws⟩ (ps.zip (g us ws))
 rel:∀ {vs:List V} {us:List Value} {zs:List V} {ws:List Value},vp vs us->vp zs ws->vp (gV vs zs) (g us ws)
variable {g:List Value->List Value->List Value} {gV:List V->List V->List V}
end
structure ym (N P:List Str) (sc:Scope):Prop where
 kind:sc.kind=.function
 co:sc.isCoroutine=false
 gen:sc.isGenerator=false
 nd:N.Nodup
 pre:N.take P.length=P
 par:∀ x∈P,sc.names.lookup x=some .local\/sc.names.lookup x=some .cell
 nofree:∀ y∈sc.names,y.2≠.free
theorem ycn {kindOf:Str->Option NameKind} {x:Str}:∀ {binds:List (Str × Value)} {m:Str->Option Value},(∀ v,(x,v)∉binds)->bindL kindOf binds m x=m x
 | [],_,_=>rfl
 | (n,v) :: r,m,h=>by
  unfold bindL
  rw [ycn fun w hw=>h w (List.mem_cons_of_mem _ hw)]
  split
  ·have:x≠n:=by rintro rfl; exact h v List.mem_cons_self
   simp [this]
  ·rfl
theorem ycs {kindOf:Str->Option NameKind} {x:Str}:∀ {binds:List (Str × Value)} {m:Str->Option Value},(∀ v,(x,v)∉binds)->bindC kindOf binds m x=m x
 | [],_,_=>rfl
 | (n,v) :: r,m,h=>by
  unfold bindC
  rw [ycs fun w hw=>h w (List.mem_cons_of_mem _ hw)]
  split
  ·rfl
  ·have:x≠n:=by rintro rfl; exact h v List.mem_cons_self
   simp [this]
theorem yco {kindOf:Str->Option NameKind} {x:Str} {v:Value}:∀ {P:List Str} {vs:List Value} {i:Nat} {m:Str->Option Value},P.Nodup->P[i]?=some x->vs[i]?=some v->kindOf x=some .local ->
  bindL kindOf (P.zip vs) m x=some v
 | [],_,_,_,_,h,_,_=>by simp at h
 | _ :: _,[],_,_,_,_,h,_=>by simp at h
 | p :: P,w :: vs,0,m,nd,h1,h2,hk=>by
  simp at h1 h2; subst h1; subst h2
  show bindL kindOf ((p,w) :: P.zip vs) m p=_
  unfold bindL
  rw [ycn fun v hv=>(List.nodup_cons.mp nd).1 (List.of_mem_zip hv).1,if_pos hk]
  simp
 | p :: P,w :: vs,i+1,m,nd,h1,h2,hk=>by
  show bindL kindOf ((p,w) :: P.zip vs) m x=_
  unfold bindL
  exact yco (i:=i) (List.nodup_cons.mp nd).2 (by simpa using h1) (by simpa using h2) hk
theorem ycv {kindOf:Str->Option NameKind} {x:Str} {v:Value}:∀ {P:List Str} {vs:List Value} {i:Nat} {m:Str->Option Value},P.Nodup->P[i]?=some x->vs[i]?=some v->kindOf x≠some .local ->
  bindC kindOf (P.zip vs) m x=some v
 | [],_,_,_,_,h,_,_=>by simp at h
 | _ :: _,[],_,_,_,_,h,_=>by simp at h
 | p :: P,w :: vs,0,m,nd,h1,h2,hk=>by
  simp at h1 h2; subst h1; subst h2
  show bindC kindOf ((p,w) :: P.zip vs) m p=_
  unfold bindC
  rw [ycs fun v hv=>(List.nodup_cons.mp nd).1 (List.of_mem_zip hv).1,if_neg hk]
  simp
 | p :: P,w :: vs,i+1,m,nd,h1,h2,hk=>by
  show bindC kindOf ((p,w) :: P.zip vs) m x=_
  unfold bindC
  exact ycv (i:=i) (List.nodup_cons.mp nd).2 (by simpa using h1) (by simpa using h2) hk
def yah (N:List Str) (vs:List V):St:=vs.map some++List.replicate (N.length - vs.length) none
def v7 (CX:CXT) (P:Program) (w:World) (K:W.Frag) (mg:Str->Option Value) (base:Heap) (N:List Str) (qual:Str) (scope:Scope) (f:Addr) (cd:Value) (A:Around) (outer:List Env) (s:Shared) (H:Hp) (E:XK):Cx where
 prog:=P
 w:=w
 K:=K
 mg:=mg
 base:=base
 A:=A.deeper (envOfC qual scope s.heap.objs.size f cd)
 N:=N
 s₀:=s
 H₀:=H
 env:=envOfC qual scope s.heap.objs.size f cd
 outer:=outer
 stack:=envOfC qual scope s.heap.objs.size f cd :: outer
 ex:=[]
 calm:=true
 fn:=fun _=>true
 pn:=[]
 xe:=fun e s'=>wpAny (model P w) (A.deeper (envOfC qual scope s.heap.objs.size f cd)) (leaving (envOfC qual scope s.heap.objs.size f cd) e) (fun _ s''=>CX outer H s E e s'') (fun e' s''=>CX outer H s E e' s'') s'
theorem yeq {sc:Scope} {n:Nat} {x:Str} (h:sc.names.lookup x=some .cell):∃ c,(cellsFrom n sc.names []).lookup x=some c:=by
 have q:=W.cellsFrom_some sc.names n [] (.inl h)
 exact Option.isSome_iff_exists.mp q
theorem ygg {CX:CXT} {P:Program} {w:World} {K:W.Frag} {mg:Str->Option Value} {base:Heap} {N ps:List Str} {qual:Str} {scope:Scope} {f:Addr} {cd:Value} {A:Around} {outer:List Env} {s s1:Shared} {H:Hp} {E:XK} {us:List Value} {vs:List V}
  (S:ym N ps scope) (hd:A.handled=none) (e0:yop P w K mg base A outer s H) (hl:vs.length=ps.length) (r:vp vs us)
  (x:InCallC s s.heap.objs.size (bindL (envOfC qual scope s.heap.objs.size f cd).kindOf (ps.zip us) fun _=>none) (cellsFrom (s.heap.objs.size+1) scope.names []) (bindC (envOfC qual scope s.heap.objs.size f cd).kindOf (ps.zip us) fun _=>none) s1) :
  Inv (v7 CX P w K mg base N qual scope f cd A outer s H E) [] (yah N vs) H s1:=by
 have hpl:ps.length <= N.length:=by have:=congrArg List.length S.pre; rw [List.length_take] at this; omega
 obtain ⟨h1,tk,rfl,hk⟩:=x.done
 have noA:∀ b:Addr,b∉(v7 CX P w K mg base N qual scope f cd A outer s H E).ex:=fun b z=>absurd (show b∈([]:List Addr) from z) (by simp)
 refine ⟨⟨e0.mod,S.kind,rfl,rfl,Nat.le_refl _,fun y z c h1 h2=>?_,fun y hy=>?_,fun y c _ h=>?_,fun _=>hd,Around.frames_deeper e0.frames,.inr ⟨rfl,rfl⟩,fun b z=>absurd z (noA b),e0.bs,e0.bsz,fun b _ _=>noA b,fun b z=>absurd z (noA b),e0.funs,e0.frf⟩,
  rfl,e0.bare,Un.kept hk,⟨_,x.toInCall.ns,fun i y v h1 h2 h3=>?_⟩,fun y c h=>⟨_,x.cell y c h⟩,e0.hok.fresh (Nat.le_refl _),fun y c h=>?_,fun p hp=>absurd (show p∈([]:List (Addr × Obj)) from hp) (by simp),e0.hok.kept hk,?_⟩
 ·exact name_of_addr x.apart (PySem.mem_of_lookup h1) (PySem.mem_of_lookup h2)
 ·have hy:scope.names.lookup y=some .cell\/scope.names.lookup y=some .free:=hy
  rcases hy with hy | hy
  ·exact yeq hy
  ·exact absurd rfl (S.nofree _ (PySem.mem_of_lookup hy))
 ·exact Nat.le_of_lt (x.above y c (PySem.mem_of_lookup h))
 ·have hi:i < vs.length:=by
   unfold yah at h2
   by_cases hi:i < vs.length
   ·exact hi
   ·rw [List.getElem?_append_right (by simpa using hi)] at h2
    rw [List.getElem?_replicate] at h2
    split at h2 <;> cases h2
  have ha:vs[i]?=some v:=by
   unfold yah at h2
   rw [List.getElem?_append_left (by simpa using hi),List.getElem?_map] at h2
   cases e:vs[i]? with
   | none=>rw [e] at h2; cases h2
   | some a=>rw [e] at h2; cases h2; rfl
  obtain ⟨u,hu,rv⟩:=r.get ha
  have hp:ps[i]?=some y:=by
   rw [<- S.pre,List.getElem?_take_of_lt (by omega)]; exact h1
  have ndP:ps.Nodup:=by rw [<- S.pre]; exact S.nd.sublist (List.take_sublist _ _)
  refine ⟨u,rv,?_⟩
  rcases S.par y (List.mem_of_getElem? hp) with k | k
  ·exact .inl ⟨k,yco ndP hp hu k⟩
  ·obtain ⟨c,e⟩:=yeq (n:=s.heap.objs.size+1) k
   refine .inr ⟨.inl k,c,e,?_⟩
   have q:=x.cell y c e
   rw [ycv ndP hp hu (by show scope.names.lookup y≠_; rw [k]; decide)] at q
   exact q
 ·exact e0.hok.fresh (Nat.le_of_lt (x.above y c (PySem.mem_of_lookup h)))
 ·unfold yah
  show _=N.length
  rw [List.length_append,List.length_map,List.length_replicate]
  omega
theorem yrx {CX:CXT} {P:Program} {w:World} {K:W.Frag} {mg:Str->Option Value} {base:Heap} {k:Nat} {f:Addr} {name qual:Str} {params:Arguments} {body:List Stmt} {scope:Scope} {dV kV doc pm cdv ct oc:Value} {an od:Option Addr}
  {osl:Array (Option Value)} {N ps:List Str} {sp:Sp} (lk:K.lookup f=some ⟨oc,od,.func (W.fnOf name qual params body scope dV kV doc pm an cdv ct),osl⟩) (hcd:W.codeIn K cdv qual=true) (S:ym N ps scope)
  (len:∀ vs H Q E,sp vs H Q E->vs.length=ps.length)
  (hbody:∀ (A:Around) (outer:List Env) (s:Shared) (H:Hp) (vs:List V) (Q:VK) (E:XK),ut k (A.deeper (envOfC qual scope s.heap.objs.size f cdv))->sp vs H Q E ->
   ∃ t,PSs (v7 CX P w K mg base N qual scope f cdv A outer s H E) body t/\t { nx:=fun _ H'=>Q .non H',rt:=Q } (yah N vs) H) :
  we P w K mg base CX (k+1) f (W.fnOf name qual params body scope dV kV doc pm an cdv ct) ps sp:=by
 refine ⟨len,fun A outer s H args us vs Q E hr e0 hb r hsp=>?_⟩
 have hl:=len _ _ _ _ hsp
 have KX:K.In s.heap:=e0.mod.kin.keeps fun b o e=>(e0.bs b o e).1
 have lim:s.heap.NoLimit:=e0.mod.nolimit.keeps fun b o e=>(e0.bs b o e).1
 have hkind:∀ y∈ps.zip us,scope.names.lookup y.1=some .local\/(scope.names.lookup y.1=some .cell/\((cellsFrom (s.heap.objs.size+1) scope.names []).lookup y.1).isSome=true):=fun ⟨n,v⟩ hy=>by
  rcases S.par n (List.of_mem_zip hy).1 with q | q
  ·exact .inl q
  ·exact .inr ⟨q,W.cellsFrom_some _ _ _ (.inl q)⟩
 refine codeAny_call_function hr.depth (KX _ _ lk) rfl S.co S.gen rfl (W.codeRec_of KX hcd) (hb _ _ _ _ ?_)
 refine wpAny_newFunctionEnv_cells S.kind hkind fun env he s1 x=>?_
 subst he
 refine ⟨lim.keeps x.toInCall.keep,codeAny_func ?_⟩
 obtain ⟨t,ht,hq⟩:=hbody A outer s H vs Q E (hr.deeper _) hsp
 have I:Inv (v7 CX P w K mg base N qual scope f cdv A outer s H E) [] (yah N vs) H s1:=ygg S hr.hd e0 hl r x
 refine wpAny_mono (ht [] s1 (yah N vs) H _ I hq) (fun fl s' hs=>?_) fun e s' hs=>hs
 have fin:∀ {σ':St} {H':Hp} {v:V} {u:Value},Inv (v7 CX P w K mg base N qual scope f cdv A outer s H E) [] σ' H' s'->wn v u->Q v H'->CE outer P w H s Q u s' :=
  fun {σ' H' v u} J rv q=>⟨v,H',J.os,J.bare,J.base,J.hok,rv,q⟩
 cases fl with
 | ret u =>
  obtain ⟨v,σ',H',J,rv,q⟩:=hs
  exact fin J rv q
 | next =>
  obtain ⟨σ',H',J,q⟩:=hs
  exact fin (v:=V.non) (u:=Value.none) J rfl q
 | brk =>
  obtain ⟨_,_,_,q⟩:=hs
  exact False.elim q
 | cont =>
  obtain ⟨_,_,_,q⟩:=hs
  exact False.elim q
end L2
namespace L2
open PySem PySem.Spec PyProof.Rows
section
variable {X:Cx} {x:Str} {p pos:Pos} {e:Expr} {es:List Expr} {t:TA} {id T:String} {r:List V->Hp->VK->Prop}
def tCB (r:List V->Hp->VK->Prop) (t:TA):TE:=fun σ H Q=>t σ H fun vs H1=>r vs H1 Q
theorem yv (hc:yak X (.builtin id) r) (hg:Gl X x) (hm:X.mg x=none) (hv:bootBuiltins x=some (.builtin id)) (ha:PA X (e :: es) t) (hn:x≠"__name__":=by decide) (hdb:(x == ("__debug__":Str))=false:=by decide)
  (he:starEach (e :: es) X.env=(false,eval e X.env) :: starEach es X.env:=by rfl) (hpl:(backTo pos (starEach es X.env)).any (·.1)=false:=by rfl):PE X (.Call (.Name x p) (e :: es) [] pos) (tCB r t):=by
 intro pins s σ H Q I h
 refine wpAny_Call_Name_kw (yae I hg hm hv ?_ hn hdb)
 exact PyProof.Rows.callWith_builtin1 (thn (ha pos pins s σ H _ I h) fun us s1 ⟨vs,H1,I1,r1,q1⟩=>hc pins s1 σ H1 vs us Q I1 r1 q1) he hpl
theorem v9 (hc:yak X (.type T) r) (hg:Gl X x) (hm:X.mg x=none) (hv:bootBuiltins x=some (.type T)) (ha:PA X (e :: es) t) (hn:x≠"__name__":=by decide) (hdb:(x == ("__debug__":Str))=false:=by decide)
  (he:starEach (e :: es) X.env=(false,eval e X.env) :: starEach es X.env:=by rfl) (hpl:(backTo pos (starEach es X.env)).any (·.1)=false:=by rfl):PE X (.Call (.Name x p) (e :: es) [] pos) (tCB r t):=by
 intro pins s σ H Q I h
 refine wpAny_Call_Name_kw (yae I hg hm hv ?_ hn hdb)
 exact PyProof.Rows.callWith_type1 (thn (ha pos pins s σ H _ I h) fun us s1 ⟨vs,H1,I1,r1,q1⟩=>hc pins s1 σ H1 vs us Q I1 r1 q1) he hpl
end
end L2
namespace HT
open PySem PyProof.Rows
section
open PySem.SeqAt
open PySem.AutoSeq1 (wpAny_loadPart')
open PySem.MeetsSeq PySem.MeetsSeq2 PySem.MeetsSeq3
end
section
variable {prog:Program} {w:World} {A:Around} {E:Value->Shared->Prop} {s:Shared}
def sIx (n d:Nat):Option Int->Nat
 | none=>d
 | some v=>if v < 0 then (v+(n:Int)).toNat else min v.toNat n
theorem sIx_none (n d:Nat):sIx n d none=d:=rfl
theorem sIx_nat (n d k:Nat):sIx n d (some (k:Int))=min k n:=by
 show (if (k:Int) < 0 then ((k:Int)+(n:Int)).toNat else min (k:Int).toNat n)=min k n
 rw [if_neg (by omega),Int.toNat_natCast]
theorem yrb (n d:Nat) (hd:d <= n) (o:Option Int):sIx n d o <= n:=by
 cases o with
 | none=>exact hd
 | some v =>
  show (if v < 0 then (v+(n:Int)).toNat else min v.toNat n) <= n
  by_cases hv:v < 0
  ·rw [if_pos hv]; omega
  ·rw [if_neg hv]; exact Nat.min_le_right _ _
theorem yhv (v:Int) (n d:Nat):(if v < 0 then max (v+(n:Int)) 0 else min v (n:Int))=((sIx n d (some v):Nat):Int):=by
 show (if v < 0 then max (v+(n:Int)) 0 else min v (n:Int))=(((if v < 0 then (v+(n:Int)).toNat else min v.toNat n):Nat):Int)
 by_cases hv:v < 0
 ·simp only [if_pos hv]; omega
 ·simp only [if_neg hv]; omega
theorem yf7 (lo hi:Option Int) (n:Nat):Builtin.Slice.sliceAdjust lo hi 1 (n:Int)=(((sIx n 0 lo:Nat):Int),((sIx n n hi:Nat):Int)):=by
 have h1:¬ ((1:Int) < 0):=by omega
 unfold Builtin.Slice.sliceAdjust
 simp only [h1,if_false]
 refine Prod.ext ?_ ?_
 ·cases lo with
  | none=>rfl
  | some v=>exact yhv v n 0
 ·cases hi with
  | none=>rfl
  | some v=>exact yhv v n n
theorem yfa (i j:Nat):Builtin.Slice.slicePlaces (i:Int) (j:Int) 1=j - i:=by
 unfold Builtin.Slice.slicePlaces
 have h1:(1:Int) > 0:=by omega
 simp only [h1,if_true,Int.ediv_one]
 split <;> omega
theorem yas {v:Value} {o:Option Int} {Q:Option Int->Shared->Prop} (p:IsPart v o) (h:Q o s):wpAny (model prog w) A (Builtin.Slice.slicePartIndex v) Q E s:=by
 cases p with
 | none=>exact slicePart_none h
 | int i t=>exact slicePart_int h
theorem xz {sl:Addr} {vl vu:Value} {lo hi:Option Int} {n:Nat} {Q:Int × Int × Nat->Shared->Prop} (hs:s.heap.IsSliceOf sl vl vu .none) (pl:IsPart vl lo) (pu:IsPart vu hi)
  (h:Q (((sIx n 0 lo:Nat):Int),1,sIx n n hi - sIx n 0 lo) s):wpAny (model prog w) A (Builtin.Slice.sliceApplied (.ref sl) (pure (n:Int))) Q E s:=by
 obtain ⟨os,hos,hcs,hds⟩:=id hs
 unfold Builtin.Slice.sliceApplied Builtin.Slice.sliceFields
 refine wpAny_bind (wpAny_bind (wpAny_field hos hds (x:=vl) rfl (wpAny_bind (wpAny_field hos hds (x:=vu) rfl (wpAny_bind (wpAny_field hos hds (x:=.none) rfl (wpAny_pure ?_)))))))
 refine wpAny_bind (slicePart_none ?_)
 show wpAny _ _ (if ((1:Int) == 0)=true then _ else _) _ _ s
 rw [if_neg (by decide)]
 refine wpAny_bind (yas pl (wpAny_bind (yas pu (wpAny_bind (wpAny_pure ?_)))))
 show wpAny _ _ (match Builtin.Slice.sliceAdjust lo hi 1 (n:Int) with | (lo,hi)=>pure (lo,(1:Int),Builtin.Slice.slicePlaces lo hi 1)) _ _ s
 rw [yf7 lo hi n]
 show wpAny _ _ (pure (((sIx n 0 lo:Nat):Int),(1:Int),Builtin.Slice.slicePlaces ((sIx n 0 lo:Nat):Int) ((sIx n n hi:Nat):Int) 1)) _ _ s
 rw [yfa]
 exact wpAny_pure h
theorem yi8 (xs:Array Value) (i k:Nat):((List.range k).filterMap fun (m:Nat)=>xs[((i:Int)+(m:Int) * 1).toNat]?).toArray=((xs.toList.drop i).take k).toArray:=by
 have e:(fun (m:Nat)=>xs[((i:Int)+(m:Int) * 1).toNat]?)=fun m=>xs[i+m]?:=by
  funext m
  have:((i:Int)+(m:Int) * 1).toNat=i+m:=by omega
  rw [this]
 rw [e]
 have:=pick_run xs i k
 rw [List.filterMap_map] at this
 have e2:((fun x=>xs[x]?) ∘ fun x=>i+x)=fun m=>xs[i+m]?:=rfl
 rw [e2] at this
 rw [this]
theorem getItem_tuple_cut {t sl:Addr} {items:Array Value} {vl vu:Value} {lo hi:Option Int} {Q:Value->Shared->Prop} (ht:IsTup s.heap t items) (hs:s.heap.IsSliceOf sl vl vu .none) (pl:IsPart vl lo) (pu:IsPart vu hi)
  (hw:¬ (sIx items.size 0 lo=0/\sIx items.size items.size hi=items.size))
  (h:Q (.ref s.heap.objs.size) { s with heap:=s.heap.push { cls:=.type "tuple",data:=.seq ((items.toList.drop (sIx items.size 0 lo)).take (sIx items.size items.size hi - sIx items.size 0 lo)).toArray } })
  (hsz:items.size <= sizeLine):wpAny (model prog w) A (getItem (.ref t) (.ref sl)) Q E s:=by
 have htake:sizeOk (.seq ((items.toList.drop (sIx items.size 0 lo)).take (sIx items.size items.size hi - sIx items.size 0 lo)).toArray):=by
  show ((items.toList.drop (sIx items.size 0 lo)).take (sIx items.size items.size hi - sIx items.size 0 lo)).toArray.size <= sizeLine
  rw [List.size_toArray,List.length_take,List.length_drop,Array.length_toList]
  omega
 have hj:sIx items.size items.size hi <= items.size:=yrb _ _ (Nat.le_refl _) hi
 obtain ⟨os,hos,hcs,hds⟩:=id hs
 have hTs:s.TypeIs (.ref sl) "slice":=⟨os,hos,hcs⟩
 unfold getItem
 try with_reducible refine wpAny_holding ?_
 first | refine wpAny_bind (wpAny_pure ?_) | skip
 refine wpAny_bind (wpAny_sequenceKey ht.typeIs (by decide) ?_)
 refine wpAny_bind (wpAny_callSpecial?_slot (name:=Str.ofString "__getitem__") ht.typeIs PyProof.Rows.slot_tuple_getitem
  (wpAny_call_entry PyProof.Rows.slot_tuple_getitem ht.typeIs entry_tuple_getitem ?_ (args_tuple_getitem _ _)))
 show wpAny _ _ (Builtin.Tuple.tupleItemsOf (.ref t) >>= _) _ _ s
 refine wpAny_bind (tupleItemsOf_ ht ?_)
 refine wpAny_bind (wpAny_typeOf hTs ?_)
 rw [if_pos (by decide)]
 refine wpAny_bind (xz hs pl pu ?_)
 have hno:¬ ((((sIx items.size 0 lo:Nat):Int) == 0 && (1:Int) == 1 && (sIx items.size items.size hi - sIx items.size 0 lo) == items.size)=true):=by
  intro q
  rw [Bool.and_eq_true,Bool.and_eq_true] at q
  have q1:((sIx items.size 0 lo:Nat):Int)=0:=eq_of_beq q.1.1
  have q2:sIx items.size items.size hi - sIx items.size 0 lo=items.size:=eq_of_beq q.2
  exact hw ⟨by omega,by omega⟩
 show wpAny _ _ (if (((sIx items.size 0 lo:Nat):Int) == 0 && (1:Int) == 1 && (sIx items.size items.size hi - sIx items.size 0 lo) == items.size)=true then _ else _) _ _ s
 rw [if_neg hno,yi8]
 first
  | exact wpAny_bind (m:=Builtin.Tuple.tupleExact _) (wpAny_newObj_type (wpAny_pure ⟨_,rfl,wpAny_pure h⟩) htake)
  | exact wpAny_bind (m:=Builtin.Tuple.tupleExact _) (wpAny_newObj_type (wpAny_bind (wpAny_pure (wpAny_pure ⟨_,rfl,wpAny_pure h⟩))) htake)
  | exact wpAny_bind (wpAny_bind (m:=Builtin.Tuple.tupleExact _) (wpAny_newObj_type (wpAny_pure (wpAny_pure ⟨_,rfl,wpAny_pure h⟩)) htake))
  | exact wpAny_bind (wpAny_bind (m:=Builtin.Tuple.tupleExact _) (wpAny_newObj_type (wpAny_pure ⟨_,rfl,wpAny_pure h⟩) htake))
end
end HT
namespace L2
open PySem PySem.Spec PyProof.Rows
abbrev TO:=St->Hp->(Option Int->Hp->Prop)->Prop
def PO (X:Cx) (e:Option Expr) (t:TO):Prop :=
 ∀ (pins:List (Addr × Obj)) (s:Shared) (σ:St) (H:Hp) (Q:Option Int->Hp->Prop),Inv X pins σ H s->t σ H Q ->
  wpAny (model X.prog X.w) X.A (evalPart e X.env) (fun u s'=>∃ o H',Inv X pins σ H' s'/\IsPart u o/\Q o H') X.xe s
def yhr:TO:=fun _ H Q=>Q none H
def yrv (t:TE):TO:=fun σ H Q=>t σ H fun x H1=>∃ i,x=.int i/\Q (some i) H1
section
variable {X:Cx} {e:Expr} {te:TE} {lo hi:Option Expr} {tl th:TO} {pos p2:Pos}
theorem uy:PO X none yhr:=by
 intro pins s σ H Q I h
 rw [evalPart_none]
 exact wpAny_pure ⟨none,H,I,.none,h⟩
theorem uw (h:PE X e te):PO X (some e) (yrv te):=by
 intro pins s σ H Q I hw
 rw [evalPart_some]
 refine thn (h pins s σ H _ I hw) fun u s1 ⟨x,H1,I1,r1,q1⟩=>?_
 obtain ⟨i,rfl,q⟩:=q1
 obtain ⟨t,rfl⟩:=r1
 exact ⟨some i,H1,I1,.int i t,q⟩
def SlR (X:Cx) (r:V->Option Int->Option Int->Hp->VK->Prop):Prop :=
 ∀ (pins:List (Addr × Obj)) (s:Shared) (σ:St) (H:Hp) (x:V) (v vl vu:Value) (lo hi:Option Int) (sl:Addr) (Q:VK),Inv X pins σ H s->wn x v->s.heap.IsSliceOf sl vl vu .none->IsPart vl lo->IsPart vu hi->r x lo hi H Q ->
  ∃ T id,typeLookup (.type T) "__getitem__"=pure (some (.builtin id))/\s.TypeIs v T/\wpAny (model X.prog X.w) X.A (getItem v (.ref sl)) (EP X pins σ Q) X.xe s
theorem SlR.or {r r':V->Option Int->Option Int->Hp->VK->Prop} (h:SlR X r) (h':SlR X r'):SlR X (fun x lo hi H Q=>r x lo hi H Q\/r' x lo hi H Q):=by
 intro pins s σ H x v vl vu lo hi sl Q I rx hs pl pu q
 rcases q with q | q
 ·exact h pins s σ H x v vl vu lo hi sl Q I rx hs pl pu q
 ·exact h' pins s σ H x v vl vu lo hi sl Q I rx hs pl pu q
def tSl (r:V->Option Int->Option Int->Hp->VK->Prop) (te:TE) (tl th:TO):TE:=fun σ H Q=>te σ H fun x H1=>tl σ H1 fun l H2=>th σ H2 fun u H3=>r x l u H3 Q
theorem xw {r:V->Option Int->Option Int->Hp->VK->Prop} (hr:SlR X r) (he:PE X e te) (hl:PO X lo tl) (hu:PO X hi th):PE X (.Subscript e (.Slice lo hi none p2) pos) (tSl r te tl th):=by
 intro pins s σ H Q I h
 refine Subscript_ (thn (he pins s σ H _ I h) fun v s1 ⟨x,H1,I1,r1,q1⟩=>?_)
 refine wpAny_Slice (thn (hl pins s1 σ H1 _ I1 q1) fun vl s2 ⟨l,H2,I2,pl,q2⟩=>thn (hu pins s2 σ H2 _ I2 q2) fun vu s3 ⟨u,H3,I3,pu,q3⟩=>?_)
 rw [evalPart_none]
 refine wpAny_pure ?_
 have I4:Inv X pins σ H3 { s3 with heap:=s3.heap.push { cls:=.type "slice",data:=.fields #[vl,vu,.none] } }:=I3.kept (t':=s3.toks) fun b ob q=>Heap.get?_push_of_some _ q
 obtain ⟨T,id,hT,ht,hg⟩:=hr pins { s3 with heap:=s3.heap.push { cls:=.type "slice",data:=.fields #[vl,vu,.none] } } σ H3 x v vl vu l u s3.heap.objs.size Q I4 r1 (Heap.IsSliceOf.new ..) pl pu q3
 show wpAny (model X.prog X.w) X.A (subscriptTail e (.Slice lo hi none p2) v (.ref s3.heap.objs.size)) (EP X pins σ Q) X.xe { s3 with heap:=s3.heap.push { cls:=.type "slice",data:=.fields #[vl,vu,.none] } }
 exact tail_any (ops:=[.ref s3.heap.objs.size,v]) ht hT hg (by with_unfolding_all rfl)
def yeb (xs:List V) (lo hi:Option Int):List V:=(xs.drop (HT.sIx xs.length 0 lo)).take (HT.sIx xs.length xs.length hi - HT.sIx xs.length 0 lo)
theorem jx (xs:List V) (lo hi:Option Int):(yeb xs lo hi).length <= xs.length:=by
 unfold yeb
 rw [List.length_take,List.length_drop]
 omega
def yux (K:W.Frag):V->Option Int->Option Int->Hp->VK->Prop:=fun x lo hi H Q=>∃ a xs,x=.ref a/\SqT K H a xs /\
 ¬ (HT.sIx xs.length 0 lo=0/\HT.sIx xs.length xs.length hi=xs.length)/\∀ p,H p=none->Q (.ref p) (upd H p (.tup (yeb xs lo hi)))
theorem yq0:SlR X (yux X.K):=by
 intro pins s σ H x v vl vu lo hi sl Q I rx hs pl pu h
 obtain ⟨a,xs,rfl,hx,hw,q⟩:=h
 cases rx
 obtain ⟨its,r,ht,hz⟩:=I.tuple hx
 have hlen:its.toArray.size=xs.length:=by rw [List.size_toArray]; exact r.length.symm
 refine ⟨"tuple",_,PyProof.Rows.slot_tuple_getitem.lookup,ht.typeIs,?_⟩
 refine HT.getItem_tuple_cut ht hs pl pu (by rw [hlen]; exact hw) ?_ (by rw [hlen]; exact hz)
 rw [hlen]
 refine ⟨.ref s.heap.objs.size,_,I.laid (t':=s.toks) (o:=.tup (yeb xs lo hi)) (fun b ob q=>Heap.get?_push_of_some _ q) (Nat.le_refl _) ?_,rfl,q _ (I.hok.fresh (Nat.le_refl _))⟩
 exact ⟨Nat.le_trans (jx xs lo hi) hz,_,(r.drop (HT.sIx xs.length 0 lo)).take (HT.sIx xs.length xs.length hi - HT.sIx xs.length 0 lo),IsTup.new _ _⟩
end
end L2
namespace L2
open PySem PySem.Spec PyProof.Rows
def ixN (n:Nat) (i:Int):Option Nat:=if 0 <= i then (if i < n then some i.toNat else none) else if -(n:Int) <= i then some (i+n).toNat else none
def atI {α:Type} (xs:List α) (i:Int):Option α:=(ixN xs.length i).bind fun j=>xs[j]?
theorem yms {n:Nat} {i:Int} {j:Nat} (h:ixN n i=some j):seqIndex? i n=some j/\j < n/\-(n:Int) <= i/\i < n:=by
 unfold ixN at h
 by_cases h0:0 <= i
 ·rw [if_pos h0] at h
  by_cases h1:i < n
  ·rw [if_pos h1] at h
   have e:i.toNat=j:=Option.some.inj h
   exact ⟨by rw [seqIndex_of h0 h1,e],by omega,by omega,h1⟩
  ·rw [if_neg h1] at h; cases h
 ·rw [if_neg h0] at h
  by_cases h1:-(n:Int) <= i
  ·rw [if_pos h1] at h
   have e:(i+n).toNat=j:=Option.some.inj h
   exact ⟨by rw [seqIndex_neg (by omega) h1,e],by omega,h1,by omega⟩
  ·rw [if_neg h1] at h; cases h
theorem yhl {α:Type} {xs:List α} {i:Int} {v:α} (h:atI xs i=some v):∃ j,seqIndex? i xs.length=some j/\xs[j]?=some v/\j < xs.length/\-(xs.length:Int) <= i/\i < xs.length:=by
 unfold atI at h
 cases e:ixN xs.length i with
 | none=>rw [e] at h; cases h
 | some j =>
  rw [e] at h
  obtain ⟨h1,h2,h3,h4⟩:=yms e
  exact ⟨j,h1,h,h2,h3,h4⟩
theorem ux {α:Type} {xs:List α} {j:Nat} {v:α} (h:xs[j]?=some v):atI xs (j:Int)=some v:=by
 have hj:j < xs.length:=(List.getElem?_eq_some_iff.mp h).1
 have e:ixN xs.length (j:Int)=some j:=by
  unfold ixN
  rw [if_pos (by omega),if_pos (by omega)]; simp
 unfold atI; rw [e]; exact h
def yls (b:Expr):Prop:=∀ o i,subscripted b false o i=operate [o,i] (getItem o i)
def IxR (X:Cx) (r:R2):Prop :=
 ∀ (value slice:Expr) (pins:List (Addr × Obj)) (s:Shared) (σ:St) (H:Hp) (x y:V) (v u:Value) (Q:VK),Inv X pins σ H s->wn x v->wn y u->r x y H Q ->
  subscripted slice false v u=operate [v,u] (getItem v u)->wpAny (model X.prog X.w) X.A (subscriptTail value slice v u) (EP X pins σ Q) X.xe s
def MtR (X:Cx) (id:String) (r:V->List V->Hp->VK->Prop):Prop :=
 ∀ (pins:List (Addr × Obj)) (s:Shared) (σ:St) (H:Hp) (x:V) (xs:List V) (v:Value) (us:List Value) (Q:VK),Inv X pins σ H s->wn x v->vp xs us->r x xs H Q ->
  wpAny (model X.prog X.w) X.A (call (.builtin id) (v :: us)) (EP X pins σ Q) X.xe s
section
variable {X:Cx} {a b:Expr} {ta tb:TE} {pos:Pos}
theorem yal {r:R2} (hr:IxR X r) (ha:PE X a ta) (hb:PE X b tb) (hs:yls b):PE X (.Subscript a b pos) (tOp r ta tb):=by
 intro pins s σ H Q I h
 exact Subscript_ (yt8 ha hb I h fun v u s2 x y H2 I2 rx ry q=>hr a b pins s2 σ H2 x y v u Q I2 rx ry q (hs _ _))
def ysj (K:W.Frag):R2:=fun x y H Q=>∃ p xs i v,x=.ref p/\y=.int i/\SqL K H p xs/\atI xs i=some v/\Q v H
def yuj (K:W.Frag):R2:=fun x y H Q=>∃ p xs i v,x=.ref p/\y=.int i/\SqT K H p xs/\atI xs i=some v/\Q v H
theorem zr:IxR X (ysj X.K):=by
 intro value slice pins s σ H x y v u Q I rx ry h hs
 obtain ⟨p,xs,i,z,rfl,rfl,hq,he,q⟩:=h
 cases rx
 obtain ⟨t,rfl⟩:=ry
 obtain ⟨its,r,pl,hz⟩:=I.list hq
 obtain ⟨j,h1,h2,h3,h4,h5⟩:=yhl he
 obtain ⟨w,ew,rw'⟩:=r.get h2
 have hl:=r.length
 have hn:=yh9
 have fin:EP X pins σ Q w s:=⟨z,H,I,rw',q⟩
 by_cases h0:0 <= i
 ·have hj:i.toNat=j:=by
   rw [seqIndex_of h0 h5] at h1
   exact Option.some.inj h1
  exact item_listR pl.isList h0 (by omega) (by rw [hj]; simpa using ew) fin hs
 ·have hj:(i+(its.toArray.size:Int)).toNat=j:=by
   rw [seqIndex_neg (by omega) h4] at h1
   rw [List.size_toArray,<- hl]
   exact Option.some.inj h1
  exact subscriptTail_builtinR (x:=w) pl.isList.typeIs slot_list_getitem.lookup
   (wpAny_getItem_list_neg (Q:=fun r s'=>r=w/\EP X pins σ Q r s') pl.isList (by omega) (by rw [List.size_toArray] <;> omega) (by omega) (by rw [hj]; simpa using ew) ⟨rfl,fin⟩) hs
theorem ye6:IxR X (yuj X.K):=by
 intro value slice pins s σ H x y v u Q I rx ry h hs
 obtain ⟨p,xs,i,z,rfl,rfl,hq,he,q⟩:=h
 cases rx
 obtain ⟨t,rfl⟩:=ry
 obtain ⟨its,r,pl,hz⟩:=I.tuple hq
 obtain ⟨j,h1,h2,h3,h4,h5⟩:=yhl he
 obtain ⟨w,ew,rw'⟩:=r.get h2
 have hl:=r.length
 have hn:=yh9
 have fin:EP X pins σ Q w s:=⟨z,H,I,rw',q⟩
 exact subscriptTail_builtinR (x:=w) pl.typeIs slot_tuple_getitem.lookup
  (getItem_tuple (j:=j) (Q:=fun r s'=>r=w/\EP X pins σ Q r s') pl (by omega) (by omega) (by rw [List.size_toArray,<- hl]; exact h1) (by simpa using ew) ⟨rfl,fin⟩) hs
theorem ycc (lo hi:Option Int) (n:Nat):(sliceBounds lo hi none n).1=((HT.sIx n 0 lo:Nat):Int)/\(sliceBounds lo hi none n).2.1=((HT.sIx n n hi:Nat):Int)/\(sliceBounds lo hi none n).2.2=1:=by
 refine ⟨?_,?_,rfl⟩
 ·cases lo with
  | none=>simp [sliceBounds,HT.sIx]
  | some i =>
   simp only [sliceBounds,HT.sIx,Option.getD_none,show (1:Int) > 0 by decide,if_true]
   by_cases h:i < 0
   ·simp only [h,if_true] <;> omega
   ·simp only [h,if_false] <;> omega
 ·cases hi with
  | none=>simp [sliceBounds,HT.sIx]
  | some i =>
   simp only [sliceBounds,HT.sIx,Option.getD_none,show (1:Int) > 0 by decide,if_true]
   by_cases h:i < 0
   ·simp only [h,if_true] <;> omega
   ·simp only [h,if_false] <;> omega
theorem ya5 (its:List Value) (lo hi:Option Int):slicePick its.toArray lo hi none=((its.drop (HT.sIx its.length 0 lo)).take (HT.sIx its.length its.length hi - HT.sIx its.length 0 lo)).toArray:=by
 obtain ⟨h1,h2,h3⟩:=ycc lo hi its.toArray.size
 unfold slicePick
 rw [h1,h2,h3]
 simp only [sliceRange_one,pick_run,List.size_toArray] <;> rfl
def yut (K:W.Frag):V->Option Int->Option Int->Hp->VK->Prop:=fun x lo hi H Q=>∃ a xs,x=.ref a/\SqL K H a xs/\∀ p,H p=none->Q (.ref p) (upd H p (.lst (yeb xs lo hi)))
theorem zq:SlR X (yut X.K):=by
 intro pins s σ H x v vl vu lo hi sl Q I rx hs pl pu h
 obtain ⟨a,xs,rfl,hx,q⟩:=h
 cases rx
 obtain ⟨its,r,ht,hz⟩:=I.list hx
 have hlen:=r.length
 refine ⟨"list",_,slot_list_getitem.lookup,ht.isList.typeIs,?_⟩
 refine wpAny_getItem_list_slice ht.isList hs pl pu .none (by simp) ?_ (by rw [List.size_toArray] <;> omega)
 rw [ya5,<- hlen]
 refine ⟨.ref s.heap.objs.size,_,I.laid (t':=s.toks) (o:=.lst (yeb xs lo hi)) (fun b ob q=>Heap.get?_push_of_some _ q) (Nat.le_refl _) ?_,rfl,q _ (I.hok.fresh (Nat.le_refl _))⟩
 exact ⟨Nat.le_trans (jx xs lo hi) hz,_,0,(r.drop (HT.sIx xs.length 0 lo)).take (HT.sIx xs.length xs.length hi - HT.sIx xs.length 0 lo),Heap.get?_push_size _ rfl⟩
def yc2:V->Bool
 | .non=>true
 | .bl _=>true
 | .int _=>true
 | .str _=>true
 | _=>false
def eqV:V->V->Bool
 | .non,.non=>true
 | .bl a,.bl b=>a == b
 | .bl a,.int b=>(if a then 1 else 0) == b
 | .int a,.bl b=>a == (if b then 1 else 0)
 | .int a,.int b=>a == b
 | .str a,.str b=>a == b
 | _,_=>false
theorem yp7 {A:Around} {s:Shared} {y x:V} {u v:Value} (ry:wn y u) (rx:wn x v) (fy:yc2 y=true) (fx:yc2 x=true):SeqAt.EqAt A s u v (eqV y x):=by
 cases y with
 | non =>
  cases ry
  cases x with
  | non=>cases rx; exact SeqAt.EqAt.same _
  | bl b=>cases rx; exact SeqAt.EqAt.none_bool b
  | int b=>obtain ⟨t,rfl⟩:=rx; exact SeqAt.EqAt.none_int b t
  | str b=>obtain ⟨t,rfl⟩:=rx; exact SeqAt.EqAt.none_str b t
  | _=>exact absurd (show false=true from fx) Bool.false_ne_true
 | bl a =>
  cases ry
  cases x with
  | non=>cases rx; exact SeqAt.EqAt.bool_none a
  | bl b=>cases rx; exact SeqAt.EqAt.bool_bool a b
  | int b=>obtain ⟨t,rfl⟩:=rx; exact SeqAt.EqAt.bool_int a b t
  | str b=>obtain ⟨t,rfl⟩:=rx; exact SeqAt.EqAt.bool_str a b t
  | _=>exact absurd (show false=true from fx) Bool.false_ne_true
 | int a =>
  obtain ⟨t',rfl⟩:=ry
  cases x with
  | non=>cases rx; exact SeqAt.EqAt.int_none a t'
  | bl b=>cases rx; exact SeqAt.EqAt.int_bool a t' b
  | int b=>obtain ⟨t,rfl⟩:=rx; exact SeqAt.EqAt.int_int a t' b t
  | str b=>obtain ⟨t,rfl⟩:=rx; exact SeqAt.EqAt.int_str a t' b t
  | _=>exact absurd (show false=true from fx) Bool.false_ne_true
 | str a =>
  obtain ⟨t',rfl⟩:=ry
  cases x with
  | non=>cases rx; exact SeqAt.EqAt.str_none a t'
  | bl b=>cases rx; exact SeqAt.EqAt.str_bool a t' b
  | int b=>obtain ⟨t,rfl⟩:=rx; exact SeqAt.EqAt.str_int a t' b t
  | str b=>obtain ⟨t,rfl⟩:=rx; exact SeqAt.EqAt.str_str a t' b t
  | _=>exact absurd (show false=true from fx) Bool.false_ne_true
 | _=>exact absurd (show false=true from fy) Bool.false_ne_true
def eqU (x:V) (u:Value):Bool:=match u with
 | .none=>eqV .non x
 | .bool b=>eqV (.bl b) x
 | .int i _=>eqV (.int i) x
 | .str z _=>eqV (.str z) x
 | _=>false
theorem ykz {x y:V} {u:Value} (r:wn y u) (f:yc2 y=true):eqU x u=eqV y x:=by
 cases y with
 | non=>cases r; rfl
 | bl b=>cases r; rfl
 | int i=>obtain ⟨t,rfl⟩:=r; rfl
 | str z=>obtain ⟨t,rfl⟩:=r; rfl
 | _=>exact absurd (show false=true from f) Bool.false_ne_true
theorem yd8 {x:V}:∀ {xs:List V} {us:List Value},vp xs us->xs.all yc2=true->us.any (eqU x)=xs.any fun y=>eqV y x
 | _,_,.nil,_=>rfl
 | y :: xs,u :: us,.cons r t,f=>by
  rw [List.all_cons,Bool.and_eq_true] at f
  rw [List.any_cons,List.any_cons,ykz r f.1,yd8 t f.2]
theorem ybq {A:Around} {s:Shared} {x:V} {v:Value} (rx:wn x v) (fx:yc2 x=true):∀ {xs:List V} {us:List Value},vp xs us->xs.all yc2=true->∀ u∈us,SeqAt.EqAt A s u v (eqU x u)
 | _,_,.nil,_=>fun u hu=>by cases hu
 | y :: xs,u :: us,.cons r t,f=>fun u' hu=>by
  rw [List.all_cons,Bool.and_eq_true] at f
  rcases List.mem_cons.mp hu with rfl | hu
  ·rw [ykz r f.1]; exact yp7 r rx f.1 fx
  ·exact ybq rx fx t f.2 u' hu
def inV (x:V) (xs:List V):Bool:=xs.any fun y=>eqV y x
def rIn (K:W.Frag) (neg:Bool):R2:=fun x y H Q=>∃ p xs,y=.ref p/\(SqL K H p xs\/SqT K H p xs)/\yc2 x=true/\xs.all yc2=true/\Q (.bl (if neg then !inV x xs else inV x xs)) H
theorem ygh:OpR X (compareOp .In) (rIn X.K false):=by
 intro pins s σ H x y v u Q I rx ry h
 obtain ⟨p,xs,rfl,hq,fx,fs,q⟩:=h
 cases ry
 rcases hq with hq | hq
 ·obtain ⟨its,r,pl,hz⟩:=I.list hq
  refine SeqAt.in_listAt (eqU x) pl.isList (fun w hw=>ybq rx fx r fs w (by simpa using hw)) ⟨.bl _,H,I,rfl,?_⟩
  rw [show its.toArray.any (eqU x)=its.any (eqU x) by simp,yd8 r fs]
  exact q
 ·obtain ⟨its,r,pl,hz⟩:=I.tuple hq
  refine SeqAt.in_tupleAt (eqU x) pl (fun w hw=>ybq rx fx r fs w (by simpa using hw)) ⟨.bl _,H,I,rfl,?_⟩
  rw [show its.toArray.any (eqU x)=its.any (eqU x) by simp,yd8 r fs]
  exact q
theorem ve:yak X (.builtin "len") (fun xs H Q=>∃ p ys,xs=[.ref p]/\(SqL X.K H p ys\/SqT X.K H p ys)/\Q (.int ys.length) H):=by
 intro pins s σ H xs us Q I r h
 obtain ⟨p,ys,rfl,hq,q⟩:=h
 obtain ⟨u,rfl,rx⟩:=yid r
 cases rx
 have hn:=yh9
 rcases hq with hq | hq
 ·obtain ⟨its,r',pl,hz⟩:=I.list hq
  have hlen:=r'.length
  exact Calls.call_len_list pl.isList (by simp only [List.size_toArray] <;> omega) ⟨.int ys.length,H,I.tok _,⟨s.toks+1,by rw [List.size_toArray,hlen]⟩,q⟩
 ·obtain ⟨its,r',pl,hz⟩:=I.tuple hq
  have hlen:=r'.length
  exact len_tuple pl (by simp only [List.size_toArray] <;> omega) ⟨.int ys.length,H,I.tok _,⟨s.toks+1,by rw [List.size_toArray,hlen]⟩,q⟩
theorem vi:yak X (.type "list") (fun xs H Q=>∃ p ys,xs=[.ref p]/\(SqL X.K H p ys\/SqT X.K H p ys)/\∀ l,H l=none->Q (.ref l) (upd H l (.lst ys))):=by
 intro pins s σ H xs us Q I r h
 obtain ⟨p,ys,rfl,hq,q⟩:=h
 obtain ⟨u,rfl,rx⟩:=yid r
 cases rx
 have fin:∀ (its:List Value),vp ys its->ys.length <= sizeLine->∀ (h':Heap) (c':Nat),(∀ b o',s.heap.get? b=some o'->h'.get? b=some o') ->
   h'.get? s.heap.objs.size=some { cls:=.type "list",dict:=none,data:=.seq its.toArray c',slots:=#[] }->EP X pins σ Q (.ref s.heap.objs.size) { s with heap:=h' }:=fun its r' hz h' c' kp e =>
  ⟨.ref s.heap.objs.size,_,I.laid (t':=s.toks) kp (Nat.le_refl _) (show wj X.prog X.w _ h' _ (.lst ys) from ⟨hz,its,c',r',e⟩),rfl,q _ (I.hok.fresh (Nat.le_refl _))⟩
 rcases hq with hq | hq
 ·obtain ⟨its,r',pl,hz⟩:=I.list hq
  have hlen:=r'.length
  obtain ⟨o,ho,hc,n,hd⟩:=pl.isList
  exact call_list_seq p (.inl rfl) ho hc hd (fun h' c' kp e=>fin its r' hz h' c' kp e) (by simp only [List.size_toArray] <;> omega)
 ·obtain ⟨its,r',pl,hz⟩:=I.tuple hq
  have hlen:=r'.length
  obtain ⟨o,ho,hc,n,hd⟩:=pl
  exact call_list_seq p (.inr rfl) ho hc hd (fun h' c' kp e=>fin its r' hz h' c' kp e) (by simp only [List.size_toArray] <;> omega)
theorem u9:yak X (.type "tuple") (fun xs H Q=>∃ p ys,xs=[.ref p]/\((SqL X.K H p ys/\∀ l,H l=none->Q (.ref l) (upd H l (.tup ys)))\/(SqT X.K H p ys/\Q (.ref p) H))):=by
 intro pins s σ H xs us Q I r h
 obtain ⟨p,ys,rfl,h⟩:=h
 obtain ⟨u,rfl,rx⟩:=yid r
 cases rx
 rcases h with ⟨hq,q⟩ | ⟨hq,q⟩
 ·obtain ⟨its,r',pl,hz⟩:=I.list hq
  have hlen:=r'.length
  refine call_tuple_list pl.isList (fun h' kp=>?_) (by simp only [List.size_toArray] <;> omega)
  have I1:Inv X pins σ H { s with heap:=h' }:=I.kept (t':=s.toks) kp
  have I2:Inv X pins σ (upd H h'.objs.size (.tup ys)) { s with heap:=h'.push { cls:=.type "tuple",data:=.seq its.toArray } } :=
   I1.laid (t':=s.toks) (fun b o e=>Heap.get?_push_of_some _ e) (Nat.le_refl _) (show wj X.prog X.w _ _ _ (.tup ys) from ⟨hz,its,r',IsTup.new _ _⟩)
  exact ⟨.ref h'.objs.size,_,I2,rfl,q _ (I1.hok.fresh (Nat.le_refl _))⟩
 ·obtain ⟨its,r',pl,hz⟩:=I.tuple hq
  exact call_tuple_same pl ⟨.ref p,H,I,rfl,q⟩
def tyV (K:W.Frag) (T:String) (x:V) (H:Hp):Prop:=match x with
 | .str _=>T="str"
 | .int _=>T="int"
 | .ref p=>(T="list"/\∃ xs,SqL K H p xs)\/(T="tuple"/\∃ o,K.lookup p=some o/\o.cls=.type "tuple"/\o.dict=none) \/
   (T="dict"/\((∃ kvs,H p=some (.dK kvs))\/∃ kvs,H p=some (.dT kvs)))\/(T="set"/\∃ S n,H p=some (.set S n))
 | _=>False
theorem yk8 {pins:List (Addr × Obj)} {σ:St} {H:Hp} {s:Shared} {T:String} {x:V} {v:Value} (I:Inv X pins σ H s) (r:wn x v) (ty:tyV X.K T x H) :
  s.TypeIs v T/\∀ a,v=.ref a->∃ ob,s.heap.get? a=some ob/\ob.dict=none:=by
 cases x with
 | str z =>
  obtain ⟨t,rfl⟩:=r
  cases (show T="str" from ty)
  exact ⟨typeIs_str s z t,fun _ e=>nomatch e⟩
 | int i =>
  obtain ⟨t,rfl⟩:=r
  cases (show T="int" from ty)
  exact ⟨typeIs_int s i t,fun _ e=>nomatch e⟩
 | ref p =>
  cases r
  rcases ty with ⟨rfl,xs,hq⟩ | ⟨rfl,o,hk,hc,hd⟩ | ⟨rfl,hk⟩ | ⟨rfl,S,n,hk⟩
  ·obtain ⟨its,_,pl,_⟩:=I.list hq
   refine ⟨pl.isList.typeIs,fun a e=>?_⟩
   cases e
   obtain ⟨o,n,e,c,hd,_⟩:=pl
   exact ⟨o,e,hd⟩
  ·refine ⟨⟨o,I.kIn p o hk,hc⟩,fun a e=>?_⟩
   cases e
   exact ⟨o,I.kIn _ o hk,hd⟩
  ·have z:∃ o,s.heap.get? p=some o/\o.ExactDict:=by
    rcases hk with ⟨kvs,hk⟩ | ⟨kvs,hk⟩
    ·obtain ⟨_,_,_,_,o,_,_,e,ex,_⟩:=I.hok p _ hk
     exact ⟨o,e,ex⟩
    ·obtain ⟨_,_,_,_,o,_,_,e,ex,_⟩:=I.hok p _ hk
     exact ⟨o,e,ex⟩
   obtain ⟨o,e,ex⟩:=z
   refine ⟨⟨o,e,ex.1⟩,fun a e2=>?_⟩
   cases e2
   exact ⟨o,e,ex.2.1⟩
  ·obtain ⟨o,_,_,_,e,ex,_⟩:=I.hok p _ hk
   refine ⟨⟨o,e,ex.1⟩,fun a e2=>?_⟩
   cases e2
   exact ⟨o,e,ex.2.1⟩
 | _=>exact False.elim ty
def yuf (K:W.Frag) (T:String) (r:V->List V->Hp->VK->Prop) (to:TE):TE:=fun σ H Q=>to σ H fun x H1=>tyV K T x H1/\r x [] H1 Q
def tBM (K:W.Frag) (T:String) (r:V->List V->Hp->VK->Prop) (to:TE) (t:TA):TE:=fun σ H Q=>to σ H fun x H1=>tyV K T x H1/\t σ H1 fun xs H2=>r x xs H2 Q
variable {o e:Expr} {es:List Expr} {to:TE} {t:TA} {name:Str} {apos cpos:Pos} {T id:String} {r:V->List V->Hp->VK->Prop}
theorem yp9 (pa:PlainAttrs T) (slot:Slot T name id) (hty:typeOf (.builtin id)=pure (.type "method_descriptor")) (hm:MtR X id r) (ho:PE X o to)
  (hbase:attributeBase o name X.env (eval o X.env)=eval o X.env:=by rfl) (hline:(apos.endLine == cpos.line)=true:=by rfl):PE X (.Call (.Attribute o name apos) [] [] cpos) (yuf X.K T r to):=by
 intro pins s σ H Q I h
 refine wpAny_Call_method0_late hbase hline (thn (ho pins s σ H _ I h) fun v s1 ⟨x,H1,I1,r1,ty,q1⟩=>?_)
 obtain ⟨h1,h2⟩:=yk8 I1 r1 ty
 exact ⟨T,id,pa,slot,hty,h1,h2,Calls.callWith_builtin rfl (PySem.evalArgs_none (hm pins s1 σ H1 x [] v [] Q I1 r1 .nil q1))⟩
theorem yjv (pa:PlainAttrs T) (slot:Slot T name id) (hty:typeOf (.builtin id)=pure (.type "method_descriptor")) (hm:MtR X id r) (ho:PE X o to) (ha:PA X (e :: es) t)
  (hbase:attributeBase o name X.env (eval o X.env)=eval o X.env:=by rfl)
  (hfew:((backTo cpos (starEach (e :: es) X.env)).all (fun x=>!x.1) && (backToKw cpos (keywordEach [] X.env)).all (fun x=>x.1.isSome)
   && decide ((e :: es).length+([]:List Keyword).length+(if ([]:List Keyword).isEmpty then 0 else 1) < 30))=true:=by rfl)
  (hline:(apos.endLine == cpos.line)=true:=by rfl) (hs:starEach (e :: es) X.env=(false,eval e X.env) :: starEach es X.env:=by rfl) (hplain:(backTo cpos (starEach es X.env)).any (·.1)=false:=by rfl) :
  PE X (.Call (.Attribute o name apos) (e :: es) [] cpos) (tBM X.K T r to t):=by
 intro pins s σ H Q I h
 refine wpAny_Call_method_late hbase hfew hline rfl (thn (ho pins s σ H _ I h) fun v s1 ⟨x,H1,I1,r1,ty,q1⟩=>?_)
 obtain ⟨h1,h2⟩:=yk8 I1 r1 ty
 refine ⟨T,id,pa,slot,hty,h1,h2,?_⟩
 have hA:=ha cpos pins s1 σ H1 _ I1 q1
 rw [hs] at hA ⊢
 refine Calls.callWith_builtin (by show (false || (backTo cpos (starEach es X.env)).any (·.1))=false; rw [hplain] <;> rfl) (Calls.evalArgs_plain ?_)
 exact thn hA fun us s2 ⟨vs,H2,I2,r2,q2⟩=>hm pins s2 σ H2 x vs v us Q I2 r1 r2 q2
end
end L2
namespace L2
open PySem PySem.Spec PyProof.Rows
def MtM (X:Cx) (id:String) (r:V->List V->Hp->VK->Prop):Prop :=
 ∀ (pins:List (Addr × Obj)) (s:Shared) (σ:St) (H:Hp) (x:V) (xs:List V) (v:Value) (us:List Value) (Q:VK),Inv X pins σ H s->wn x v->vp xs us->r x xs H Q ->
  wpAny (model X.prog X.w) X.A (call (.builtin id) (v :: us)) (EP X pins σ Q) X.xe s
theorem vp.one:∀ {x:V} {us:List Value},vp [x] us->∃ u,us=[u]/\wn x u
 | _,_,.cons r .nil=>⟨_,rfl,r⟩
theorem vp.zero:∀ {us:List Value},vp [] us->us=[]
 | _,.nil=>rfl
theorem vp.rep {xs:List V} {us:List Value} (h:vp xs us):∀ k:Nat,vp (List.replicate k xs).flatten (List.replicate k us).flatten
 | 0=>.nil
 | k+1=>by
  rw [List.replicate_succ,List.replicate_succ,List.flatten_cons,List.flatten_cons]
  exact vp.append h (vp.rep h k)
theorem ycr (its:List Value):∀ (k:Nat) (acc:List Value),
  List.foldl (fun x1 x2=>x1++x2) acc.toArray (List.replicate k its.toArray)=(acc++(List.replicate k its).flatten).toArray
 | 0,acc=>by simp
 | k+1,acc=>by
  have e:acc.toArray++its.toArray=(acc++its).toArray:=by simp
  have e2:(acc++its)++(List.replicate k its).flatten=acc++(List.replicate (k+1) its).flatten:=by
   rw [List.replicate_succ,List.flatten_cons,List.append_assoc]
  rw [<- e2,<- ycr its k (acc++its),<- e,List.replicate_succ,List.foldl_cons]
section
variable {X:Cx} {pins:List (Addr × Obj)} {σ:St} {H:Hp} {s:Shared} {l b:Addr} {xs ys zs:List V}
theorem Inv.lset {its its':List Value} {n:Nat} {f:Array Value->Array Value} {t':Nat} (I:Inv X pins σ H s) (hH:H l=some (.lst xs))
  (e:s.heap.get? l=some { cls:=.type "list",data:=.seq its.toArray n }) (hf:f its.toArray=its'.toArray) (hv:vp ys its') (hz:ys.length <= sizeLine) :
  Inv X pins σ (upd H l (.lst ys)) { s with heap:=s.heap.update l (Obj.mapSeq f),toks:=t' }:=by
 have q:=PySem.IsL.update e f
 rw [hf] at q
 refine I.write (x:=l) (e:=l) (by rw [hH]; exact trivial) (.inl rfl) (fun b' u hb hu=>(Heap.get?_update_other s.heap (Obj.mapSeq f) (Ne.symm hb)).trans hu) ⟨_,q⟩ ?_
 exact ⟨hz,its',_,hv,q⟩
theorem Inv.lnew {its:List Value} {t':Nat} (I:Inv X pins σ H s) (hv:vp ys its) (hz:ys.length <= sizeLine) :
  Inv X pins σ (upd H s.heap.objs.size (.lst ys)) { s with heap:=s.heap.push { cls:=.type "list",data:=.seq its.toArray },toks:=t' } :=
 I.laid (fun _ _ q=>Heap.get?_push_of_some _ q) (Nat.le_refl _) ⟨hz,its,0,hv,Heap.get?_push_size _ rfl⟩
theorem Inv.fresh (I:Inv X pins σ H s):H s.heap.objs.size=none:=I.hok.fresh (Nat.le_refl _)
theorem Inv.lstM (I:Inv X pins σ H s) (hH:H l=some (.lst xs)):xs.length <= sizeLine/\∃ (its:List Value) (n:Nat),vp xs its/\xs.length=its.length/\s.heap.get? l=some { cls:=.type "list",data:=.seq its.toArray n }:=by
 obtain ⟨z,its,n,r,e⟩:=I.hok l _ hH
 exact ⟨z,its,n,r,r.length,e⟩
theorem yim {n:Nat} (h:n <= sizeLine):Builtin.List.listTooLong n=false:=by
 unfold Builtin.List.listTooLong
 exact decide_eq_false (by omega)
end
section
variable {X:Cx}
def yhy:V->List V->Hp->VK->Prop:=fun x vs H Q=>∃ l xs y,x=.ref l/\vs=[y]/\H l=some (.lst xs)/\xs.length < sizeLine/\Q .non (upd H l (.lst (xs++[y])))
theorem ww:MtM X "list.append" yhy:=by
 intro pins s σ H x vs v us Q I rx rv h
 obtain ⟨l,xs,y,rfl,rfl,hH,hz,q⟩:=h
 cases rx
 obtain ⟨u,rfl,ru⟩:=rv.one
 obtain ⟨z,its,n,r,hl,e⟩:=I.lstM hH
 refine call_meets F.slot_list_append ⟨_,e,rfl⟩ F.entry_list_append (F.args_list_append_2 _ _) (PySem.list_append l its.toArray n u (by rw [List.size_toArray]; omega)) ⟨e,?_⟩
 refine ⟨.non,_,I.lset (its':=its++[u]) hH e (by simp) (r.append (.cons ru .nil)) ?_,rfl,q⟩
 rw [List.length_append,List.length_singleton]
 omega
def yu8:R2:=fun x y H Q=>∃ l b xs zs,x=.ref l/\y=.ref b/\H l=some (.lst xs)/\H b=some (.lst zs)/\xs.length+zs.length <= sizeLine/\∀ p,H p=none->Q (.ref p) (upd H p (.lst (xs++zs)))
theorem yk5:OpR X (binaryOp .Add) yu8:=by
 intro pins s σ H x y v u Q I rx ry h
 obtain ⟨l,b,xs,zs,rfl,rfl,hH,hB,hz,q⟩:=h
 cases rx
 cases ry
 obtain ⟨z,its,n,r,hl,e⟩:=I.lstM hH
 obtain ⟨z2,its2,n2,r2,hl2,e2⟩:=I.lstM hB
 refine PySem.P.add_list e e2 ?_ (by rw [List.size_toArray,List.size_toArray]; omega)
 have ea:its.toArray++its2.toArray=(its++its2).toArray:=by simp
 rw [ea]
 exact ⟨.ref _,_,I.lnew (t':=s.toks) (r.append r2) (by rw [List.length_append]; omega),rfl,q _ I.fresh⟩
def yu9:R2:=fun x y H Q=>∃ l k xs,x=.ref l/\y=.int k/\H l=some (.lst xs)/\-(2 ^ 63) <= k/\k < 2 ^ 63/\xs.length * k.toNat <= sizeLine /\
 ∀ p,H p=none->Q (.ref p) (upd H p (.lst (List.replicate k.toNat xs).flatten))
theorem ymw {α:Type} (xs:List α) (k:Nat):(List.replicate k xs).flatten.length=k * xs.length:=by
 induction k with
 | zero=>simp
 | succ k ih=>rw [List.replicate_succ,List.flatten_cons,List.length_append,ih,Nat.succ_mul,Nat.add_comm]
theorem yq8:OpR X (binaryOp .Mult) yu9:=by
 intro pins s σ H x y v u Q I rx ry h
 obtain ⟨l,k,xs,rfl,rfl,hH,h1,h2,hz,q⟩:=h
 cases rx
 obtain ⟨t,rfl⟩:=ry
 obtain ⟨z,its,n,r,hl,e⟩:=I.lstM hH
 have hlen:its.toArray.size * k.toNat <= sizeLine:=by rw [List.size_toArray,<- hl]; exact hz
 have hcap:¬ its.toArray.size * k.toNat > (2 ^ 63 - 1) / 8:=by
  have:(sizeLine:Nat) <= (2 ^ 63 - 1) / 8:=by decide
  omega
 have hfit:¬ (!Builtin.List.listFitsIndex k)=true:=by
  rw [fitsIndex_both h1 h2]
  exact Bool.false_ne_true
 have hlong:¬ Builtin.List.listTooLong (its.toArray.size * k.toNat)=true:=by
  rw [yim hlen]
  exact Bool.false_ne_true
 have hnew:List.foldl (fun x1 x2=>x1++x2) #[] (List.replicate (if its.toArray.isEmpty=true then 0 else k.toNat) its.toArray)=(List.replicate k.toNat its).flatten.toArray:=by
  have f0:∀ m:Nat,List.foldl (fun x1 x2=>x1++x2) #[] (List.replicate m its.toArray)=(List.replicate m its).flatten.toArray:=fun m=>by
   have:=ycr its m []
   rw [List.nil_append] at this
   exact this
  rw [f0]
  cases its with
  | nil=>simp
  | cons a r'=>rw [if_neg (by simp)]
 refine wpAny_binaryOp_repeat_ref (T:="list") (U:="int") (by decide) ⟨_,e,rfl⟩ (fun s'=>typeIs_int s' k t) noFill_list_mul F.fills_int_mul F.slot_int_rmul repeat_list F.slot_int_index.lookup
  (call_meets F.slot_int_rmul (typeIs_int s k t) F.entry_int_rmul (F.args_int_rmul_2 _ _) (int___rmul___int_list k t l its.toArray n)
   ⟨e,rfl,⟨_,e,rfl⟩,call_meets F.slot_list_mul ⟨_,e,rfl⟩ F.entry_list_mul (F.args_list_mul_2 _ _) (AutoListH.list___mul___list_int_3 l its.toArray n k t hfit hcap hlong) ⟨e,?_⟩⟩)
 rw [hnew]
 exact ⟨.ref _,_,I.lnew (t':=s.toks) (r.rep k.toNat) (by rw [ymw,Nat.mul_comm]; exact hz),rfl,q _ I.fresh⟩
end
section
variable {prog:Program} {w:World} {A:Around} {E:Value->Shared->Prop} {s:Shared}
end
section
variable {X:Cx}
end
end L2
namespace Att
open PySem PySem.W PySem.Calls PyProof.Rows
theorem jm {P:Params} {h:Heap}:∀ (ns:List Int) (vs:List Value),WellAll P h vs (ns.map WData.int)->IntsAre vs ns:=by
 intro ns
 induction ns with
 | nil =>
  intro vs w
  rw [List.map_nil] at w
  cases w
  exact .nil
 | cons n ns ih =>
  intro vs w
  rw [List.map_cons] at w
  cases w with
  | cons a b =>
   cases a
   exact .cons _ _ (ih _ b)
theorem ygn {l:OpenLaw} {n:Nat} (hn:l.most=some n) {P:Params} {h:Heap} {args:List WData} {vals:List Value}
  (hpre:l.row.toRowW.claim.pre args=true) (hwl:WellAll P h vals args) :
  ∃ a vs ns,vals=[Value.ref a]/\args=[WData.list (ns.map WData.int)]/\h.get? a=some { cls:=.type "list",data:=.seq vs.toArray }/\IntsAre vs ns/\ns.length <= n:=by
 have hsh:WShape.hasAll [] args [.list .int]=true:=(pre_splitW hpre).1
 have hc:l.pre.holds [] { args:=args }=true:=(pre_splitW hpre).2
 obtain ⟨d,r,rfl,h1,h2⟩:=hasAllW_cons hsh
 obtain rfl:=hasAllW_nil h2
 obtain ⟨xs,rfl,h3⟩:=hasW_list h1
 obtain ⟨ns,rfl⟩:=items_int h3
 have hlen:ns.length <= n:=by
  unfold OpenLaw.pre at hc
  have h4:(WTm.not (.lt (.lit (.int (n:Int))) (.len (.arg 0)))).holds [] { args:=[.list (ns.map .int)] }=true:=by
   have h4:=(holds_andW hc).1
   rw [hn] at h4
   exact h4
  have h5:=condW_of h4 (w_not (w_lt w_lit (w_len_list (w_arg rfl))))
  rw [List.length_map] at h5
  refine Nat.le_of_not_lt fun q=>?_
  have q':(n:Int) < ((ns.length:Nat):Int):=by omega
  first
   | (rw [decide_eq_true q'] at h5; exact absurd h5 (by decide))
   | (simp at h5; omega)
 cases hwl with
 | cons w1 w2 =>
  cases w2
  cases w1 with
  | list ho hall=>exact ⟨_,_,ns,rfl,rfl,ho,jm ns _ hall,hlen⟩
theorem yhi (l:OpenLaw) (args:List WData):l.row.toRowW.claim.post args (.bool true) args=true :=
 postW_of (r:=l.row.toRowW) (X:=(true == true))
  (show WShape.has [] (.bool true) .bool=true by first | rfl | decide | simp [WShape.has,WShape.arms,WShape.armsAll])
  (show (WTm.eq .res (.lit (.bool true))).value [] { args:=args,res:=some (.bool true),after:=args }=some (.bool (true == true)) from w_eq_bool (w_res rfl) w_lit) rfl
theorem attach_call {l:OpenLaw} {n:Nat} {q:Program} {loose:List Str} {XP:(Str->Option Value)->Heap->Prop} {YP:World->Heap->Prop} {d:DefRec}
  (hn:l.most=some n) (hdf:d.params.defaults=[])
  (call:∀ (w:World) (s₀ s₁:Shared) (mg mb:Str->Option Value) (fa:Addr) (o:Obj) (pm cd doc:Value) (a:Addr) (vs:List Value) (ns:List Int),
   Ground q loose [] XP w s₀ mg mb s₁.heap->YP w s₁.heap ->
   s₁.heap.get? fa=some o->o.data=.func (docDef d.name d.params d.body d.scope pm cd doc)->s₁.heap.CodeRec cd d.name->mg d.name=some (.ref fa) ->
   s₁.heap.get? a=some { cls:=.type "list",data:=.seq vs.toArray }->IntsAre vs ns->ns.length <= n->s₁.gens=#[] ->
   codeAny (model l.prog w) callerA (.call (.ref fa) ⟨[.ref a],[]⟩) (fun r s'=>r=.ok (.ret (.bool true))/\OldK s₁.heap s'.heap/\s'.os=s₁.os/\AllBare s'.gens) s₁) :
  WalkO q loose XP YP l.row.toRowW d [] (fun f vs=>PySem.call f vs):=by
 intro w s₀ s₁ mg mb G Y fa o pm cd doc dV kV ho hd hcd hD hmg hg args vals as hpre hlay hrd hwl hlo
 obtain rfl:dV=.none:=Dflts.none hD hdf
 obtain rfl:kV=.none:=Dflts.noKw hD
 obtain ⟨a,vs,ns,rfl,rfl,hobj,hints,hlen⟩:=ygn hn hpre hwl
 refine enter_call (codeAny_mono (call w s₀ s₁ mg mb fa o pm cd doc a vs ns G Y ho (fd_plain hd) hcd hmg hobj hints hlen hg) fun r s' hq=>?_)
 obtain ⟨rfl,h2,h3,h4⟩:=hq
 exact ⟨.inl ⟨.bool true,.bool true,[],rfl,fun _=>rfl,.bool true,yhi l _,fun _=>⟨List.Pairwise.nil,fun _ hm=>(nomatch hm)⟩⟩,h2,h3,h4⟩
section
variable {prog:Program} {w:World} {A:Around} {E:Value->Shared->Prop} {s:Shared} {K:Frag}
def yuc (h:Heap) (L d:Addr):List (Addr × Obj):=(List.range h.objs.size).filterMap fun a=>if a=L\/a=d then none else (h.get? a).map fun o=>(a,o)
end
end Att
namespace L2
open PySem PySem.Spec PyProof.Rows
theorem yct:∀ {vs:List Value} {ns:List Int},IntsAre vs ns->vp (ns.map V.int) vs
 | _,_,.nil=>.nil
 | _,_,.cons n t h=>.cons ⟨t,rfl⟩ (yct h)
def yt4 (H:Hp):Prop:=∀ b,H b=none\/∃ o xs,H b=some (.frz o (.lst xs))
theorem yiw {P:Program} {w:World} {K:W.Frag} {mg mb:Str->Option Value} {CX:CXT} {k:Nat} {fa a:Addr} {fd:FuncData} {x:Str} {sp:Sp} {s₁:Shared} {vs:List Value} {ns:List Int}
  (KX:K.In s₁.heap) (hns:s₁.heap.Ns mainGlobals mg) (hb:s₁.heap.Ns builtinsNs mb) (hbb:∀ x:Str,x≠"__name__"->mb x=bootBuiltins x) (hlim:s₁.heap.NoLimit) (hg:s₁.gens=#[])
  (ha:s₁.heap.get? a=some { cls:=.type "list",data:=.seq vs.toArray }) (hi:IntsAre vs ns) (hl:ns.length <= sizeLine) (hr:ut k callerA)
  (F:∀ base:Heap,K.In base->base.Ns mainGlobals mg->we P w K mg base CX k fa fd [x] sp) (hbind:∀ (s:Shared) (u:Value),BindsTo s fd ⟨[u],[]⟩ [(x,u)])
  (hsp:∀ H:Hp,yt4 H->SqL K H a (ns.map V.int)->sp [.ref a] H (fun v _=>v=.bl true) fun _ _ _=>False)
  (hCX:∀ H e s',CX [] H s₁ (fun _ _ _=>False) e s'->False) :
  codeAny (model P w) callerA (.call (.ref fa) ⟨[.ref a],[]⟩) (fun r s'=>r=.ok (.ret (.bool true))/\OldK s₁.heap s'.heap/\s'.os=s₁.os/\AllBare s'.gens) s₁:=by
 have rv:=yct hi
 have lenV:=hi.length
 have core:∀ H:Hp,yt4 H->SqL K H a (ns.map V.int)->HOk P w H s₁.heap->(∀ b,H b≠none->b=a)->(H a≠none->K.lookup a=none) ->
   codeAny (model P w) callerA (.call (.ref fa) ⟨[.ref a],[]⟩) (fun r s'=>r=.ok (.ret (.bool true))/\OldK s₁.heap s'.heap/\s'.os=s₁.os/\AllBare s'.gens) s₁:=by
  intro H hO hS hok hA hK
  have base_of:∀ {b:Addr} {o:Obj},s₁.heap.get? b=some o->H b=none->(yj1 s₁.heap H).get? b=some o:=fun e n=>yio e n
  have noA:∀ {b:Addr} {o:Obj} {es:Array DictEntry} {ep:Nat},s₁.heap.get? b=some o->o.data=.dict es ep->H b=none:=fun {b o es ep} e d=>by
   cases q:H b with
   | none=>rfl
   | some u =>
    have e':b=a:=hA b (by rw [q]; simp)
    subst e'
    rw [ha] at e; cases e
    have d':Data.seq vs.toArray _=Data.dict es ep:=d
    cases d'
  have nsK:∀ {b:Addr} {m:Str->Option Value},s₁.heap.Ns b m->(yj1 s₁.heap H).Ns b m:=fun {b m} ⟨o,es,ep,e,d,r⟩=>⟨o,es,ep,base_of e (noA e d),d,r⟩
  have hKb:K.In (yj1 s₁.heap H):=fun b o e=>base_of (KX b o e) (by
   cases q:H b with
   | none=>rfl
   | some u =>
    have e':b=a:=hA b (by rw [q]; simp)
    subst e'
    rw [hK (by rw [q]; simp)] at e; cases e)
  have hM:Mod K mg (yj1 s₁.heap H):=⟨hKb,nsK hns,⟨mb,nsK hb,hbb⟩,let ⟨mc,h1,h2⟩:=hlim; ⟨mc,nsK h1,h2⟩⟩
  have e0:yop P w K mg (yj1 s₁.heap H) callerA [] s₁ H:=⟨rfl,hM,fun b o e=>ylg e,Nat.le_of_eq (ygq _ _),trivial,fun b hb=>absurd (show b∈([]:List Addr) from hb) (by simp),hok,.of_eq hg⟩
  refine codeAny_mono ((F _ hKb (nsK hns)).run callerA [] s₁ H ⟨[.ref a],[]⟩ [.ref a] [.ref a] _ _ hr e0 (hbind s₁ (.ref a)) (.cons rfl .nil) (hsp H hO hS)) fun r s' h=>?_
  cases r with
  | error e=>exact (hCX H e s' h).elim
  | ok fl =>
   cases fl with
   | next=>exact False.elim h
   | brk=>exact False.elim h
   | cont=>exact False.elim h
   | ret u =>
    obtain ⟨v,H',os,bare,un,hok',r',q⟩:=h
    have q':v=.bl true:=q
    subst q'
    obtain rfl:u=Value.bool true:=r'
    refine ⟨rfl,OldK.of_keep fun b o e=>?_,os,bare⟩
    cases q:H b with
    | none=>exact un.keep b o e q (by intro z; exact absurd (show b∈([]:List Addr) from z) (by simp)) (by simp)
    | some u =>
     rcases hO b with z | ⟨ob,xs,z⟩
     ·rw [q] at z; cases z
     ·have z2:=un.frzs b ob _ z
      obtain ⟨e1,_⟩:=hok b _ z
      obtain ⟨e2,_⟩:=hok' b _ z2
      rw [e] at e1; cases e1
      exact e2
 cases hk:K.lookup a with
 | some o =>
  have e:=KX a o hk
  rw [ha] at e
  cases e
  refine core (fun _=>none) (fun _=>.inl rfl) (.inr ⟨_,vs.toArray,_,hk,rfl,rfl,rfl,by rw [List.size_toArray,lenV]; exact hl,by simpa using rv⟩) (fun b u z=>by have z':(none:Option HO)=some u:=z; cases z') (fun b z=>absurd rfl z) fun z=>absurd rfl z
 | none =>
  refine core (fun b=>if b=a then some (.frz { cls:=.type "list",data:=.seq vs.toArray } (.lst (ns.map V.int))) else none) (fun b=>?_) (.inl (.inr ⟨{ cls:=.type "list",data:=.seq vs.toArray },if_pos rfl⟩)) (fun b u z=>?_) (fun b z=>?_) fun _=>hk
  ·by_cases hb:b=a
   ·exact .inr ⟨_,_,if_pos hb⟩
   ·exact .inl (if_neg hb)
  ·by_cases hb:b=a
   ·have z':=(if_pos hb).symm.trans z
    cases z'
    subst hb
    exact ⟨ha,by rw [List.length_map]; exact hl,vs,_,rv,ha⟩
   ·have z':=(if_neg hb).symm.trans z
    cases z'
  ·by_cases hb:b=a
   ·exact hb
   ·exact absurd (if_neg hb) z
end L2
namespace L2
open PySem PySem.Spec PyProof.Rows
theorem walk_of {l:W.OpenLaw} {n k:Nat} {q:Program} {loose:List Str} {XP:(Str->Option Value)->Heap->Prop} {YP:World->Heap->Prop} {d:DefRec} {K:Params->W.Frag} {CX:World->CXT} {sp:World->Sp} {x:Str}
  (hn:l.most=some n) (hn2:n <= sizeLine) (hdf:d.params.defaults=[]) (hr:ut k callerA)
  (hY:∀ (w:World) (h:Heap),YP w h->(K w.params).In h)
  (F:∀ (w:World) (mg:Str->Option Value) (fa:Addr) (h:Heap),(K w.params).In h->h.Ns mainGlobals mg->mg d.name=some (.ref fa) ->
   ∃ fd:FuncData,(∀ (s:Shared) (u:Value),BindsTo s fd ⟨[u],[]⟩ [(x,u)]) /\
    ∀ base:Heap,(K w.params).In base->base.Ns mainGlobals mg->we l.prog w (K w.params) mg base (CX w) k fa fd [x] (sp w))
  (hsp:∀ (w:World) (H:Hp) (a:Addr) (ns:List Int),ns.length <= n->yt4 H->SqL (K w.params) H a (ns.map V.int)->sp w [.ref a] H (fun v _=>v=.bl true) fun _ _ _=>False)
  (hCX:∀ (w:World) (H:Hp) (s:Shared) (e:Value) (s':Shared),CX w [] H s (fun _ _ _=>False) e s'->False) :
  W.WalkO q loose XP YP l.row.toRowW d [] (fun f vs=>PySem.call f vs):=by
 refine Att.attach_call hn hdf fun w s₀ s₁ mg mb fa o pm cd doc a vs ns G Y ho hd hcd hmg hobj hints hlen hg=>?_
 have KX:=hY w _ Y
 obtain ⟨fd,hb,hF⟩:=F w mg fa _ KX G.T.g hmg
 exact yiw KX G.T.g G.T.b G.T.builtins G.T.nolimit hg hobj hints (Nat.le_trans hlen hn2) hr hF hb (fun H hO hS=>hsp w H a ns hlen hO hS) fun H e s'=>hCX w H s₁ e s'
end L2
namespace L2
open PySem PySem.Spec PyProof.Rows
def y0 (s:Stmt) (j:Nat):Stmt:=match s with
 | .ClassDef _ _ _ body _ _ _ _ _ _ _=>body.getD j (.Pass ⟨0,0,0,0⟩)
 | _=>.Pass ⟨0,0,0,0⟩
def wy (s:Stmt):Arguments:=match s with
 | .FunctionDef _ a _ _ _ _ _ _ _ _=>a
 | _=>{ posonlyargs:=[],args:=[],vararg:=none,kwonlyargs:=[],kw_defaults:=[],kwarg:=none,defaults:=[] }
def wr (s:Stmt):List Stmt:=match s with
 | .FunctionDef _ _ b _ _ _ _ _ _ _=>b
 | _=>[]
def yg (s:Stmt):Scope:=match s with
 | .FunctionDef _ _ _ _ _ _ sc _ _ _=>sc
 | _=>{ kind:=.function,names:=[],isGenerator:=false,isCoroutine:=false }
abbrev CX0:CXT:=fun _ _ _ _ _ _=>False
abbrev E0:XK:=fun _ _ _=>False
theorem yu {X:Cx}:zu CX0 X E0:=fun _ _ _ _ _ _ _ h=>h.elim
structure Fun (K:W.Frag) (x qual:Str) (st:Stmt) (f:Addr) (fd:FuncData):Prop where
 ex:∃ (oc:Value) (od:Option Addr) (kV doc pm:Value) (an:Option Addr) (cdv ct:Value) (osl:Array (Option Value)),
  fd=W.fnOf x qual (wy st) (wr st) (yg st) .none kV doc pm an cdv ct/\K.lookup f=some ⟨oc,od,.func fd,osl⟩/\W.codeIn K cdv qual=true
 kp:W.keepIn K (.ref f)=true
section
variable {P:Program} {w:World} {K:W.Frag} {mg:Str->Option Value} {base:Heap}
theorem Fun.ok {x qual:Str} {st:Stmt} {f:Addr} {fd:FuncData} {N ps:List Str} {k:Nat} {sp:Sp} (F:Fun K x qual st f fd) (S:ym N ps (yg st)) (len:∀ vs H Q E,sp vs H Q E->vs.length=ps.length)
  (hbody:∀ (cdv:Value) (A:Around) (outer:List Env) (s:Shared) (H:Hp) (vs:List V) (Q:VK) (E:XK),ut k (A.deeper (envOfC qual (yg st) s.heap.objs.size f cdv))->sp vs H Q E ->
   ∃ t,PSs (v7 CX0 P w K mg base N qual (yg st) f cdv A outer s H E).nox (wr st) t/\t { nx:=fun _ H'=>Q .non H',rt:=Q } (yah N vs) H):we P w K mg base CX0 (k+1) f fd ps sp:=by
 obtain ⟨oc,od,kV,doc,pm,an,cdv,ct,osl,rfl,lk,hcd⟩:=F.ex
 refine yrx lk hcd S len fun A outer s H vs Q E hr hsp=>?_
 obtain ⟨t,h,q⟩:=hbody cdv A outer s H vs Q E hr hsp
 exact ⟨t,h.nox,q⟩
theorem Fun.binds {x qual:Str} {st:Stmt} {f:Addr} {fd:FuncData} {ps:List Str} (F:Fun K x qual st f fd)
  (h:∀ (kV doc pm:Value) (an:Option Addr) (cdv ct:Value) (us:List Value),us.length=ps.length->bindArgs (W.fnOf x qual (wy st) (wr st) (yg st) .none kV doc pm an cdv ct) ⟨us,[]⟩=pure (ps.zip us)):uk K fd ps []:=by
 obtain ⟨oc,od,kV,doc,pm,an,cdv,ct,osl,rfl,lk,hcd⟩:=F.ex
 exact .all (h kV doc pm an cdv ct)
theorem yj4 {x qual:Str} {st:Stmt} {f:Addr} {oc:Value} {od an:Option Addr} {osl:Array (Option Value)} {kV doc pm cdv ct:Value} (l:K.lookup f=some ⟨oc,od,.func (W.fnOf x qual (wy st) (wr st) (yg st) .none kV doc pm an cdv ct),osl⟩)
  (c:W.codeIn K cdv qual=true) (k:W.keepIn K (.ref f)=true):Fun K x qual st f (W.fnOf x qual (wy st) (wr st) (yg st) .none kV doc pm an cdv ct):=⟨⟨oc,od,kV,doc,pm,an,cdv,ct,osl,rfl,l,c⟩,k⟩
end
theorem yjr {A:Around} {k:Nat} (hr:ut k A):A.units+1 < cLine:=Nat.lt_of_le_of_lt (Nat.add_le_add_left (by decide:1 <= 64) _) hr.units
section
variable {X:Cx}
theorem pv (i:Nat) {x:Str} {pos:Pos} (hN:X.N[i]?=some x:=by rfl) (hv:Vis X.env.scope x:=by first | exact Or.inl rfl | exact Or.inr (Or.inl rfl) | exact Or.inr (Or.inr rfl)) (hd:(x == ("__debug__":Str))=false:=by decide)
  (hcd:(x == ("__classdict__":Str))=false:=by decide):PE X (.Name x pos) (ytw i):=ypk hN hv hd hcd
end
theorem yj0 {A B:Prop} (h:B):if false=true then A else B:=by
 rw [if_neg Bool.false_ne_true]
 exact h
theorem ylb {A B:Prop} (h:A):if true=true then A else B:=by
 rw [if_pos rfl]
 exact h
def y6 (H H':Hp):Prop:=∀ b o,H b=some o->H' b=some o
theorem y6.refl (H:Hp):y6 H H:=fun _ _ h=>h
theorem y6.trans {H H1 H2:Hp} (a:y6 H H1) (b:y6 H1 H2):y6 H H2:=fun c o h=>b c o (a c o h)
theorem y6.free {H H':Hp} (e:y6 H H') {l:Addr} (h:H' l=Option.none):H l=Option.none:=by
 cases q:H l with
 | none=>rfl
 | some o =>
  rw [e l o q] at h
  cases h
theorem y6.seq {K:W.Frag} {H H':Hp} {a:Addr} {xs:List V} (e:y6 H H') (h:SqL K H a xs):SqL K H' a xs:=by
 rcases h with (h | ⟨o,h⟩) | h
 ·exact .inl (.inl (e _ _ h))
 ·exact .inl (.inr ⟨o,e _ _ h⟩)
 ·exact .inr h
end L2
namespace L2
open PySem PySem.Spec PyProof.Rows
section
variable {X:Cx}
theorem vq:yak X (.builtin "isinstance") (fun xs H Q=>∃ x cv t c k,xs=[x,cv]/\wn cv c/\(∀ u,wn cv u->u=c)/\xn X.K H x t/\W.kitOne X.K t c=some k/\Q (.bl k) H):=by
 intro pins s σ H xs us Q I r h
 obtain ⟨x,cv,t,c,k,rfl,_,hc,ty,e,q⟩:=h
 obtain ⟨u,u',rfl,rx,rc⟩:=ynr r
 obtain rfl:=hc u' rc
 exact ygm I rx ty e fun tk=>⟨.bl k,H,I.tok tk,rfl,q⟩
theorem yad {x:Str} {T:String} {pos:Pos} (hg:Gl X x) (hm:X.mg x=none) (hv:bootBuiltins x=some (.type T)) (hn:x≠"__name__":=by decide) (hd:(x == ("__debug__":Str))=false:=by decide):PE X (.Name x pos) (tC (.ty T)):=yma hg hm hv rfl hn hd
theorem vc {x:Str} {i:Int} {t:Tok} {pos:Pos} (hg:Gl X x) (hm:X.mg x=some (.int i t)) (hd:(x == ("__debug__":Str))=false:=by decide):PE X (.Name x pos) (tC (.int i)):=yhq hg hm ⟨t,rfl⟩ hd
theorem yd6 {x:Str} {C:Addr} {pos:Pos} (hg:Gl X x) (hm:X.mg x=some (.ref C)) (hd:(x == ("__debug__":Str))=false:=by decide):PE X (.Name x pos) (tC (.ref C)):=yhq hg hm rfl hd
mutual
inductive RdV (K:W.Frag) (H:Hp):V->PyData->Prop
 | non:RdV K H .non .none
 | bl (b):RdV K H (.bl b) (.bool b)
 | int (i):RdV K H (.int i) (.int i)
 | str (x):RdV K H (.str x) (.str x)
 | lst {a xs ds}:SqL K H a xs->ygc K H xs ds->RdV K H (.ref a) (.list ds)
 | tup {a xs ds}:SqT K H a xs->ygc K H xs ds->RdV K H (.ref a) (.tuple ds)
inductive ygc (K:W.Frag) (H:Hp):List V->List PyData->Prop
 | nil:ygc K H [] []
 | cons {x xs d ds}:RdV K H x d->ygc K H xs ds->ygc K H (x :: xs) (d :: ds)
end
mutual
theorem RdV.reads {pins:List (Addr × Obj)} {σ:St} {H:Hp} {s:Shared} (I:Inv X pins σ H s):∀ {x:V} {d:PyData} {u:Value},RdV X.K H x d->wn x u->∃ as,Reads s.heap u d as
 | _,_,_,.non,r=>by cases r; exact ⟨_,.none⟩
 | _,_,_,.bl _,r=>by cases r; exact ⟨_,.bool _⟩
 | _,_,_,.int _,r=>by obtain ⟨t,rfl⟩:=r; exact ⟨_,.int _ _⟩
 | _,_,_,.str _,r=>by obtain ⟨t,rfl⟩:=r; exact ⟨_,.str _ _⟩
 | _,_,_,.lst hq hs,r=>by
  cases r
  obtain ⟨its,rv,⟨o,n,h1,h2,h3,h4⟩,hz⟩:=I.list hq
  obtain ⟨as,ra⟩:=ygc.reads I hs rv
  exact ⟨_,.list h1 h2 h4 (by simpa using ra)⟩
 | _,_,_,.tup hq hs,r=>by
  cases r
  obtain ⟨its,rv,⟨o,h1,h2,n,h4⟩,hz⟩:=I.tuple hq
  obtain ⟨as,ra⟩:=ygc.reads I hs rv
  exact ⟨_,.tuple h1 h2 h4 (by simpa using ra)⟩
theorem ygc.reads {pins:List (Addr × Obj)} {σ:St} {H:Hp} {s:Shared} (I:Inv X pins σ H s):∀ {xs:List V} {ds:List PyData} {us:List Value},ygc X.K H xs ds->vp xs us->∃ as,ReadsAll s.heap us ds as
 | _,_,_,.nil,.nil=>⟨_,.nil⟩
 | _,_,_,.cons h hs,.cons r rs=>by
  obtain ⟨as,ra⟩:=RdV.reads I h r
  obtain ⟨bs,rb⟩:=ygc.reads I hs rs
  exact ⟨_,.cons ra rb⟩
end
def yt1 (K:W.Frag) (g:Bool->Bool):R2:=fun x y H Q=>∃ d e,RdV K H x d/\RdV K H y e/\SeqAt.shaped d=true/\SeqAt.shaped e=true/\Q (.bl (g (PyData.eqv d e))) H
theorem ykf (hu:X.A.units+64 < cLine):OpR X (compareOp .Eq) (yt1 X.K fun b=>b):=by
 intro pins s σ H x y v u Q I rx ry h
 obtain ⟨d,e,h1,h2,s1,s2,q⟩:=h
 obtain ⟨as,ra⟩:=h1.reads I rx
 obtain ⟨bs,rb⟩:=h2.reads I ry
 exact eq_dataH ra rb s1 s2 hu ⟨.bl _,H,I,rfl,q⟩
theorem zy (hu:X.A.units+64 < cLine):OpR X (compareOp .NotEq) (yt1 X.K fun b=>!b):=by
 intro pins s σ H x y v u Q I rx ry h
 obtain ⟨d,e,h1,h2,s1,s2,q⟩:=h
 obtain ⟨as,ra⟩:=h1.reads I rx
 obtain ⟨bs,rb⟩:=h2.reads I ry
 exact ne_dataH ra rb s1 s2 hu ⟨.bl _,H,I,rfl,q⟩
theorem ycw {K:W.Frag} {H:Hp}:∀ ns:List Int,ygc K H (ns.map V.int) (ns.map PyData.int)
 | []=>.nil
 | n :: r=>.cons (.int n) (ycw r)
theorem jw:∀ ns:List Int,PyData.canLayAll0 (ns.map PyData.int)=true
 | []=>rfl
 | _ :: r=>by simp [PyData.canLayAll0,PyData.canLay0,jw r]
theorem yap:∀ ns:List Int,PyData.depthAll (ns.map PyData.int)=0
 | []=>rfl
 | _ :: r=>by simp [PyData.depthAll,PyData.depth,yap r]
theorem jz:∀ ns ms:List Int,PyData.eqvAll (ns.map PyData.int) (ms.map PyData.int)=decide (ns=ms)
 | [],[]=>by simp [PyData.eqvAll]
 | [],_ :: _=>by simp [PyData.eqvAll]
 | _ :: _,[]=>by simp [PyData.eqvAll]
 | a :: r,b :: t=>by
  simp only [List.map_cons,PyData.eqvAll,PyData.eqv,jz r t]
  by_cases h:a=b <;> by_cases h':r=t <;> simp [h,h']
def ys3 (_ j:Int):Prop:=0 < j/\j < 2 ^ 200
theorem y9:OpR X (binaryOp .FloorDiv) (rI ys3 fun i j=>.int (i / j)):=opI fun i j _ _ _ _ _ hc q=>by
 obtain ⟨h1,h2⟩:=hc
 refine floordiv_int (by omega) ?_ (.inl (PyProof.noPylong_of_log2 ?_))
 ·rw [Int.fdiv_eq_ediv_of_nonneg _ (by omega)]; exact q
 ·have e:j.natAbs < 2 ^ 200:=by omega
  have e':j.natAbs≠0:=by omega
  have:=(Nat.log2_lt e').mpr e
  omega
def yr9 (k:Int):R2:=fun x y H Q=>∃ i j,x=.int i/\y=.int j/\yt5 i j/\i ^ j.toNat=k/\Q (.int k) H
theorem ylt (k:Int):OpR X (binaryOp .Pow) (yr9 k):=by
 intro pins s σ H x y v u Q I rx ry h
 obtain ⟨i,j,rfl,rfl,hc,e,q⟩:=h
 exact yqb pins s σ H (.int i) (.int j) v u Q I rx ry ⟨i,j,rfl,rfl,hc,by show Q (.int (i ^ j.toNat)) H; rw [e]; exact q⟩
def yur (t:TS):TS:=fun D σ H=>∃ M:St->Hp->Prop,t { D with nx:=M } σ H/\∀ σ' H',M σ' H'->D.nx σ' H'
theorem ye7 {st:Stmt} {t:TS} (h:PS X st t):PS X st (yur t):=by
 intro pins s σ H D I ⟨M,h1,h2⟩
 refine thn (h pins s σ H { D with nx:=M } I h1) fun f s1 q=>?_
 cases f with
 | next =>
  obtain ⟨σ',H',I',q⟩:=q
  exact ⟨σ',H',I',h2 σ' H' q⟩
 | ret v=>exact q
 | brk=>exact q
 | cont=>exact q
end
def y7 (nx:St->Hp->Prop) (σ:St) (H:Hp):Prop:=nx σ H
section
variable {K:W.Frag} {σ:St} {H:Hp} {Q:VK} {QB:Bool->Hp->Prop} {QL:List V->Hp->Prop} {v x y:V} {i j:Int} {b:Bool} {ta tb tc te:TE} {t u:TS} {tA tB':TT} {tr:TA} {D:yb6}
 {nx bk ct:St->Hp->Prop} {rt:VK} {A B:Prop}
theorem yo {N:List Str} {vs:List V} {σ':St} (e:yah N vs=σ') (h:t D σ' H):t D (yah N vs) H:=by rw [e]; exact h
theorem yn2 {k:Nat} (e:σ[k]?=some (some v)) (h:Q v H):ytw k σ H Q:=⟨v,e,h⟩
theorem i_c (h:Q v H):tC v σ H Q:=h
theorem yuv {r:R2} (h:ta σ H fun x H1=>tb σ H1 fun y H2=>r x y H2 Q):tOp r ta tb σ H Q:=h
theorem yuz {r:V->Hp->VK->Prop} (h:ta σ H fun x H1=>r x H1 Q):tUn r ta σ H Q:=h
theorem yvd {g:Int->Int->V} (h:Q (g i j) H):rI0 g (.int i) (.int j) H Q:=⟨i,j,rfl,rfl,h⟩
theorem i_I {C:Int->Int->Prop} {g:Int->Int->V} (hc:C i j) (h:Q (g i j) H):rI C g (.int i) (.int j) H Q:=⟨i,j,rfl,rfl,hc,h⟩
theorem i_U {g:Int->V} (h:Q (g i) H):rU g (.int i) H Q:=⟨i,rfl,h⟩
theorem ys4 (h:Q (.bl (decide (i=j))) H):rEq (.int i) (.int j) H Q:=⟨rfl,by
 have e:decide (V.int i=V.int j)=decide (i=j):=by simp
 rw [e]; exact h⟩
theorem ypn (h:ta σ H fun x H'=>∃ k,x=.bl k/\QB k H'):yoc ta σ H QB:=h
theorem yvf (h:ta σ H fun x H'=>∃ k,x=.bl k/\QB k H'):tB ta σ H QB:=h
theorem yu3 {P:Bool->Prop} (h:P b):∃ k,V.bl b=V.bl k/\P k:=⟨b,rfl,h⟩
theorem ylr {r r':R2} (h:ta σ H fun x H1=>tb σ H1 fun y H2=>r x y H2 fun z H3=>∃ k,z=.bl k/\(if k=true then tc σ H3 fun w' H4=>r' y w' H4 Q else Q (.bl false) H3)):yh3 r r' ta tb tc σ H Q:=h
theorem yre (h:ta σ H fun x H1=>∃ c,x=.bl c/\if c=true then tb σ H1 Q else Q (.bl false) H1):yr4 ta tb σ H Q:=h
theorem yq2 (h:ta σ H fun x H1=>∃ c,x=.bl c/\Q (.bl (!c)) H1):yr7 ta σ H Q:=h
theorem yta {t1 t2:TT} (h:t1 σ H fun c H1=>if c=true then t2 σ H1 QB else QB false H1):yul t1 t2 σ H QB:=h
theorem yu0 {t1 t2:TT} (h:t1 σ H fun c H1=>if c=true then QB true H1 else t2 σ H1 QB):tOr t1 t2 σ H QB:=h
theorem ysq {t1:TT} (h:t1 σ H fun c H1=>QB (!c) H1):yug t1 σ H QB:=h
theorem yth (h:tA σ H fun c H1=>if c=true then ta σ H1 Q else tb σ H1 Q):tIf tA ta tb σ H Q:=h
theorem ytm (h:t ⟨u D,D.rt,D.bk,D.ct⟩ σ H):yt9 t u D σ H:=h
theorem yqu (h:nx σ H):yrw ⟨nx,rt,bk,ct⟩ σ H:=h
theorem yso (h:te σ H rt):yum te ⟨nx,rt,bk,ct⟩ σ H:=h
theorem yqj (h:te σ H fun _ H1=>nx σ H1):yr1 te ⟨nx,rt,bk,ct⟩ σ H:=h
theorem yve (h:tA σ H fun c H1=>if c=true then t D σ H1 else u D σ H1):yus tA t u D σ H:=h
theorem yjw {t:TS} (M:St->Hp->Prop) (h1:t ⟨M,rt,bk,ct⟩ σ H) (h2:∀ σ' H',M σ' H'->nx σ' H'):yur t ⟨nx,rt,bk,ct⟩ σ H:=⟨M,h1,h2⟩
theorem ys9 {g:TG} (h:te σ H fun x H1=>g x σ H1 nx):ysh te g ⟨nx,rt,bk,ct⟩ σ H:=h
theorem yqy {sp:Sp} {dvs:List V} {E:XK} (h:tr σ H fun vs H1=>sp (vs++dvs) H1 Q E):yru sp dvs E tr σ H Q:=h
theorem ypr (h:ta σ H fun x H1=>tr σ H1 fun xs H2=>QL (x :: xs) H2):yr3 ta tr σ H QL:=h
theorem ytj (h:QL [] H):yil σ H QL:=h
theorem yu5 {r:List V->Hp->VK->Prop} (h:tr σ H fun vs H1=>r vs H1 Q):tCB r tr σ H Q:=h
theorem ysr (h:tr σ H fun xs H1=>xs.length <= sizeLine/\∀ p,H1 p=none->Q (.ref p) (upd H1 p (.tup xs))):yuo tr σ H Q:=h
theorem ytk (h:tr σ H fun xs H1=>xs.length <= sizeLine/\∀ p,H1 p=none->Q (.ref p) (upd H1 p (.lst xs))):yui tr σ H Q:=h
theorem yaa {C:Addr} {m:Str} {sp:Sp} {dvs:List V} {E:XK} (h:ta σ H fun x H1=>∃ a dx fs,x=.ref a/\H1 a=some (.ins C dx fs)/\fs.lookup m=none/\tr σ H1 fun vs H2=>sp (x :: (vs++dvs)) H2 Q E):yam C m sp dvs E ta tr σ H Q:=h
theorem ys1 {f:Str} (h:ta σ H fun x H1=>∃ a C dx fs v,x=.ref a/\H1 a=some (.ins C dx fs)/\Cls K C/\yq K C f/\fs.lookup f=some v/\Q v H1):ytq K ta f σ H Q:=h
theorem ypd {f:Str} (h:tb σ H fun y H1=>ta σ H1 fun x H2=>∃ a C dx fs,x=.ref a/\H2 a=some (.ins C dx fs)/\Cls K C/\yq K C f/\fs.length < 1000/\y7 nx σ (upd H2 a (.ins C dx (vz f y fs)))):yun K ta tb f ⟨nx,rt,bk,ct⟩ σ H:=h
theorem yuw {r:V->Option Int->Option Int->Hp->VK->Prop} {tl th:TO} (h:te σ H fun x H1=>tl σ H1 fun l H2=>th σ H2 fun u H3=>r x l u H3 Q):tSl r te tl th σ H Q:=h
theorem yi1 {QO:Option Int->Hp->Prop} (h:QO none H):yhr σ H QO:=h
theorem ypi {QO:Option Int->Hp->Prop} (h:ta σ H fun x H1=>∃ i,x=.int i/\QO (some i) H1):yrv ta σ H QO:=h
theorem ysz {P:Int->Prop} (h:P i):∃ k,V.int i=V.int k/\P k:=⟨i,rfl,h⟩
theorem g0 {a0:Option V} {r:St} {N:St->Hp->Prop} (h:N (some v :: r) H):wf 0 v (a0 :: r) H N:=h
theorem g1 {a0 a1:Option V} {r:St} {N:St->Hp->Prop} (h:N (a0 :: some v :: r) H):wf 1 v (a0 :: a1 :: r) H N:=h
theorem g2 {a0 a1 a2:Option V} {r:St} {N:St->Hp->Prop} (h:N (a0 :: a1 :: some v :: r) H):wf 2 v (a0 :: a1 :: a2 :: r) H N:=h
theorem g3 {a0 a1 a2 a3:Option V} {r:St} {N:St->Hp->Prop} (h:N (a0 :: a1 :: a2 :: some v :: r) H):wf 3 v (a0 :: a1 :: a2 :: a3 :: r) H N:=h
theorem g4 {a0 a1 a2 a3 a4:Option V} {r:St} {N:St->Hp->Prop} (h:N (a0 :: a1 :: a2 :: a3 :: some v :: r) H):wf 4 v (a0 :: a1 :: a2 :: a3 :: a4 :: r) H N:=h
theorem g5 {a0 a1 a2 a3 a4 a5:Option V} {r:St} {N:St->Hp->Prop} (h:N (a0 :: a1 :: a2 :: a3 :: a4 :: some v :: r) H):wf 5 v (a0 :: a1 :: a2 :: a3 :: a4 :: a5 :: r) H N:=h
theorem g6 {a0 a1 a2 a3 a4 a5 a6:Option V} {r:St} {N:St->Hp->Prop} (h:N (a0 :: a1 :: a2 :: a3 :: a4 :: a5 :: some v :: r) H):wf 6 v (a0 :: a1 :: a2 :: a3 :: a4 :: a5 :: a6 :: r) H N:=h
theorem g7 {a0 a1 a2 a3 a4 a5 a6 a7:Option V} {r:St} {N:St->Hp->Prop} (h:N (a0 :: a1 :: a2 :: a3 :: a4 :: a5 :: a6 :: some v :: r) H):wf 7 v (a0 :: a1 :: a2 :: a3 :: a4 :: a5 :: a6 :: a7 :: r) H N:=h
theorem g8 {a0 a1 a2 a3 a4 a5 a6 a7 a8:Option V} {r:St} {N:St->Hp->Prop} (h:N (a0 :: a1 :: a2 :: a3 :: a4 :: a5 :: a6 :: a7 :: some v :: r) H):wf 8 v (a0 :: a1 :: a2 :: a3 :: a4 :: a5 :: a6 :: a7 :: a8 :: r) H N:=h
theorem g9 {a0 a1 a2 a3 a4 a5 a6 a7 a8 a9:Option V} {r:St} {N:St->Hp->Prop} (h:N (a0 :: a1 :: a2 :: a3 :: a4 :: a5 :: a6 :: a7 :: a8 :: some v :: r) H):wf 9 v (a0 :: a1 :: a2 :: a3 :: a4 :: a5 :: a6 :: a7 :: a8 :: a9 :: r) H N:=h
theorem g10 {a0 a1 a2 a3 a4 a5 a6 a7 a8 a9 a10:Option V} {r:St} {N:St->Hp->Prop} (h:N (a0 :: a1 :: a2 :: a3 :: a4 :: a5 :: a6 :: a7 :: a8 :: a9 :: some v :: r) H):wf 10 v (a0 :: a1 :: a2 :: a3 :: a4 :: a5 :: a6 :: a7 :: a8 :: a9 :: a10 :: r) H N:=h
theorem g11 {a0 a1 a2 a3 a4 a5 a6 a7 a8 a9 a10 a11:Option V} {r:St} {N:St->Hp->Prop} (h:N (a0 :: a1 :: a2 :: a3 :: a4 :: a5 :: a6 :: a7 :: a8 :: a9 :: a10 :: some v :: r) H):wf 11 v (a0 :: a1 :: a2 :: a3 :: a4 :: a5 :: a6 :: a7 :: a8 :: a9 :: a10 :: a11 :: r) H N:=h
theorem ye1 {n:Nat} {tg:TGs} {a:Addr} {xs:List V} {N:St->Hp->Prop} (hq:SqT K H a xs) (hl:xs.length=n) (h:tg xs σ H N):yox K n tg (.ref a) σ H N:=⟨a,xs,rfl,hq,hl,h⟩
theorem ylq {tg:TG} {us:TGs} {r:List V} {N:St->Hp->Prop} (h:tg v σ H fun σ' H'=>us r σ' H' N):ul tg us (v :: r) σ H N:=⟨v,r,rfl,h⟩
theorem yo8 {N:St->Hp->Prop} (h:N σ H):yj2 [] σ H N:=⟨rfl,h⟩
theorem z5 {p:Prop} [Decidable p] (h1:p->A) (h2:¬ p->B):if decide p=true then A else B:=by
 by_cases h:p
 ·rw [if_pos (decide_eq_true h)]; exact h1 h
 ·rw [if_neg (by simp [h])]; exact h2 h
theorem yig {p:Prop} [Decidable p] (hp:p) (h:A):if decide p=true then A else B:=by rw [if_pos (decide_eq_true hp)]; exact h
theorem ym7 {p:Prop} [Decidable p] (hp:¬ p) (h:B):if decide p=true then A else B:=by rw [if_neg (by simp [hp])]; exact h
theorem yog {p:Prop} [Decidable p] (hp:p) (h:B):if (!decide p)=true then A else B:=by rw [if_neg (by simp [hp])]; exact h
theorem ynw {p:Prop} [Decidable p] (hp:¬ p) (h:A):if (!decide p)=true then A else B:=by rw [if_pos (by simp [hp])]; exact h
theorem yu7 {p:Prop} [Decidable p] (h1:p->B) (h2:¬ p->A):if (!decide p)=true then A else B:=by
 by_cases h:p
 ·exact yog h (h1 h)
 ·exact ynw h (h2 h)
theorem ysx (h:B):if (!true)=true then A else B:=yj0 h
theorem ytg (h:A):if (!false)=true then A else B:=ylb h
theorem zj {f:Str} {r:List (Str × V)}:List.lookup f ((f,v) :: r)=some v:=by simp [List.lookup]
theorem yp {f g:Str} {r:List (Str × V)} {o:Option V} (h:¬ f=g) (e:List.lookup f r=o):List.lookup f ((g,v) :: r)=o:=by
 have h':(f == g)=false:=by simp [h]
 simp [List.lookup,h',e]
theorem vx {f:Str}:List.lookup f ([]:List (Str × V))=none:=rfl
theorem zz {f:Str} {r:List (Str × V)}:vz f v ((f,x) :: r)=(f,v) :: r:=by simp [vz]
theorem v8 {f g:Str} {r r':List (Str × V)} (h:¬ g=f) (e:vz f v r=r'):vz f v ((g,x) :: r)=(g,x) :: r':=by simp [vz,h,e]
theorem xj {f:Str}:vz f v []=[(f,v)]:=rfl
theorem x9 {a c:Addr} {o o':HO} (hn:H a=none) (h:H c=some o):upd H a o' c=some o:=by rw [yi (yd h hn)]; exact h
theorem yj {a c:Addr} {o o':HO} (hn:c≠a) (h:H c=some o):upd H a o' c=some o:=by rw [yi hn]; exact h
theorem y1 {a:Addr} {o:HO} (hn:H a=none):y6 H (upd H a o):=fun _ _ h=>x9 hn h
theorem y6.tup {H H':Hp} {a:Addr} {xs:List V} (e:y6 H H') (h:SqT K H a xs):SqT K H' a xs:=by
 rcases h with (h | ⟨o,h⟩) | h
 ·exact .inl (.inl (e _ _ h))
 ·exact .inl (.inr ⟨o,e _ _ h⟩)
 ·exact .inr h
theorem yqo {C:Addr} {sp:Sp} {dvs:List V} {E:XK} (h:tr σ H fun vs H1=>∀ x dx,H1 x=none->H1 dx=none->dx≠x->sp (.ref x :: (vs++dvs)) (upd (upd H1 dx (.own x)) x (.ins C dx [])) (fun v H2=>v=.non/\Q (.ref x) H2) E):ynb C sp dvs E tr σ H Q:=h
theorem yva {T:String} {r:V->List V->Hp->VK->Prop} (h:ta σ H fun x H1=>tyV K T x H1/\tr σ H1 fun xs H2=>r x xs H2 Q):tBM K T r ta tr σ H Q:=h
theorem ytn {T:String} {r:V->List V->Hp->VK->Prop} (h:ta σ H fun x H1=>tyV K T x H1/\r x [] H1 Q):yuf K T r ta σ H Q:=h
theorem yjp {p:Addr} {xs:List V} (h:H p=some (.lst xs)) (k:A):tyV K "list" (.ref p) H/\A:=⟨.inl ⟨rfl,_,SqL.of h⟩,k⟩
theorem z6 {l:Addr} {xs:List V} (h:H l=some (.lst xs)) (hz:xs.length < sizeLine) (k:Q .non (upd H l (.lst (xs++[y])))):yhy (.ref l) [y] H Q:=⟨l,xs,y,rfl,rfl,h,hz,k⟩
theorem yea {p:Addr} {ys:List V} {P:List V->Prop} (h:SqL K H p ys) (k:P ys):∃ p' ys',[V.ref p]=[V.ref p']/\(SqL K H p' ys'\/SqT K H p' ys')/\P ys':=⟨p,ys,rfl,.inl h,k⟩
theorem yku {p:Addr} {ys:List V} {P:List V->Prop} (h:SqT K H p ys) (k:P ys):∃ p' ys',[V.ref p]=[V.ref p']/\(SqL K H p' ys'\/SqT K H p' ys')/\P ys':=⟨p,ys,rfl,.inr h,k⟩
theorem xi {p:Addr} {ys:List V} {P:List V->Prop} (h:SqL K H p ys) (k:P ys):∃ p' ys',[V.ref p]=[V.ref p']/\(SqL K H p' ys'\/SqT K H p' ys')/\P ys':=⟨p,ys,rfl,.inl h,k⟩
theorem yif {p:Addr} {xs:List V} (h:SqL K H p xs) (e:atI xs i=some v) (k:Q v H):ysj K (.ref p) (.int i) H Q:=⟨p,xs,i,v,rfl,rfl,h,e,k⟩
theorem yjt {p:Addr} {xs:List V} (h:SqT K H p xs) (e:atI xs i=some v) (k:Q v H):yuj K (.ref p) (.int i) H Q:=⟨p,xs,i,v,rfl,rfl,h,e,k⟩
theorem yga {p:Addr} {xs:List V} {lo hi:Option Int} (h:SqL K H p xs) (k:∀ q,H q=none->Q (.ref q) (upd H q (.lst (yeb xs lo hi)))):yut K (.ref p) lo hi H Q:=⟨p,xs,rfl,h,k⟩
theorem ybo {xs:List V} (n:Nat):yeb xs none (some (n:Int))=xs.take n:=by
 unfold yeb
 rw [HT.sIx_none,HT.sIx_nat,List.drop_zero,Nat.sub_zero]
 rcases Nat.le_total n xs.length with h | h
 ·rw [Nat.min_eq_left h]
 ·rw [Nat.min_eq_right h,List.take_of_length_le (Nat.le_refl _),List.take_of_length_le h]
theorem ytf {wi:TI} {g:TG} {tb:TS} (h:wi σ H fun J H1=>∃ W:Nat->Nat->St->Hp->Prop,(∃ m,W 0 m σ H1)/\∀ i m σ H,W i m σ H ->
  (J.stop i H/\D.nx σ H)\/(J.go i H/\∃ N:St->Hp->Prop,(∀ σ' H',N σ' H'->∃ m',m' < m/\W (i+1) m' σ' H')/\∀ x H',J.yld i H x H'->g x σ H' fun σ2 H2=>tb { D with nx:=N,ct:=N,bk:=D.nx } σ2 H2)):yuq wi g tb D σ H:=h
theorem ymp {R:It->Hp->Prop} (h:ta σ H fun x H1=>∃ a,x=.ref a/\(∃ xs,SqL K H1 a xs)/\R (Itl K a) H1):ysc K ta σ H R:=h
theorem yrd {R:It->Hp->Prop} (h:ta σ H fun x H1=>∃ a,x=.ref a/\(∃ xs,SqT K H1 a xs)/\R (Itt K a) H1):yuh K ta σ H R:=h
theorem yl9 {R:It->Hp->Prop} (h:tr σ H fun vs H1=>∃ j:Int,vs=[.int j]/\-(2 ^ 62) <= j/\j < 2 ^ 62/\R (Itr 0 j.toNat) H1):ysd tr σ H R:=h
theorem yb3 {n m:String} {k:Bool} {P:Bool->Prop} (ty:xn K H x (.type n)) (e:W.kitOne K (.type n) (.type m)=some k) (h:P k) :
  ∃ x' cv t c k',[x,V.ty m]=[x',cv]/\wn cv c/\(∀ u,wn cv u->u=c)/\xn K H x' t/\W.kitOne K t c=some k'/\P k':=⟨x,.ty m,.type n,.type m,k,rfl,rfl,fun _ r=>r,ty,e,h⟩
theorem yqh {k:Int} (hc:yt5 i j) (e:i ^ j.toNat=k) (h:Q (.int k) H):yr9 k (.int i) (.int j) H Q:=⟨i,j,rfl,rfl,hc,e,h⟩
theorem yl2 (h:nx σ H):y7 nx σ H:=h
end
def yka:V->Bool
 | .int _=>true
 | .bl _=>true
 | _=>false
def yhu:V->Bool
 | .bl _=>true
 | _=>false
def yac:V->Bool
 | .int _=>true
 | _=>false
theorem ymx {K:W.Frag} {H:Hp} {x:V} {n:String} (ty:xn K H x (.type n)):W.kitOne K (.type n) (.type "int")=some (yka x):=by
 cases ty <;> rfl
theorem yit {K:W.Frag} {H:Hp} {x:V} {n:String} (ty:xn K H x (.type n)):W.kitOne K (.type n) (.type "bool")=some (yhu x):=by
 cases ty <;> rfl
end L2
namespace SpanMath
def Ch (c:Int):Prop:=32768 <= c/\c <= 16744448
structure Ok (x:Int × Int × Int):Prop where
 l0:0 <= x.1
 w0:4294967296 <= x.2.1
 w1:x.2.1 <= 1099511627776
 z:5 <= x.2.2
end SpanMath
namespace SpanMath
def pw:Nat->Int
 | 0=>1
 | k+1=>pw k * 256
def lo:Nat->Int->List Int
 | 0,_=>[]
 | k+1,n=>n % 256 :: lo k (n / 256)
def val (xs:List Int):Int:=xs.foldl (fun a b=>a * 256+b) 0
def yuy:Nat->Int->Int->Nat
 | 0,_,_=>0
 | n+1,a,b=>if a=b then 0 else yuy n (a / 256) (b / 256)+1
end SpanMath
namespace SpanMath
abbrev Sn:=Int × Int × Int
def sz (x:Sn):Nat:=x.2.2.toNat
structure OkS (x:Sn):Prop where
 ok:Ok x
 top:x.1+x.2.1 <= pw (sz x)
structure Sub (x y:Sn) (r:Nat):Prop where
 z:sz y=sz x+r
 l:x.1 * pw r <= y.1
 h:y.1+y.2.1 <= (x.1+x.2.1) * pw r
def blk (l e:Int):Int:=(l+e - 1) / e
def yuu (l w:Int) (k:Nat):Prop:=(blk l (pw k)+1) * pw k <= l+w
instance (l w:Int) (k:Nat):Decidable (yuu l w k):=inferInstanceAs (Decidable ((blk l (pw k)+1) * pw k <= l+w))
end SpanMath
namespace L2
open PySem PySem.Spec PyProof.Rows
abbrev Cx.comp (X:Cx) (scope:Scope) (C:Addr) (x:Str) (s2:Shared) (H2:Hp) (fp:List Addr):Cx :=
 { X with N:=[x],s₀:=s2,H₀:=H2,env:=compEnv scope C X.env,outer:=X.stack,ex:=fp,fn:=fun _=>true,pn:=[],xe:=fun _ _=>False }
def yab (J:It) (te:TE) (D:Addr) (R:Hp->Prop) (H1:Hp):Prop:=∃ W:Nat->Nat->Hp->Prop,(∃ m,W 0 m (upd H1 D (.lst []))) /\
 ∀ i m H2,W i m H2->(J.stop i H2/\R H2)\/(J.go i H2/\∀ x H3,J.yld i H2 x H3->te [some x] H3 fun y H4=>∃ ys,H4 D=some (.lst ys)/\ys.length < sizeLine/\∃ m',m' < m/\W (i+1) m' (upd H4 D (.lst (ys++[y]))))
def yr6 (wi:TI) (te:TE):TE:=fun σ H Q=>wi σ H fun J H1=>∀ D,H1 D=none->yab J te D (fun H2=>Q (.ref D) H2) H1
section
variable {X:Cx} {iter elt:Expr} {x:Str} {px pos:Pos} {scope:Scope} {te:TE} {wi:TI} {pins:List (Addr × Obj)} {σ:St}
theorem yij {α:Type} {t:Sem α} {Q Q':α->Shared->Prop} {M:Model} {A:Around} {E:Value->Shared->Prop} {s:Shared} (h:wpAny M A t Q (fun _ _=>False) s) (hQ:∀ a s,Q a s->Q' a s):wpAny M A t Q' E s:=wpAny_mono h hQ fun _ _ z=>z.elim
theorem yg3 {s2:Shared} {H2:Hp} {it:Addr} {fp:List Addr} {tn:Nat->Heap->Prop} {J:It} (hc:X.calm=true)
  (he:∀ (C:Addr) (s2:Shared) (H2:Hp) (fp:List Addr),PE (X.comp scope C x s2 H2 fp) elt te)
  (hfree:∀ y∈scope.names,y.2≠.free) (hcell:∀ y∈scope.names,y.2≠.cell) (hkind:scope.kind=.function) (hx:scope.names.lookup x=some .local)
  (I2:Inv X pins σ H2 s2) (T:yii X.prog X.w X.K (.Name x px) J fp it tn) (st2:tn 0 s2.heap) (f2:∀ b∈fp,yb5 X pins H2 b)
  {R:Addr->Hp->Prop} (h:∀ D,H2 D=none->yab J te D (R D) H2) {RR:Value->Env->Result->Shared->Prop} {E:Value->Shared->Prop}
  (hR:∀ (D C:Addr) (H':Hp) (s':Shared) (m:Str->Option Value),yb5 X pins H' C->s'.heap.Ns C m->Inv X pins σ H' s'->R D H'->RR (.ref D) (compEnv scope C X.env) (.ok .next) s') :
  wpAny (model X.prog X.w) X.A (newList []) (fun acc s₃=>wpAny (model X.prog X.w) X.A (newFunctionEnv scope X.env.globals [] [] X.env.qual none .none (some X.env)) (fun cenv s₄ =>
   codeAny (model X.prog X.w) X.A (.compStart (.ListComp elt [⟨.Name x px,iter,[],0⟩] scope pos) 0 (.ref it) acc { cenv with scope:=scope }) (RR acc { cenv with scope:=scope }) s₄) E s₃) E s2:=by
 refine wpAny_newObj_type (wpAny_newFunctionEnv hcell (by intro y hy; simp at hy) (fun h₁ hns₁ hsb₁=>?_) hkind)
 dsimp only at hns₁ hsb₁ ⊢
 generalize hH2:s2.heap.push { cls:=.type "list",dict:=none,data:=.seq ([]:List Value).toArray }=G at hns₁ hsb₁ ⊢
 have hC:G.objs.size=s2.heap.objs.size+1:=by rw [<- hH2,Heap.size_push]
 have hDC:s2.heap.objs.size≠G.objs.size:=by rw [hC]; exact Nat.ne_of_lt (Nat.lt_succ_self _)
 have hCle:s2.heap.objs.size <= G.objs.size:=by rw [hC]; exact Nat.le_succ _
 have below:∀ b,b < s2.heap.objs.size->b≠G.objs.size/\b≠s2.heap.objs.size:=fun b hb=>⟨by rw [hC]; exact Nat.ne_of_lt (Nat.lt_succ_of_lt hb),Nat.ne_of_lt hb⟩
 have old:∀ b o,s2.heap.get? b=some o->h₁.get? b=some o:=fun b o e=>hsb₁.extBut b o (below b (Heap.lt_size e)).1 (Heap.get?_push_of_some _ (hH2 ▸ Heap.get?_push_of_some _ e))
 have hacc:h₁.get? s2.heap.objs.size=some { cls:=.type "list",data:=.seq ([]:List Value).toArray }:=hsb₁.extBut _ _ hDC (Heap.get?_push_of_some _ (hH2 ▸ Heap.get?_push_size _ rfl))
 have fpl:∀ b∈fp,b < s2.heap.objs.size:=fun b hb=>let ⟨_,e,_⟩:=T.obj 0 _ st2 b hb; Heap.lt_size e
 have fpS:∀ b∈fp,b∉frs X.stack:=fun b hb z=>(List.mem_cons.mp (I2.stkSub b z)).elim (f2 b hb).2.1 (f2 b hb).2.2.1
 have nC:H2 G.objs.size=none:=I2.hok.fresh hCle
 have nD:H2 s2.heap.objs.size=none:=I2.hok.fresh (Nat.le_refl _)
 have okC:(X.comp scope G.objs.size x s2 H2 fp).Ok:=by
  refine ⟨I2.ok.mod,hkind,I2.ok.glob,I2.ok.blt,hCle,fun y z c e=>(by cases e),fun y e=>?_,fun y c _ e=>(by cases e),I2.ok.hd,I2.ok.frames,.inl rfl,fun b hb=>⟨(below b (fpl b hb)).1,fun y c e=>(by cases e)⟩,I2.bs,?_,fun b o e hb=>?_,fun b hb=>fpS b hb,I2.stack,I2.stkFree⟩
  ·exfalso
   have e':scope.names.lookup y=some .cell\/scope.names.lookup y=some .free:=e
   rcases e' with e' | e'
   ·exact hcell _ (PySem.mem_of_lookup e') rfl
   ·exact hfree _ (PySem.mem_of_lookup e') rfl
  ·exact Nat.le_trans I2.ok.bsz I2.sz
  ·rcases (f2 b hb).2.2.2.1 with z | z
   ·exact I2.ok.noex b o e z
   ·exact absurd (Nat.lt_of_lt_of_le (Heap.lt_size (I2.ok.bs b o e).1) z) (Nat.lt_irrefl _)
 have I3:∀ tk,Inv (X.comp scope G.objs.size x s2 H2 fp) [] [none] (upd H2 s2.heap.objs.size (.lst [])) { s2 with heap:=h₁,toks:=tk }:=fun tk =>
  ⟨okC,rfl,I2.bare,Un.laid old (Nat.le_refl _) nD,⟨_,hns₁,fun i y v _ e _=>by
    cases i with
    | zero=>cases e
    | succ i=>simp at e⟩,fun y c e=>(by cases e),(by show upd H2 s2.heap.objs.size _ G.objs.size=none; rw [yi hDC.symm]; exact nC),fun y c e=>(by cases e),fun p hp=>(by simp at hp),
   I2.hok.laid old (Nat.le_refl _) ⟨Nat.zero_le _,[],_,.nil,hacc⟩,rfl⟩
 have stat:∀ {H':Hp},(∀ b∈fp,H' b=none)->∀ b∈fp,yb5 (X.comp scope G.objs.size x s2 H2 fp) [] H' b:=fun hn b hb=>⟨hn b hb,(below b (fpl b hb)).1,fpS b hb,.inl hb,fun y c e=>(by cases e),fun p hp=>(by simp at hp)⟩
 have loop:∀ tk,codeAny (model X.prog X.w) X.A (.compLoop (.ListComp elt [⟨.Name x px,iter,[],0⟩] scope pos) 0 (.ref it) (.ref s2.heap.objs.size) (compEnv scope G.objs.size X.env)) (RR (.ref s2.heap.objs.size) (compEnv scope G.objs.size X.env)) { s2 with heap:=h₁,toks:=tk }:=by
  intro tk
  obtain ⟨W,⟨m0,w0⟩,turn⟩:=h s2.heap.objs.size nD
  refine codeAny_loop rfl (fun n s'=>∃ i v H',Inv (X.comp scope G.objs.size x s2 H2 fp) [] [v] H' s'/\tn i s'.heap/\(∀ b∈fp,H' b=none)/\W i n H') (fun n s' hI=>?_) m0
   ⟨0,none,_,I3 tk,T.keep 0 _ _ st2 (fun b hb o e=>old b o e),fun b hb=>(by rw [yi (below b (fpl b hb)).2]; exact (f2 b hb).1),w0⟩
  obtain ⟨i,v,H',I,st,fr,w⟩:=hI
  show wpAny _ _ ((compTurn (.ListComp elt [⟨.Name x px,iter,[],0⟩] scope pos) 0 (.ref it) (.ref s2.heap.objs.size) (compEnv scope G.objs.size X.env)).onRaise (fun x=>do noteFrame x (compEnv scope G.objs.size X.env); theTreesLotGoes x)) _ _ s'
  refine wpAny_noted ?_
  rw [compTurn_list1]
  refine wpAny_bind (wpAny_standAt (wpAny_bind ?_))
  rcases turn i n H' w with ⟨stop,q⟩ | ⟨go,step⟩
  ·refine thn (T.done (X.comp scope G.objs.size x s2 H2 fp) rfl rfl rfl hc i [] s' [v] H' _ I (stat fr) st stop) fun r s4 ⟨hr,I4⟩=>?_
   subst hr
   refine wpAny_pure ?_
   obtain ⟨m,hn,_⟩:=I4.loc
   exact hR _ _ H' s4 m (I2.fpOk hCle I4.free) hn (I2.call' (ch:=fp) I4.os I4.base I4.hok I4.bare fun b hb=>⟨(f2 b hb).2.2.2.1,(f2 b hb).2.1,(f2 b hb).2.2.2.2.1,(f2 b hb).2.2.2.2.2⟩) q
  ·refine thn (T.item (X.comp scope G.objs.size x s2 H2 fp) rfl rfl rfl hc i [] s' [v] H' _ I (stat fr) st go) fun r s4 ⟨u,hr,h4⟩=>?_
   subst hr
   refine wpAny_bind (thn h4 fun _ s5 ⟨y,H5,I5,r5,y5,st5,fr5⟩=>wpAny_bind ?_)
   have I5':=I5.pinned (stat fr5) (T.obj _ _ st5)
   refine wpAny_assign_Name (zg (i:=0) I5' (by simp) rfl (Or.inl hx) r5 (fun s6 I6=>?_) (Or.inl rfl))
   refine wpAny_bind (wpAny_bind (yij (he _ _ _ _ _ s6 [some y] H5 _ I6 (step y H5 y5)) fun u2 s7 ⟨y2,H7,I7,r7,ys,hD,hl,m',hm,w'⟩=>wpAny_bind ?_))
   refine yij (ww _ s7 [some y] H7 (.ref s2.heap.objs.size) [y2] (.ref s2.heap.objs.size) [u2] (fun _ H8=>H8=upd H7 s2.heap.objs.size (.lst (ys++[y2]))) I7 rfl (.cons r7 .nil) ⟨_,ys,y2,rfl,rfl,hD,hl,rfl⟩) fun _ s8 ⟨_,H8,I8,_,e8⟩=>?_
   subst e8
   have pin:∀ b∈fp,∀ o,s5.heap.get? b=some o->s8.heap.get? b=some o/\upd H7 s2.heap.objs.size (HO.lst (ys++[y2])) b=none:=fun b hb o e =>
    ⟨(I8.pin (b,o) (List.mem_append_right _ (List.mem_append_right _ (vh hb e)))).1,(I8.pin (b,o) (List.mem_append_right _ (List.mem_append_right _ (vh hb e)))).2.1⟩
   refine wpAny_pure (wpAny_pure ⟨rfl,m',hm,i+1,some y,_,I8.unpinned,T.keep _ _ _ st5 fun b hb o e=>(pin b hb o e).1,fun b hb=>?_,w'⟩)
   obtain ⟨o,e,d⟩:=T.obj _ _ st5 b hb
   exact (pin b hb o e).2
 exact codeAny_compStart_list (loop _) (T.self X.A 0 _ _ _ (T.keep 0 _ _ st2 (fun b hb o e=>old b o e)) (loop _))
theorem ua (hc:X.calm=true) (hi:PI X (.Name x px) iter wi) (he:∀ (C:Addr) (s2:Shared) (H2:Hp) (fp:List Addr),PE (X.comp scope C x s2 H2 fp) elt te)
  (hfree:∀ y∈scope.names,y.2≠.free:=by decide +kernel) (hcell:∀ y∈scope.names,y.2≠.cell:=by decide +kernel) (hkind:scope.kind=.function:=by rfl)
  (hnames:∀ y∈scope.names,y.2=.local->scope.names.lookup y.1=some .local:=by decide +kernel) (hx:scope.names.lookup x=some .local:=by rfl) (hs:∀ x,foldedSetIterable iter X.env x=pure x:=by intro _; rfl) :
  PE X (.ListComp elt [⟨.Name x px,iter,[],0⟩] scope pos) (yr6 wi te):=by
 intro pins s σ H Q I h
 refine wpAny_ListComp hfree hkind hnames (thn (hi pins s σ H _ I h) fun v s1 h1=>thn h1 fun itv s2 h2=>?_) hs
 obtain ⟨it,fp,tn,J,H2,e,I2,T,st2,f2,h⟩:=h2
 subst e
 refine yg3 (R:=fun D H'=>Q (.ref D) H') (RR:=fun acc cenv r s'=>∃ m,s'.heap.Ns cenv.locals m/\∀ h',Heap.SameBut cenv.locals s'.heap h' ->
  match r with | .ok _=>EP X pins σ Q acc { s' with heap:=h' } | .error x=>wpAny (model X.prog X.w) X.A (passOn "comprehension.variables-let-go" x cenv) (EP X pins σ Q) X.xe { s' with heap:=h' }) hc he hfree hcell hkind hx I2 T st2 f2 h ?_
 intro D C H' s' m f hn I' q
 refine ⟨m,hn,fun h' sb=>⟨.ref D,H',?_,rfl,q⟩⟩
 exact I'.turned (t':=s'.toks) (fun b o hb e=>sb.extBut b o hb e) f.1 f.2.1 f.2.2.2.1 f.2.2.2.2.1 f.2.2.2.2.2
theorem yqe {wi:TI} {te:TE} {H:Hp} {Q:VK} (h:wi σ H fun J H1=>∀ D,H1 D=none->yab J te D (fun H2=>Q (.ref D) H2) H1):yr6 wi te σ H Q:=h
def cW (n:Nat) (Pv:Nat->Hp->Prop) (i m:Nat) (H:Hp):Prop:=m=n - i/\i <= n/\Pv i H
theorem x6 {K:W.Frag} {a D:Addr} {xs:List V} {te:TE} {R:Hp->Prop} {H1:Hp} (Pv:Nat->Hp->Prop) (h0:Pv 0 (upd H1 D (.lst []))) (hl:∀ i H,i <= xs.length->Pv i H->SqL K H a xs)
  (hs:∀ i x H,xs[i]?=some x->i < xs.length->Pv i H->te [some x] H fun y H4=>∃ ys,H4 D=some (.lst ys)/\ys.length < sizeLine/\∃ m',m' < xs.length - i/\cW xs.length Pv (i+1) m' (upd H4 D (.lst (ys++[y]))))
  (hd:∀ H,Pv xs.length H->R H):yab (Itl K a) te D R H1:=by
 refine ⟨cW xs.length Pv,⟨xs.length,by simp,Nat.zero_le _,h0⟩,?_⟩
 rintro i m H ⟨rfl,hi,p⟩
 have q:=hl i H hi p
 by_cases hlt:i < xs.length
 ·refine .inr ⟨⟨xs,xs[i],q,by simp [hlt]⟩,fun x H' y=>?_⟩
  obtain ⟨e,y⟩:=y
  subst e
  exact hs i x _ (y xs q) hlt p
 ·have e:i=xs.length:=by omega
  subst e
  exact .inl ⟨⟨xs,q,Nat.le_refl _⟩,hd H p⟩
theorem xp {n i:Nat} {Pv:Nat->Hp->Prop} {D:Addr} {ys:List V} {y:V} {H4:Hp} (hD:H4 D=some (.lst ys)) (hl:ys.length < sizeLine) (hi:i < n) (p:Pv (i+1) (upd H4 D (.lst (ys++[y])))) :
  ∃ ys,H4 D=some (.lst ys)/\ys.length < sizeLine/\∃ m',m' < n - i/\cW n Pv (i+1) m' (upd H4 D (.lst (ys++[y]))):=⟨ys,hD,hl,n - (i+1),by omega,rfl,hi,p⟩
end
end L2
namespace L2
open PySem
def ymj:Expr->Bool
 | .Starred _ _=>false
 | _=>true
theorem yb {e:Expr} {es:List Expr} {env:Env} (h:ymj e=true):starEach (e :: es) env=(false,eval e env) :: starEach es env:=by
 cases e <;> first | rfl | cases h
end L2
namespace L2
open PySem PySem.Spec PyProof.Rows
structure XCls (K:W.Frag) (C:Addr):Prop where
 hd:W.hasDictIn K C=true
 ga:W.findIn K (.ref C) "__getattribute__"=some (some (.builtin "BaseException.__getattribute__"))
 gt:W.findIn K (.ref C) "__getattr__"=some none
 ca:W.findIn K (.ref C) "__class__"=some (some (.builtin "object.__class__"))
 gg:W.specialIn K (.builtin "object.__class__") "__get__"=some (some (.builtin "getset_descriptor.__get__"))
 tk:W.takesIn K (.builtin "object.__class__")=some true
 mo:W.mroIn K C (.type "object")=some true
 mb:W.mroIn K C (.type "BaseException")=some true
section
variable {prog:Program} {w:World} {A:Around} {E:Value->Shared->Prop} {s:Shared} {K:W.Frag} {x C:Addr}
end
section
variable {X:Cx}
end
end L2
namespace L2
open PySem PySem.Spec PyProof.Rows
theorem wj.there {P:Program} {w:World} {H:Hp} {h:Heap} {a:Addr} {o:HO} (x:wj P w H h a o):∃ ob,h.get? a=some ob:=by
 cases o with
 | lst xs=>obtain ⟨_,_,_,_,e⟩:=x; exact ⟨_,e⟩
 | tup xs=>obtain ⟨_,_,_,ob,e,_⟩:=x; exact ⟨_,e⟩
 | dK kvs=>obtain ⟨_,_,_,_,ob,_,_,e,_⟩:=x; exact ⟨_,e⟩
 | dT kvs=>obtain ⟨_,_,_,_,ob,_,_,e,_⟩:=x; exact ⟨_,e⟩
 | set S n=>obtain ⟨ob,_,_,_,e,_⟩:=x; exact ⟨_,e⟩
 | ins C dx fs=>obtain ⟨_,_,_,e,_⟩:=x; exact ⟨_,e⟩
 | own y=>exact x
 | xd fs=>obtain ⟨_,⟨_,_,_,e,_⟩,_⟩:=x; exact ⟨_,e⟩
 | rng lo hi=>obtain ⟨_,_,_,e⟩:=x; exact ⟨_,e⟩
 | frz ob u=>obtain ⟨e,_⟩:=x; exact ⟨_,e⟩
 | tbl ps=>exact ⟨_,(show h.get? a=some _ from x)⟩
 | met f y=>exact ⟨_,(show h.get? a=some _ from x)⟩
 | ext φ=>obtain ⟨_,e,_⟩:=x; exact e
theorem HOk.none_of {P:Program} {w:World} {H:Hp} {h:Heap} {a:Addr} (x:HOk P w H h) (e:h.get? a=none):H a=none:=by
 cases q:H a with
 | none=>rfl
 | some u =>
  obtain ⟨ob,z⟩:=(x a u q).there
  rw [e] at z
  cases z
def Fy (X:Cx) (pins:List (Addr × Obj)) (H:Hp) (b:Addr):Prop :=
 H b=none/\b≠X.env.locals/\b∉X.fs/\(b∈X.ex\/X.s₀.heap.get? b=none)/\(∀ y c,X.env.cells.lookup y=some c->c≠b)/\∀ p∈X.pn++pins,p.1≠b
section
variable {X:Cx} {pins:List (Addr × Obj)} {σ:St} {H H':Hp} {s:Shared} {b x T:Addr} {h':Heap}
theorem ye0 (I:Inv X pins σ H s) (hb:s.heap.get? b=none) (hn:H' b=none):Fy X pins H' b:=by
 refine ⟨hn,?_,?_,?_,?_,?_⟩
 ·rintro rfl
  obtain ⟨_,⟨_,_,_,e,_⟩,_⟩:=I.loc
  rw [hb] at e; cases e
 ·intro z
  obtain ⟨_,o,e,_⟩:=I.funs.mem z
  rw [hb] at e; cases e
 ·by_cases hx:b∈X.ex
  ·exact .inl hx
  ·refine .inr ?_
   cases q:X.s₀.heap.get? b with
   | none=>rfl
   | some o =>
    obtain ⟨_,e⟩:=I.base.there b o q hx
    rw [hb] at e; cases e
 ·rintro y c e rfl
  obtain ⟨_,_,q,_⟩:=I.cell y c e
  rw [hb] at q; cases q
 ·intro p hp z
  have q:=(I.pin p hp).1
  rw [z,hb] at q; cases q
theorem Inv.fly (I:Inv X pins σ H s) (hx:Fy X pins H x) (hT:Fy X pins H T)
  (keep:∀ b o,b≠x->b≠T->b∉frs X.stack->s.heap.get? b=some o->h'.get? b=some o)
  (slot:∀ b o,b∈frs X.stack->s.heap.get? b=some o->∃ sl,h'.get? b=some { o with slots:=sl }):Inv X pins σ H { s with heap:=h' }:=by
 have ent:∀ {y b o},Fy X pins H y->X.s₀.heap.get? b=some o->b∉X.ex->b≠y:=fun {y b o} hy e he z=>by
  subst z
  rcases hy.2.2.2.1 with q | q
  ·exact he q
  ·rw [e] at q; cases q
 have any:∀ b o,b≠x->b≠T->s.heap.get? b=some o->∃ sl,h'.get? b=some { o with slots:=sl }:=fun b o h1 h2 e=>by
  by_cases z:b∈frs X.stack
  ·exact slot b o z e
  ·exact ⟨o.slots,keep b o h1 h2 z e⟩
 have cellK:∀ y c,X.env.cells.lookup y=some c->∀ v,s.heap.IsCell c v->h'.IsCell c v:=fun y c e v ⟨o,ho,hd⟩=>by
  obtain ⟨sl,q⟩:=any c o (hx.2.2.2.2.1 y c e) (hT.2.2.2.2.1 y c e) ho
  exact ⟨_,q,hd⟩
 refine ⟨I.ok,I.os,I.bare,⟨fun b o e n hb he=>?_,fun b o e n hb he=>?_,I.base.free,fun b o e he=>?_,I.base.tups,I.base.frzs,I.base.tbls⟩,?_,fun y c e=>?_,I.free,I.freeC,fun p hp=>?_,fun b u e=>?_,I.len⟩
 ·refine keep b o (ent hx e he) (ent hT e he) (fun z=>?_) (I.base.keep b o e n hb he)
  rcases List.mem_cons.mp (I.stkSub b z) with q | q
  ·exact absurd q (Nat.ne_of_lt (Nat.lt_of_lt_of_le (Heap.lt_size e) I.ok.above))
  ·exact hb q
 ·obtain ⟨sl,e1⟩:=I.base.slot b o e n hb he
  obtain ⟨sl',e2⟩:=any b _ (ent hx e he) (ent hT e he) e1
  exact ⟨sl',e2⟩
 ·obtain ⟨o',e1⟩:=I.base.there b o e he
  obtain ⟨sl',e2⟩:=any b _ (ent hx e he) (ent hT e he) e1
  exact ⟨_,e2⟩
 ·obtain ⟨m,hn,hl⟩:=I.loc
  refine ⟨m,?_,fun i y v e1 e2 e3=>?_⟩
  ·obtain ⟨o,es,ep,ho,r⟩:=hn
   obtain ⟨sl,q⟩:=any _ o (Ne.symm hx.2.1) (Ne.symm hT.2.1) ho
   exact ⟨_,es,ep,q,r⟩
  ·obtain ⟨u,r,l⟩:=hl i y v e1 e2 e3
   refine ⟨u,r,?_⟩
   rcases l with l | ⟨k,c,e,z⟩
   ·exact .inl l
   ·exact .inr ⟨k,c,e,cellK y c e _ z⟩
 ·obtain ⟨v,z⟩:=I.cell y c e
  exact ⟨v,cellK y c e v z⟩
 ·obtain ⟨e,n,ne,nf,d⟩:=I.pin p hp
  refine ⟨keep p.1 p.2 (hx.2.2.2.2.2 p hp) (hT.2.2.2.2.2 p hp) (fun z=>?_) e,n,ne,nf,d⟩
  rcases List.mem_cons.mp (I.stkSub _ z) with q | q
  ·exact ne q
  ·exact nf q
 ·have tr:∀ c v,H c=some v->c≠x/\c≠T/\c∉frs X.stack:=fun c v q =>
   ⟨fun z=>(by rw [z,hx.1] at q; cases q),fun z=>(by rw [z,hT.1] at q; cases q),fun z=>(by rw [I.stkFree c z] at q; cases q)⟩
  refine (I.hok b u e).stay (fun c v hc q=>?_) (fun _ q=>q) fun _ _ q=>q
  obtain ⟨z1,z2,z3⟩:c≠x/\c≠T/\c∉frs X.stack:=by
   rcases hc with rfl | hc
   ·exact tr _ _ e
   ·exact tr _ _ hc
  exact keep c v z1 z2 z3 q
def Trd (h:Heap) (x T:Addr) (C fl:Value):Prop :=
 ∃ oe vs oT ts a0,h.get? x=some oe/\(oe.cls=C/\vs[0]?=some a0)/\oe.data=.fields vs/\vs[1]?=some (.ref T)/\T≠x/\h.get? T=some oT/\oT.data=.fields ts/\ts[3]?=some fl
def hid (s:Shared) (X:Cx) (x T:Addr):Heap:=W.hideAll s.heap (x :: T :: frs X.stack)
theorem ykn:(hid s X x T).StaysIn s.heap:=fun _ _ e=>W.of_hideAll _ e
theorem yr8:(hid s X x T).get? x=none:=W.hideAll_none _ (.head _)
theorem yte:(hid s X x T).get? T=none:=W.hideAll_none _ (.tail _ (.head _))
theorem ykh (I:Inv X pins σ H s):s.heap.FunFrames (hid s X x T) X.stack :=
 W.funFrames_hide I.stack fun env he a ha=>.tail _ (.tail _ (List.mem_filterMap.mpr ⟨env,he,ha⟩))
theorem ypc {C fl:Value} (t:Trd s.heap x T C fl):∃ a0,s.heap.TracedAtW (hid s X x T) x C a0 fl:=by
 obtain ⟨oe,vs,oT,ts,a0,h1,h2,h3,h4,h5,h6,h7,h8⟩:=t
 exact ⟨a0,oe,vs,T,oT,ts,h1,h2,h3,h4,yte,h5,h6,h7,h8⟩
theorem ycu {C a0 fl:Value} (I:Inv X pins σ H s) (hx:Fy X pins H x) (hT:Fy X pins H T) (k1:(hid s X x T).StaysIn h') (k2:h'.FunFrames (hid s X x T) X.stack) (k3:h'.TracedAtW (hid s X x T) x C a0 fl)
  (k4:∀ b o,s.heap.get? b=some o->(∀ vs,o.data≠.fields vs)->∃ sl,h'.get? b=some { o with slots:=sl }) :
  Inv X pins σ H { s with heap:=h' }/\∃ T',Fy X pins H T'/\Trd h' x T' C fl:=by
 refine ⟨I.fly hx hT (fun b o n1 n2 n3 e=>k1 b o (W.hideAll_get _ e fun z=>?_)) fun b o hb e=>?_,?_⟩
 ·rcases List.mem_cons.mp z with z | z
  ·exact n1 z
  ·rcases List.mem_cons.mp z with z | z
   ·exact n2 z
   ·exact n3 z
 ·obtain ⟨_,o',e',nf⟩:=I.stack.mem hb
  rw [e] at e'; cases e'
  exact k4 b o e nf
 ·obtain ⟨oe,vs,T',oT,ts,h1,h2,h3,h4,h5,h6,h7,h8,h9⟩:=k3
  refine ⟨T',?_,oe,vs,oT,ts,a0,h1,h2,h3,h4,h6,h7,h8,h9⟩
  by_cases q:T'=T
  ·rw [q]; exact hT
  ·cases e:s.heap.get? T' with
   | none=>exact ye0 I e (I.hok.none_of e)
   | some o =>
    have z:T'∈frs X.stack:=Classical.byContradiction fun z=>by
     have:=W.hideAll_get (x :: T :: frs X.stack) e (fun m=>by
      rcases List.mem_cons.mp m with m | m
      ·exact h6 m
      ·rcases List.mem_cons.mp m with m | m
       ·exact q m
       ·exact z m)
     rw [show (W.hideAll s.heap (x :: T :: frs X.stack)).get? T'=none from h5] at this
     cases this
    obtain ⟨_,o',e',nf⟩:=k2.mem z
    rw [h7] at e'; cases e'
    exact absurd h8 (nf _)
end
def CXe (P:Program) (w:World):CXT:=fun outer H s E e s'=>∃ x T C H',e=.ref x/\s'.os=s.os/\AllBare s'.gens/\Un (frs outer) [] H H' s.heap s'.heap/\HOk P w H' s'.heap /\
 (H' x=none/\s.heap.get? x=none)/\(H' T=none/\s.heap.get? T=none)/\Trd s'.heap x T C .none/\E C none H'
def yc1 (X:Cx) (Ex:St->XK):Prop:=∀ (pins:List (Addr × Obj)) (σ:St) (H:Hp) (s':Shared) (x T:Addr) (C:Value),Inv X pins σ H s'->Fy X pins H x->Fy X pins H T->Trd s'.heap x T C .none->Ex σ C none H->X.xe (.ref x) s'
theorem xx {P:Program} {w:World} {K:W.Frag} {mg:Str->Option Value} {base:Heap} {N:List Str} {qual:Str} {scope:Scope} {f:Addr} {cd:Value} {A:Around} {outer:List Env} {s:Shared} {H:Hp} {E:XK} :
  yc1 (v7 (CXe P w) P w K mg base N qual scope f cd A outer s H E) (fun _=>E):=by
 intro pins σ H1 s' x T C I hx hT tr q
 show wpAny _ _ (leaving _ _) _ _ _
 obtain ⟨a0,ta⟩:=ypc (X:=v7 (CXe P w) P w K mg base N qual scope f cd A outer s H E) tr
 refine wpAny_leaving_nextW (base:=hid s' (v7 (CXe P w) P w K mg base N qual scope f cd A outer s H E) x T) (L:=s.heap.objs.size) I.ok.frames (ykh I) rfl ta ykn yr8 fun h' ⟨k1,k2,k3,k4⟩=>?_
 obtain ⟨I',T',hT',t'⟩:=ycu I hx hT k1 k2 k3 k4
 have new:∀ {b},Fy (v7 (CXe P w) P w K mg base N qual scope f cd A outer s H E) pins H1 b->H1 b=none/\s.heap.get? b=none:=fun hb=>⟨hb.1,hb.2.2.2.1.resolve_left (by intro z; cases z)⟩
 exact ⟨x,T',C,H1,rfl,I'.os,I'.bare,I'.base,I'.hok,new hx,new hT',t',q⟩
theorem yi7 {P:Program} {w:World} {K:W.Frag} {mg:Str->Option Value} {base:Heap} {N:List Str} {qual:Str} {scope:Scope} {f:Addr} {cd:Value} {A:Around} {outer:List Env} {s:Shared} {H:Hp} {E:XK}
  {pins:List (Addr × Obj)} {σ:St} {H1:Hp} {s1:Shared} {h':Heap} {x:Addr} {C:Value} {vs:List Value} (I:Inv (v7 (CXe P w) P w K mg base N qual scope f cd A outer s H E) pins σ H1 s1) (m:Heap.MadeExcOf s1.heap h' x C vs) (q:E C none H1) :
  (v7 (CXe P w) P w K mg base N qual scope f cd A outer s H E).xe (.ref x) { s1 with heap:=h' }:=by
 obtain ⟨t,he,_,_⟩:=m.there
 have hx:Fy (v7 (CXe P w) P w K mg base N qual scope f cd A outer s H E) pins H1 x:=ye0 I m.new (I.hok.none_of m.new)
 have I1:Inv (v7 (CXe P w) P w K mg base N qual scope f cd A outer s H E) pins σ H1 { s1 with heap:=h' }:=I.kept (t':=s1.toks) m.keeps
 show wpAny _ _ (leaving _ _) _ _ _
 refine wpAny_leaving_firstW (base:=hid { s1 with heap:=h' } (v7 (CXe P w) P w K mg base N qual scope f cd A outer s H E) x x) (L:=s.heap.objs.size) (a0:=.ref t) I1.ok.frames (ykh I1) rfl he ykn yr8 rfl rfl rfl fun h'' ⟨k1,k2,k3,k4⟩=>?_
 obtain ⟨I',T',hT',t'⟩:=ycu I1 hx hx k1 k2 k3 k4
 have new:∀ {b},Fy (v7 (CXe P w) P w K mg base N qual scope f cd A outer s H E) pins H1 b->H1 b=none/\s.heap.get? b=none:=fun hb=>⟨hb.1,hb.2.2.2.1.resolve_left (by intro z; cases z)⟩
 exact ⟨x,T',C,H1,rfl,I'.os,I'.bare,I'.base,I'.hok,new hx,new hT',t',q⟩
end L2
namespace L2
open PySem PySem.Spec PyProof.Rows
def yj9 (sp:Sp) (dvs:List V) (Ex:St->XK) (t:TA):TE:=fun σ H Q=>t σ H fun vs H1=>sp (vs++dvs) H1 Q (Ex σ)
def ycz (C:Addr) (m:Str) (sp:Sp) (dvs:List V) (Ex:St->XK) (ta:TE) (t:TA):TE:=fun σ H Q=>ta σ H fun x H1=>∃ a dx fs,x=.ref a/\H1 a=some (.ins C dx fs)/\fs.lookup m=none /\
 t σ H1 fun vs H2=>sp (x :: (vs++dvs)) H2 Q (Ex σ)
def yj5 (C:Addr) (sp:Sp) (dvs:List V) (Ex:St->XK) (t:TA):TE:=fun σ H Q=>t σ H fun vs H1=>∀ x dx,H1 x=none->H1 dx=none->dx≠x ->
 sp (.ref x :: (vs++dvs)) (upd (upd H1 dx (.own x)) x (.ins C dx [])) (fun v H2=>v=.non/\Q (.ref x) H2) (Ex σ)
section
variable {X:Cx} {k:Nat} {f C:Addr} {fd:FuncData} {ps:List Str} {sp:Sp} {dvs:List V} {ds:List Value} {Ex:St->XK} {x m:Str} {p pos apos:Pos} {e o:Expr} {es:List Expr} {ta:TE} {t:TA}
theorem Inv.came {pins:List (Addr × Obj)} {σ:St} {H:Hp} {s s':Shared} {v:Value} (I:Inv X pins σ H s) (hc:yc1 X Ex) (h:CXe X.prog X.w X.stack H s (Ex σ) v s'):X.xe v s':=by
 obtain ⟨y,T,D,H',rfl,os,bare,un,hok,hy,hT,tr,q⟩:=h
 exact hc pins σ H' s' y T D (I.call' os un hok bare fun b z=>absurd z (by simp)) (ye0 I hy.2 hy.1) (ye0 I hT.2 hT.1) tr q
theorem yht {pins:List (Addr × Obj)} {σ:St} {H:Hp} {s:Shared} {Q:VK} {us:List Value} {vs:List V} (F:we X.prog X.w X.K X.mg X.base (CXe X.prog X.w) k f fd ps sp) (hr:ut k X.A) (hb:uk X.K fd ps ds) (hd:vp dvs ds) (hc:yc1 X Ex)
  (I:Inv X pins σ H s) (r:vp vs us) (h:sp (vs++dvs) H Q (Ex σ)):wpAny (model X.prog X.w) X.A (call (.ref f) us) (EP X pins σ Q) X.xe s:=by
 have r2:vp (vs++dvs) (us++ds):=r.append hd
 have hl:(us++ds).length=ps.length:=by rw [<- r2.length]; exact F.len _ _ _ _ h
 refine wpAny_call (codeAny_mono (F.run X.A X.stack s H ⟨us,[]⟩ (us++ds) (vs++dvs) Q (Ex σ) hr I.env0 (hb s us I.kIn hl) r2 h) fun r s' hq=>?_)
 cases r with
 | error e=>exact I.came hc hq
 | ok fl =>
  cases fl with
  | ret u=>exact I.after hq
  | next=>exact False.elim hq
  | brk=>exact False.elim hq
  | cont=>exact False.elim hq
theorem wz (F:we X.prog X.w X.K X.mg X.base (CXe X.prog X.w) k f fd ps sp) (hr:ut k X.A) (hg:Gl X x) (hm:X.mg x=some (.ref f)) (hk:W.keepIn X.K (.ref f)=true) (hb:uk X.K fd ps ds) (hd:vp dvs ds) (hc:yc1 X Ex)
  (ha:PA X (e :: es) t) (hdb:(x == ("__debug__":Str))=false:=by decide) (he:starEach (e :: es) X.env=(false,eval e X.env) :: starEach es X.env:=by rfl) (hpl:(backTo pos (starEach es X.env)).any (·.1)=false:=by rfl) :
  PE X (.Call (.Name x p) (e :: es) [] pos) (yj9 sp dvs Ex t):=by
 intro pins s σ H Q I h
 refine wpAny_Call_Name_kw (uz I hg hm ?_ hdb)
 refine W.callWith_K (h₀:=X.base) I.ok.mod.kin hk (thn (ha pos pins s σ H _ I h) fun us s1 ⟨vs,H1,I1,r,q⟩=>⟨I1.kIn,?_⟩) he hpl
 exact yht F hr hb hd hc I1 r q
theorem z7 {pl:Sem Bool} (he:PE X o ta) (c:Cls X.K C) (hm:yov X.K C m f) (F:we X.prog X.w X.K X.mg X.base (CXe X.prog X.w) k f fd ps sp) (hr:ut k X.A) (hb:uk X.K fd ps ds) (hd:vp dvs ds) (hc:yc1 X Ex) (ha:PA X (e :: es) t)
  (hst:starEach (e :: es) X.env=(false,eval e X.env) :: starEach es X.env:=by rfl) (hpl:(backTo pos (starEach es X.env)).any (·.1)=false:=by rfl)
  (ht:eval (.Call (.Attribute o m apos) (e :: es) [] pos) X.env=(do
   let ov <- eval o X.env
   standAt apos.atName
   let (f,first) <- holding [ov] (getMethod ov m pl)
   callWith pos f first (backTo pos (starEach (e :: es) X.env)) (backToKw pos (keywordEach [] X.env))):=by rfl) :
  PE X (.Call (.Attribute o m apos) (e :: es) [] pos) (ycz C m sp dvs Ex ta t):=by
 intro pins s σ H Q I h
 refine W.methodCall_KW (pl:=pl) (thn (he pins s σ H _ I h) fun u s1 ⟨x,H1,I1,rx,a,dx,fs,ex,ea,l,q⟩=>?_) ht
 subst ex
 obtain rfl:u=Value.ref a:=rx
 refine zl I1 ea c hm l ?_
 refine W.callWith_K (first:=[.ref a]) (h₀:=X.base) I.ok.mod.kin hm.kp (thn (ha pos pins s1 σ H1 _ I1 q) fun us s2 ⟨vs,H2,I2,r,q2⟩=>⟨I2.kIn,?_⟩) hst hpl
 exact yht (us:=.ref a :: us) (vs:=.ref a :: vs) F hr hb hd hc I2 (.cons rfl r) q2
theorem ygp {pins:List (Addr × Obj)} {σ:St} {H:Hp} {s:Shared} {Q:VK} {us:List Value} {vs:List V} (M:Mk X.K C f) (F:we X.prog X.w X.K X.mg X.base (CXe X.prog X.w) k f fd ps sp) (hr:ut (k+1) X.A) (hb:uk X.K fd ps ds) (hd:vp dvs ds)
  (hc:yc1 X Ex) (I:Inv X pins σ H s) (r:vp vs us)
  (h:∀ x dx,H x=none->H dx=none->dx≠x->sp (.ref x :: (vs++dvs)) (upd (upd H dx (.own x)) x (.ins C dx [])) (fun v H2=>v=.non/\Q (.ref x) H2) (Ex σ)) :
  wpAny (model X.prog X.w) X.A (call (.ref C) us) (EP X pins σ Q) X.xe s:=by
 have hq:=h (s.heap.objs.size+1) s.heap.objs.size (I.hok.fresh (Nat.le_succ _)) (I.hok.fresh (Nat.le_refl _)) (Nat.ne_of_lt (Nat.lt_succ_self _))
 have I2:=Inv.made (C:=C) I
 have r2:vp (V.ref (s.heap.objs.size+1) :: (vs++dvs)) (Value.ref (s.heap.objs.size+1) :: (us++ds)):=.cons rfl (r.append hd)
 have hl:(Value.ref (s.heap.objs.size+1) :: us++ds).length=ps.length:=by
  have e:=r2.length
  rw [F.len _ _ _ _ hq] at e
  exact e.symm
 refine wpAny_call (yen (f:=f) I.kIn M.makes M.init (beq_iff_eq.mp M.fn) (codeAny_mono (F.run _ X.stack _ _ ⟨Value.ref (s.heap.objs.size+1) :: us,[]⟩ (Value.ref (s.heap.objs.size+1) :: (us++ds)) _ _ (Ex σ) (hr.make C us [])
  (I2.env0.make C us []) (hb _ (Value.ref (s.heap.objs.size+1) :: us) I2.kIn hl) r2 hq) fun r s' hq'=>?_))
 cases r with
 | error e=>exact I2.came hc hq'
 | ok fl =>
  cases fl with
  | ret u =>
   obtain ⟨v,H',I3,rv,ev,q3⟩:=I2.after hq'
   subst ev
   exact ⟨rv,⟨V.ref (s.heap.objs.size+1),H',I3,rfl,q3⟩⟩
  | next=>exact False.elim hq'
  | brk=>exact False.elim hq'
  | cont=>exact False.elim hq'
theorem ja (M:Mk X.K C f) (F:we X.prog X.w X.K X.mg X.base (CXe X.prog X.w) k f fd ps sp) (hr:ut (k+1) X.A) (hg:Gl X x) (hm:X.mg x=some (.ref C)) (hb:uk X.K fd ps ds) (hd:vp dvs ds) (hc:yc1 X Ex)
  (ha:PA X (e :: es) t) (hdb:(x == ("__debug__":Str))=false:=by decide) (he:starEach (e :: es) X.env=(false,eval e X.env) :: starEach es X.env:=by rfl) (hpl:(backTo pos (starEach es X.env)).any (·.1)=false:=by rfl) :
  PE X (.Call (.Name x p) (e :: es) [] pos) (yj5 C sp dvs Ex t):=by
 intro pins s σ H Q I h
 refine wpAny_Call_Name_kw (uz I hg hm ?_ hdb)
 refine W.callWith_K (h₀:=X.base) I.ok.mod.kin M.kp (thn (ha pos pins s σ H _ I h) fun us s1 ⟨vs,H1,I1,r,q⟩=>⟨I1.kIn,?_⟩) he hpl
 exact ygp M F hr hb hd hc I1 r q
end
section
variable {P:Program} {w:World} {K:W.Frag} {mg:Str->Option Value} {base:Heap}
theorem wv {X:Cx}:yc1 X (fun _ _ _ _=>False):=fun _ _ _ _ _ _ _ _ _ _ _ q=>q.elim
theorem Fun.okE {x qual:Str} {st:Stmt} {f:Addr} {fd:FuncData} {N ps:List Str} {k:Nat} {sp:Sp} (F:Fun K x qual st f fd) (S:ym N ps (yg st)) (len:∀ vs H Q E,sp vs H Q E->vs.length=ps.length)
  (hbody:∀ (cdv:Value) (A:Around) (outer:List Env) (s:Shared) (H:Hp) (vs:List V) (Q:VK) (E:XK),ut k (A.deeper (envOfC qual (yg st) s.heap.objs.size f cdv))->sp vs H Q E ->
   ∃ t,PSs (v7 (CXe P w) P w K mg base N qual (yg st) f cdv A outer s H E) (wr st) t/\t { nx:=fun _ H'=>Q .non H',rt:=Q } (yah N vs) H):we P w K mg base (CXe P w) (k+1) f fd ps sp:=by
 obtain ⟨oc,od,kV,doc,pm,an,cdv,ct,osl,rfl,lk,hcd⟩:=F.ex
 exact yrx lk hcd S len fun A outer s H vs Q E hr hsp=>hbody cdv A outer s H vs Q E hr hsp
end
abbrev bmV:List Value:=[.type "ValueError",.type "Exception",.type "BaseException",.type "object"]
abbrev XMk (K:W.Frag) (C:Addr):Prop:=W.excIn K C bmV "ValueError.__new__"=true
theorem ymn {K:W.Frag} {h:Heap} {C:Addr} {bmB:List Value} {newId:String} (X:K.In h) (q:W.excIn K C bmB newId=true) :
  ∃ bm N nm qn bs hdct sn sub ab col dd k0 k1 k2 k3 k5 mN,h.get? C=some (excClassObj nm qn C N bs bm hdct sn sub ab col dd k0 k1 k2 k3 k5 newId)/\h.Ns N mN/\mN "__init__"=none/\OwnTail h bmB bm:=by
 unfold W.excIn at q
 split at q
 ·rename_i dd cd sl ho
  split at q
  ·rename_i C' bm k0 k1 k2 k3 n k5 hm hs
   simp only [Bool.and_eq_true,beq_iff_eq,Bool.not_eq_true'] at q
   obtain ⟨⟨⟨⟨⟨rfl,rfl⟩,hdel⟩,ht⟩,hok⟩,hni⟩:=q
   obtain ⟨nm,bs,mro,ns,qn,hd,sn,sub,ab,col,del⟩:=cd
   dsimp only at hm hdel hok hni
   subst hm hdel
   obtain ⟨l⟩:=sl
   have hs:l=[k0,k1,k2,k3,some (.builtin n),k5]:=hs
   subst hs
   exact ⟨bm,ns,nm,qn,bs,hd,sn,sub,ab,col,dd,k0,k1,k2,k3,k5,_,X _ _ ho,.of_isNs (W.isNs_of_in X hok),W.nsMap_none_of_in X hok hni,W.tail_of_in X ht⟩
  ·cases q
 ·cases q
def yk9 (E:XK) (C:Addr) (t:TA):TS:=fun _ σ H=>t σ H fun vs H1=>vs.length <= sizeLine/\E (.ref C) none H1
theorem jd {P:Program} {w:World} {K:W.Frag} {mg:Str->Option Value} {base:Heap} {N:List Str} {qual:Str} {scope:Scope} {f:Addr} {cd:Value} {A:Around} {outer:List Env} {s:Shared} {H:Hp} {E:XK}
  {C:Addr} {x:Str} {np cpos pos:Pos} {e₀:Expr} {jh:List Expr} {t:TA} (hg:Gl (v7 (CXe P w) P w K mg base N qual scope f cd A outer s H E) x) (hm:mg x=some (.ref C)) (hC:XMk K C)
  (ha:PA (v7 (CXe P w) P w K mg base N qual scope f cd A outer s H E) (e₀ :: jh) t)
  (he:starEach (e₀ :: jh) (envOfC qual scope s.heap.objs.size f cd)=(false,eval e₀ (envOfC qual scope s.heap.objs.size f cd)) :: starEach jh (envOfC qual scope s.heap.objs.size f cd):=by rfl)
  (hplain:(backTo cpos (starEach jh (envOfC qual scope s.heap.objs.size f cd))).any (·.1)=false:=by rfl) (hdb:(x == ("__debug__":Str))=false:=by decide) :
  PS (v7 (CXe P w) P w K mg base N qual scope f cd A outer s H E) (.Raise (some (.Call (.Name x np) (e₀ :: jh) [] cpos)) none pos) (yk9 E C t):=by
 intro pins s1 σ H1 D I h
 obtain ⟨tl,NN,nm,q,bs,hdct,sn,sub,ab,col,dd,k0,k1,k2,k3,k5,mN,hCo,hN,hni,T⟩:=ymn I.mod.kin hC
 refine wpAny_Raise_call_subT (C:=C) (nm:=nm) (q:=q) (N:=NN) (bs:=bs) (bm:=tl) (hdct:=hdct) (sn:=sn) (sub:=sub) (ab:=ab) (col:=col) (dd:=dd) (k0:=k0) (k1:=k1) (k2:=k2) (k3:=k3) (k5:=k5)
  F.excBase_ValueError (mN:=mN) (T.hasType F.excBase_ValueError.hasBase) (I.ok.hd rfl) (by
   show (backTo cpos (starEach (e₀ :: jh) (envOfC qual scope s.heap.objs.size f cd))).any (·.1)=false
   rw [he]; show (false || (backTo cpos (starEach jh (envOfC qual scope s.heap.objs.size f cd))).any (·.1))=false; rw [hplain]; rfl) hni (uz I hg hm ⟨rfl,?_⟩ hdb)
 have h2:=ha cpos pins s1 σ H1 _ I h
 have he':starEach (e₀ :: jh) (v7 (CXe P w) P w K mg base N qual scope f cd A outer s H E).env=(false,eval e₀ (v7 (CXe P w) P w K mg base N qual scope f cd A outer s H E).env) :: starEach jh (v7 (CXe P w) P w K mg base N qual scope f cd A outer s H E).env:=he
 rw [he'] at h2 ⊢
 refine Calls.evalArgs_plain (wpAny_mono h2 (fun vs s₂ ⟨xs,H2,I2,r,hl,q2⟩=>⟨rfl,by rw [<- r.length]; exact hl,I2.bk _ _ hCo,hN.keeps I2.bk,T.keeps I2.bk,fun h' y m=>yi7 I2 m q2⟩) fun _ _ y=>y)
end L2
namespace L2
open PySem PySem.Spec PyProof.Rows
section
variable {X:Cx} {pins:List (Addr × Obj)} {σ:St} {H:Hp} {s:Shared} {x T:Addr}
abbrev Cx.pnd (X:Cx) (pn:List (Addr × Obj)):Cx:={ X with pn:=pn }
def XT (Y:Cx) (Ex:St->XK) (e:Value) (s':Shared):Prop:=∃ pins σ H x T C,e=.ref x/\Inv Y pins σ H s'/\Fy Y pins H x/\Fy Y pins H T/\Trd s'.heap x T C .none/\Ex σ C none H
abbrev Cx.tr (X:Cx) (pn:List (Addr × Obj)) (Ex:St->XK):Cx:=(X.pnd pn).wish (XT (X.pnd pn) Ex)
end
def yb6.un (D:yb6) (i:Nat):yb6:=⟨fun σ H=>D.nx (σ.set i none) H,D.rt,fun σ H=>D.bk (σ.set i none) H,fun σ H=>D.ct (σ.set i none) H⟩
section
variable {X:Cx} {body suite:List Stmt} {b₀:Stmt} {tx n:Str} {np hpos pos:Pos} {D:Addr} {i:Nat} {tb:(St->XK)->TS} {ts:TS}
end
section
variable {σ:St} {H:Hp} {Q:VK} {tr:TA} {ta:TE} {nx:St->Hp->Prop} {rt:VK} {bk ct:St->Hp->Prop} {ts:TS}
theorem yl6 {sp:Sp} {dvs:List V} {Ex:St->XK} (h:tr σ H fun vs H1=>sp (vs++dvs) H1 Q (Ex σ)):yj9 sp dvs Ex tr σ H Q:=h
theorem ybw {C:Addr} {m:Str} {sp:Sp} {dvs:List V} {Ex:St->XK} (h:ta σ H fun x H1=>∃ a dx fs,x=.ref a/\H1 a=some (.ins C dx fs)/\fs.lookup m=none/\tr σ H1 fun vs H2=>sp (x :: (vs++dvs)) H2 Q (Ex σ)):ycz C m sp dvs Ex ta tr σ H Q:=h
theorem ymc {C:Addr} {sp:Sp} {dvs:List V} {Ex:St->XK} (h:tr σ H fun vs H1=>∀ x dx,H1 x=none->H1 dx=none->dx≠x->sp (.ref x :: (vs++dvs)) (upd (upd H1 dx (.own x)) x (.ins C dx [])) (fun v H2=>v=.non/\Q (.ref x) H2) (Ex σ)):yj5 C sp dvs Ex tr σ H Q:=h
theorem ym3 {E:XK} {C:Addr} {D:yb6} (h:tr σ H fun vs H1=>vs.length <= sizeLine/\E (.ref C) none H1):yk9 E C tr D σ H:=h
end
end L2
namespace L2
open PySem PySem.Spec PyProof.Rows
section
variable {κ:Type} [DecidableEq κ]
def u6 (kvs:List (κ × V)) (k:κ):Option V:=(kvs.find? fun kv=>decide (kv.1=k)).map (·.2)
def yb4 (kvs:List (κ × V)) (k:κ) (v:V):List (κ × V) :=
 if (kvs.any fun kv=>decide (kv.1=k))=true then kvs.map (fun kv=>if kv.1=k then (kv.1,v) else kv) else kvs++[(k,v)]
theorem wl {p:κ × V} {r:List (κ × V)} {k:κ} (e:p.1=k):u6 (p :: r) k=some p.2:=by simp [u6,List.find?_cons,e]
theorem wk {p:κ × V} {r:List (κ × V)} {k:κ} (e:¬ p.1=k):u6 (p :: r) k=u6 r k:=by simp [u6,List.find?_cons,e]
theorem xy (k:κ):∀ kvs:List (κ × V),(kvs.any fun kv=>decide (kv.1=k))=(u6 kvs k).isSome
 | []=>rfl
 | p :: r=>by
  rw [List.any_cons]
  by_cases e:p.1=k
  ·simp only [wl e,decide_eq_true e,Bool.true_or,Option.isSome_some]
  ·rw [wk e,decide_eq_false e,Bool.false_or]; exact xy k r
theorem yec (k j:κ) (y:V):∀ kvs:List (κ × V),u6 (kvs.map fun kv=>if kv.1=k then (kv.1,y) else kv) j=(u6 kvs j).map fun x=>if j=k then y else x
 | []=>rfl
 | p :: r=>by
  have ih:=yec k j y r
  rw [List.map_cons]
  by_cases h:p.1=k
  ·rw [if_pos h]
   by_cases e:p.1=j
   ·rw [wl (p:=(p.1,y)) e,wl e,Option.map_some,if_pos (e.symm.trans h)]
   ·rw [wk (p:=(p.1,y)) e,wk e,ih]
  ·rw [if_neg h]
   by_cases e:p.1=j
   ·rw [wl (p:=p) e,wl e,Option.map_some,if_neg (fun z=>h (e.trans z))]
   ·rw [wk (p:=p) e,wk e,ih]
theorem ycq (k j:κ) (y:V):∀ kvs:List (κ × V),u6 kvs k=none->u6 (kvs++[(k,y)]) j=if j=k then some y else u6 kvs j
 | [],_=>by
  by_cases e:k=j
  ·rw [if_pos e.symm]; exact wl (p:=(k,y)) e
  ·rw [if_neg (fun z=>e z.symm)]; exact wk (p:=(k,y)) e
 | p :: r,hn=>by
  rw [List.cons_append]
  have hk:¬ p.1=k:=fun z=>by rw [wl z] at hn; cases hn
  rw [wk hk] at hn
  have ih:=ycq k j y r hn
  by_cases e:p.1=j
  ·rw [wl e,wl e,if_neg (fun z=>hk (e.trans z))]
  ·rw [wk e,wk e,ih]
theorem uh (kvs:List (κ × V)) (k j:κ) (y:V):u6 (yb4 kvs k y) j=if j=k then some y else u6 kvs j:=by
 unfold yb4
 by_cases a:(kvs.any fun kv=>decide (kv.1=k))=true
 ·rw [if_pos a,yec]
  rw [xy] at a
  by_cases e:j=k
  ·obtain ⟨x,hx⟩:=Option.isSome_iff_exists.mp a
   rw [if_pos e,e,hx,Option.map_some,if_pos rfl]
  ·rw [if_neg e]
   cases u6 kvs j with
   | none=>rfl
   | some x=>rw [Option.map_some,if_neg e]
 ·rw [if_neg a]
  refine ycq k j y kvs ?_
  rw [xy] at a
  cases q:u6 kvs k with
  | none=>rfl
  | some x=>rw [q] at a; exact (a rfl).elim
theorem jr (kvs:List (κ × V)) (k:κ) (v:V):(yb4 kvs k v).length <= kvs.length+1:=by
 unfold yb4
 split
 ·rw [List.length_map]; omega
 ·rw [List.length_append,List.length_cons,List.length_nil]; omega
theorem ybt {kvs:List (κ × V)} {k:κ} (v:V) (h:u6 kvs k=none):yb4 kvs k v=kvs++[(k,v)]:=by
 unfold yb4
 rw [xy,h]
 exact if_neg (by decide)
theorem yc4.isSome_eq {o:Option V} {u:Option Value} (r:yc4 o u):o.isSome=u.isSome:=by
 cases o with
 | none=>cases u with
  | none=>rfl
  | some _=>exact (show False from r).elim
 | some _=>cases u with
  | none=>exact (show False from r).elim
  | some _=>rfl
theorem KV.val {kvs:List (κ × V)} {vs:List (κ × Value)} (r:KV kvs vs) (k:κ):yc4 (u6 kvs k) (valueAt vs k):=by
 unfold KV at r
 induction r with
 | nil=>exact True.intro
 | @cons p q ps qs h t ih =>
  obtain ⟨h1,h2⟩:=h
  by_cases e:p.1=k
  ·have e':q.1=k:=h1.symm.trans e
   have b:valueAt (q :: qs) k=some q.2:=by simp [valueAt,List.find?_cons,e']
   rw [wl e,b]; exact h2
  ·have e':¬ q.1=k:=fun z=>e (h1.trans z)
   have b:valueAt (q :: qs) k=valueAt qs k:=by simp [valueAt,List.find?_cons,e']
   rw [wk e,b]; exact ih
theorem KV.any {kvs:List (κ × V)} {vs:List (κ × Value)} (r:KV kvs vs) (k:κ):(kvs.any fun kv=>decide (kv.1=k))=vs.any fun kv=>decide (kv.1=k):=by
 unfold KV at r
 induction r with
 | nil=>rfl
 | cons h t ih=>rw [List.any_cons,List.any_cons,ih,h.1]
theorem KV.repl {kvs:List (κ × V)} {vs:List (κ × Value)} (r:KV kvs vs) (k:κ) {y:V} {u:Value} (ry:wn y u) :
  KV (kvs.map fun kv=>if kv.1=k then (kv.1,y) else kv) (vs.map fun kv=>if kv.1=k then (kv.1,u) else kv):=by
 unfold KV at r ⊢
 induction r with
 | nil=>exact .nil
 | @cons p q ps qs h t ih =>
  rw [List.map_cons,List.map_cons]
  refine .cons ?_ ih
  obtain ⟨h1,h2⟩:=h
  by_cases e:p.1=k
  ·rw [if_pos e,if_pos (h1.symm.trans e)]; exact ⟨h1,ry⟩
  ·rw [if_neg e,if_neg (fun z=>e (h1.trans z))]; exact ⟨h1,h2⟩
theorem KV.put {kvs:List (κ × V)} {vs:List (κ × Value)} (r:KV kvs vs) (k:κ) {y:V} {u:Value} (ry:wn y u):KV (yb4 kvs k y) (stored vs k u):=by
 unfold yb4 stored
 rw [r.any k]
 by_cases e:(vs.any fun kv=>decide (kv.1=k))=true
 ·rw [if_pos e,if_pos e]; exact r.repl k ry
 ·rw [if_neg e,if_neg e]; exact Paired.snoc r ⟨rfl,ry⟩
theorem KV.length {kvs:List (κ × V)} {vs:List (κ × Value)} (r:KV kvs vs):kvs.length=vs.length:=Paired.length r
end
theorem yju {P:Program} {w:World} {k:Key} {u:Value} (r:wn (kV k) u):(wq P w).is k u=true:=by
 cases k with
 | inl i=>obtain ⟨t,e⟩:=(show ∃ t,u=Value.int i t from r); subst e; exact yde P w i t
 | inr x=>obtain ⟨t,e⟩:=(show ∃ t,u=Value.str x t from r); subst e; exact ydy P w x t
theorem ycp {P:Program} {w:World}:∀ {ks:List Key} {us:List Value},vp (ks.map kV) us->ItemsAre (wq P w) ks us
 | [],_,r=>by rw [List.map_nil] at r; cases r; exact .nil
 | k :: ks,_,r=>by
  rw [List.map_cons] at r
  cases r with
  | cons h t=>exact .cons (yju h) (ycp t)
abbrev KT (H:Hp):List (List Key × V)->List (List Key × Addr × Value)->Prop:=Paired fun p q=>p.1=q.1/\H q.2.1=some (.tup (p.1.map kV))/\wn p.2 q.2.2
theorem KT.val {H:Hp} {kvs:List (List Key × V)} {xs:List (List Key × Addr × Value)} (r:KT H kvs xs) (k:List Key):yc4 (u6 kvs k) ((atKey xs k).map (·.2)):=by
 induction r with
 | nil=>exact True.intro
 | @cons p q ps qs h t ih =>
  obtain ⟨h1,_,h2⟩:=h
  by_cases e:p.1=k
  ·have e':q.1=k:=h1.symm.trans e
   have b:atKey (q :: qs) k=some q.2:=by simp [atKey,List.find?_cons,e']
   rw [wl e,b]; exact h2
  ·have e':¬ q.1=k:=fun z=>e (h1.trans z)
   have b:atKey (q :: qs) k=atKey qs k:=by simp [atKey,List.find?_cons,e']
   rw [wk e,b]; exact ih
theorem KT.repl {H:Hp} {kvs:List (List Key × V)} {xs:List (List Key × Addr × Value)} (r:KT H kvs xs) (k:List Key) {y:V} {u:Value} (ry:wn y u) :
  KT H (kvs.map fun kv=>if kv.1=k then (kv.1,y) else kv) (xs.map (putAt k u)):=by
 induction r with
 | nil=>exact .nil
 | @cons p q ps qs h t ih =>
  rw [List.map_cons,List.map_cons]
  refine .cons ?_ ih
  obtain ⟨h1,h2,h3⟩:=h
  unfold putAt
  by_cases e:p.1=k
  ·rw [if_pos e,if_pos (h1.symm.trans e)]; exact ⟨h1,h2,ry⟩
  ·rw [if_neg e,if_neg (fun z=>e (h1.trans z))]; exact ⟨h1,h2,h3⟩
theorem KT.put {H:Hp} {kvs:List (List Key × V)} {xs:List (List Key × Addr × Value)} (r:KT H kvs xs) (k:List Key) {b:Addr} {y:V} {u:Value} (hb:H b=some (.tup (k.map kV))) (ry:wn y u) :
  KT H (yb4 kvs k y) (storedH xs k b u):=by
 have e:(kvs.any fun kv=>decide (kv.1=k))=(atKey xs k).isSome:=by
  rw [xy,(r.val k).isSome_eq,Option.isSome_map]
 unfold yb4 storedH
 rw [e]
 by_cases q:(atKey xs k).isSome=true
 ·rw [if_pos q,if_pos q]; exact r.repl k ry
 ·rw [if_neg q,if_neg q]; exact Paired.snoc r ⟨rfl,hb,ry⟩
theorem KT.keeps {H H':Hp} {kvs:List (List Key × V)} {xs:List (List Key × Addr × Value)} (r:KT H kvs xs) (ht:∀ b ys,H b=some (.tup ys)->H' b=some (.tup ys)):KT H' kvs xs :=
 Paired.mapP r fun _ _ z=>⟨z.1,ht _ _ z.2.1,z.2.2⟩
section
variable {P:Program} {w:World} {H:Hp} {h:Heap} {a:Addr}
theorem yrz {u:HO} (ok:HOk P w H h) (e:Rd H a u):wj P w H h a u:=e.ok ok
theorem yjo {kvs:List (Key × V)} (ok:HOk P w H h) (e:Rd H a (.dK kvs)):kvs.length <= sizeLine/\(a == sysModules)=false/\∃ vs,KV kvs vs/\h.DictOf (wq P w) a vs :=
 show wj P w H h a (.dK kvs) from yrz ok e
theorem yti {kvs:List (Key × V)} (ok:HOk P w H h) (e:H a=some (.dK kvs)):kvs.length <= sizeLine/\(a == sysModules)=false/\∃ vs,KV kvs vs/\h.DictOf (wq P w) a vs:=yjo ok (.inl e)
theorem yex {ks:List Key} (ok:HOk P w H h) (e:H a=some (.tup (ks.map kV))):(tupleKind (wq P w)).is h ks a:=by
 obtain ⟨_,its,r,o,h1,h2,n,h3⟩:=(show wj P w H h a (.tup (ks.map kV)) from ok a _ e)
 exact ⟨o,its.toArray,n,h1,h2,h3,by simpa using ycp r⟩
theorem yjs {kvs:List (List Key × V)} (ok:HOk P w H h) (e:Rd H a (.dT kvs)):kvs.length <= sizeLine/\(a == sysModules)=false /\
  ∃ xs,KT H kvs xs/\h.DictOfH (tupleKind (wq P w)) a xs:=by
 obtain ⟨z,y,xs,r,o,es,ep,h1,h2,h3,h4,h5⟩:=(show wj P w H h a (.dT kvs) from yrz ok e)
 refine ⟨z,y,xs,r,o,es,ep,h1,h2,h3,h4,fun x hx=>?_,h5⟩
 have all:∀ {l:List (List Key × V)} {m:List (List Key × Addr × Value)},KT H l m->∀ x∈m,(tupleKind (wq P w)).is h x.1 x.2.1:=by
  intro l m q
  induction q with
  | nil=>intro x hx; exact nomatch hx
  | @cons p q ps qs hq t ih =>
   intro x hx
   rcases List.mem_cons.mp hx with e | hx
   ·subst e
    exact yex ok (by rw [<- hq.1]; exact hq.2.1)
   ·exact ih x hx
 exact all r x hx
theorem yss {kvs:List (List Key × V)} (ok:HOk P w H h) (e:H a=some (.dT kvs)):kvs.length <= sizeLine/\(a == sysModules)=false /\
  ∃ xs,KT H kvs xs/\h.DictOfH (tupleKind (wq P w)) a xs:=yjs ok (.inl e)
end
def yih (H:Hp) (a:Addr) (y:V) (r:Option V):Prop :=
 (∃ kvs k,Rd H a (.dK kvs)/\y=kV k/\r=u6 kvs k)\/∃ kvs k b,Rd H a (.dT kvs)/\y=.ref b/\H b=some (.tup (k.map kV))/\r=u6 kvs k
def yoq (H:Hp) (a:Addr) (y v:V) (H':Hp):Prop :=
 (∃ kvs k,H a=some (.dK kvs)/\y=kV k/\kvs.length < sizeLine/\H'=upd H a (.dK (yb4 kvs k v))) \/
 ∃ kvs k b,H a=some (.dT kvs)/\y=.ref b/\H b=some (.tup (k.map kV))/\kvs.length < sizeLine/\H'=upd H a (.dT (yb4 kvs k v))
theorem yih.t {H:Hp} {a b:Addr} {kvs:List (List Key × V)} {k:List Key} (e:H a=some (.dT kvs)) (eb:H b=some (.tup (k.map kV))):yih H a (.ref b) (u6 kvs k):=.inr ⟨kvs,k,b,.inl e,rfl,eb,rfl⟩
theorem yoq.t {H:Hp} {a b:Addr} {kvs:List (List Key × V)} {k:List Key} {v:V} (e:H a=some (.dT kvs)) (eb:H b=some (.tup (k.map kV))) (hl:kvs.length < sizeLine) :
  yoq H a (.ref b) v (upd H a (.dT (yb4 kvs k v))):=.inr ⟨kvs,k,b,e,rfl,eb,hl,rfl⟩
section
variable {X:Cx} {pins:List (Addr × Obj)} {σ:St} {H:Hp} {s:Shared} {a:Addr} {y v:V} {u r:Value} {o:Option V} {A:Around} {E:Value->Shared->Prop}
theorem Inv.big (I:Inv X pins σ H s):sysModules < s.heap.objs.size:=by
 have h:mainGlobals < s.heap.objs.size:=(I.mod.glob.keeps I.bk).lt
 exact Nat.lt_trans (by decide) h
theorem ygf {Q:Value->Shared->Prop} (hu:A.units+1 < cLine) (I:Inv X pins σ H s) (g:yih H a y (some v)) (ry:wn y u) (h:∀ w' s',Inv X pins σ H s'->wn v w'->Q w' s') :
  wpAny (model X.prog X.w) A (getItem (.ref a) u) Q E s:=by
 rcases g with ⟨kvs,k,e,ey,l⟩ | ⟨kvs,k,b,e,ey,eb,l⟩
 ·subst ey
  obtain ⟨z,hd,vs,rel,dd⟩:=yjo I.hok e
  obtain ⟨w',hw,rw'⟩:=yc4.some_of (v:=v) (o:=valueAt vs k) (by rw [l]; exact rel.val k)
  exact wpAny_getItem_of (yju ry) dd.mapOf hw (h w' _ (I.tok _) rw')
 ·subst ey
  cases (show u=Value.ref b from ry)
  obtain ⟨z,hd,xs,rel,dd⟩:=yjs I.hok e
  obtain ⟨w',hw,rw'⟩:=yc4.some_of (v:=v) (o:=(atKey xs k).map (·.2)) (by rw [l]; exact rel.val k)
  obtain ⟨p,hp,hp2⟩:=Option.map_eq_some_iff.mp hw
  refine wpAny_getItem_heap (tupleKind_room_in1 hu) (yex I.hok eb) dd hp ?_
  rw [hp2]
  exact h w' _ (I.tok _) rw'
theorem ymy {Q:Value->Shared->Prop} (hu:A.units+1 < cLine) (I:Inv X pins σ H s) (g:yih H a y o) (ry:wn y u) (h:∀ s',Inv X pins σ H s'->Q (.bool (!o.isSome)) s') :
  wpAny (model X.prog X.w) A (compareOp .NotIn u (.ref a)) Q E s:=by
 rcases g with ⟨kvs,k,e,ey,l⟩ | ⟨kvs,k,b,e,ey,eb,l⟩
 ·subst ey
  obtain ⟨z,hd,vs,rel,dd⟩:=yjo I.hok e
  refine wpAny_notIn_of (yju ry) hd dd.mapOf ?_
  rw [<- (rel.val k).isSome_eq,<- l]
  exact h _ (I.tok _)
 ·subst ey
  cases (show u=Value.ref b from ry)
  obtain ⟨z,hd,xs,rel,dd⟩:=yjs I.hok e
  refine wpAny_notIn_heap (tupleKind_room_in1 hu) (yex I.hok eb) hd dd ?_
  have q:=(rel.val k).isSome_eq
  rw [Option.isSome_map] at q
  rw [<- q,<- l]
  exact h _ (I.tok _)
theorem yhn {h':Heap} {t':Nat} {ob:HO} (I:Inv X pins σ H s) (mu:Mut (H a)) (hs:Heap.SameBut a s.heap h') (he:∃ q,h'.get? a=some q) (new:wj X.prog X.w (upd H a ob) h' a ob) :
  Inv X pins σ (upd H a ob) { s with heap:=h',toks:=t' } :=
 I.write (x:=a) (e:=a) mu (.inl rfl) (fun b q hb z=>(hs.2 b hb).trans z) he new
theorem yrq {P:Program} {w:World} {H':Hp} {h':Heap} {kvs:List (Key × V)} {vs:List (Key × Value)} (z:kvs.length <= sizeLine) (hd:(a == sysModules)=false) (rel:KV kvs vs) (dd:h'.DictOf (wq P w) a vs) :
  wj P w H' h' a (.dK kvs):=⟨z,hd,vs,rel,dd⟩
theorem ygv {H':Hp} {Q:Unit->Shared->Prop} (hu:A.units+1 < cLine) (I:Inv X pins σ H s) (g:yoq H a y v H') (ry:wn y u) (rv:wn v r) (h:∀ s',Inv X pins σ H' s'->Q () s') :
  wpAny (model X.prog X.w) A (setItem (.ref a) u r) Q E s:=by
 rcases g with ⟨kvs,k,e,ey,l,eH⟩ | ⟨kvs,k,b,e,ey,eb,l,eH⟩
 ·subst ey eH
  obtain ⟨z,hd,vs,rel,dd⟩:=yti I.hok e
  have hz:vs.length <= sizeLine:=by rw [<- rel.length]; exact z
  have hl:(yb4 kvs k v).length <= sizeLine:=by have:=jr kvs k v; omega
  refine wpAny_setItem_pairs (hsz:=hz) (yju ry) dd fun h' dd' hs=>h _ ?_
  have he:∃ q,h'.get? a=some q:=let ⟨q,_,_,hq,_⟩:=dd'; ⟨q,hq⟩
  exact yhn I (by rw [e]; exact True.intro) hs he (yrq hl hd (rel.put k rv) dd')
 ·subst ey eH
  cases (show u=Value.ref b from ry)
  obtain ⟨z,hd,xs,rel,dd⟩:=yss I.hok e
  have hz:xs.length <= sizeLine:=by rw [<- Paired.length rel]; exact z
  have hl:(yb4 kvs k v).length <= sizeLine:=by have:=jr kvs k v; omega
  refine wpAny_setItem_heap (hsz:=hz) (tupleKind_room_in1 hu) (yex I.hok eb) dd fun h' dd' hs=>h _ ?_
  obtain ⟨q,es,ep,hq,h2,h3,h4,_,h5⟩:=dd'
  refine yhn I (by rw [e]; exact True.intro) hs ⟨q,hq⟩ ⟨hl,hd,_,(rel.put k eb rv).keeps fun c ys ec=>?_,q,es,ep,hq,h2,h3,h4,h5⟩
  rw [yi (xu ec e (fun z=>nomatch z))]
  exact ec
end
section
variable {X:Cx} {pins:List (Addr × Obj)} {σ:St} {H:Hp} {s:Shared} {a:Addr} {kvs:List (Key × V)} {k:Key} {u:Value} {A:Around} {E:Value->Shared->Prop}
end
def yup (i:Expr):Prop:=∀ ov iv,subscripted i false ov iv=operate [ov,iv] (getItem ov iv)
theorem yl7 {prog:Program} {w:World} {A:Around} {E:Value->Shared->Prop} {s:Shared} {env:Env} {value slice:Expr} {pos:Pos} {T id:String} {Q:Value->Shared->Prop}
  (hl:typeLookup (.type T) "__getitem__"=pure (some (.builtin id))) (hs:yup slice)
  (h:wpAny (model prog w) A (eval value env) (fun o s₁=>wpAny (model prog w) A (eval slice env) (fun i s₂=>s₂.TypeIs o T/\wpAny (model prog w) A (getItem o i) Q E s₂) E s₁) E s) :
  wpAny (model prog w) A (eval (.Subscript value slice pos) env) Q E s:=by
 refine Subscript_ (wpAny_mono h (fun o s₁ h₁=>wpAny_mono h₁ (fun i s₂ h₂=>?_) fun _ _ x=>x) fun _ _ x=>x)
 obtain ⟨hT,h₂⟩:=h₂
 unfold subscriptTail
 refine wpAny_bind ?_
 rw [getitemInPython_of_ne hT.not_modules]
 refine wpAny_bind (wpAny_specialOf hT hl ?_)
 have fin:wpAny (model prog w) A (subscripted slice false o i) (fun r s₃=>wpAny (model prog w) A (letTemporaryGo value o r >>= fun _=>pure r) Q E s₃) E s₂:=by
  rw [hs o i]
  exact wpAny_operating (wpAny_mono h₂ (fun r s₃ h₃=>wpAny_bind (wpAny_letTemporaryGo (wpAny_pure h₃))) fun _ _ x=>x)
 first
  | exact wpAny_pure (wpAny_bind fin)
  | exact wpAny_bind (wpAny_pure (wpAny_bind fin))
  | exact wpAny_bind fin
theorem ydg {X:Cx} {pins:List (Addr × Obj)} {σ:St} {H:Hp} {s:Shared} {a:Addr} {y:V} {o:Option V} (I:Inv X pins σ H s) (g:yih H a y o):s.TypeIs (.ref a) "dict":=by
 rcases g with ⟨kvs,k,e,_,_⟩ | ⟨kvs,k,b,e,_,_,_⟩
 ·obtain ⟨_,_,vs,_,dd⟩:=yjo I.hok e
  exact dd.typeIs
 ·obtain ⟨_,_,xs,_,dd⟩:=yjs I.hok e
  exact dd.typeIs
def ysg (td ty:TE):TE:=fun σ H Q=>td σ H fun x H1=>ty σ H1 fun y H2=>∃ a v,x=.ref a/\yih H2 a y (some v)/\Q v H2
def yhp (ty td:TE):TE:=fun σ H Q=>ty σ H fun y H1=>td σ H1 fun x H2=>∃ a o,x=.ref a/\yih H2 a y o/\Q (.bl (!o.isSome)) H2
def ysa (td ty tv:TE):TS:=fun D σ H=>tv σ H fun v H1=>td σ H1 fun x H2=>ty σ H2 fun y H3=>∃ a H4,x=.ref a/\yoq H3 a y v H4/\D.nx σ H4
section
variable {X:Cx} {o i e value:Expr} {pos pos' tpos:Pos} {td ty tv:TE}
theorem ymv (hu:X.A.units+1 < cLine) (ho:PE X o td) (hi:PE X i ty) (hs:yup i):PE X (.Subscript o i pos) (ysg td ty):=by
 intro pins s σ H Q I h
 refine yl7 PySem.F.slot_dict_getitem.lookup hs (thn (ho pins s σ H _ I h) fun u s1 ⟨x,H1,I1,rx,q1⟩=>thn (hi pins s1 σ H1 _ I1 q1) fun iv s2 ⟨y,H2,I2,ry,a,v,ex,g,q2⟩=>?_)
 subst ex
 obtain rfl:u=Value.ref a:=rx
 exact ⟨ydg I2 g,ygf hu I2 g ry fun w' s3 I3 rw'=>⟨v,H2,I3,rw',q2⟩⟩
theorem ygr (hu:X.A.units+1 < cLine) (hi:PE X i ty) (ho:PE X o td):PC X .NotIn i o (yhp ty td):=by
 intro pins s σ H Q I h
 refine thn (hi pins s σ H _ I h) fun iv s1 ⟨y,H1,I1,ry,q1⟩=>thn (ho pins s1 σ H1 _ I1 q1) fun u s2 ⟨x,H2,I2,rx,a,ov,ex,g,q2⟩=>?_
 subst ex
 obtain rfl:u=Value.ref a:=rx
 exact ymy hu I2 g ry fun s3 I3=>⟨.bl (!ov.isSome),H2,I3,rfl,q2⟩
theorem yhw (hu:X.A.units+1 < cLine) (ho:PE X o td) (hi:PE X i ty) (hv:PE X value tv) (hs:swapsWith value (some (.Subscript o i pos')) pos.line X.env=pure false) :
  PS X (.Assign [.Subscript o i pos'] value pos) (ysa td ty tv):=by
 intro pins s σ H D I h
 refine wpAny_Assign_Subscript (thn (hv pins s σ H _ I h) fun r s1 ⟨v,H1,I1,rv,q1⟩=>thn (ho pins s1 σ H1 _ I1 q1) fun u s2 ⟨x,H2,I2,rx,q2⟩=>thn (hi pins s2 σ H2 _ I2 q2) fun iv s3 ⟨y,H3,I3,ry,a,H4,ex,g,q3⟩=>?_) hs
 subst ex
 obtain rfl:u=Value.ref a:=rx
 exact ygv hu I3 g ry rv fun s4 I4=>⟨σ,H4,I4,q3⟩
end
theorem yis {P:Program} {w:World} {H:Hp} (h:Heap) (hb:sysModules < h.objs.size):wj P w H (h.push { cls:=.type "dict",data:=.dict #[] }) h.objs.size (.dT []) :=
 ⟨Nat.zero_le _,beq_eq_false_iff_ne.mpr (Ne.symm (Nat.ne_of_lt hb)),[],.nil,_,#[],0,Heap.get?_push_size _ rfl,⟨rfl,rfl,rfl⟩,rfl,rfl,List.nodup_nil⟩
def ykx:TE:=fun _ H Q=>∀ p,H p=none->Q (.ref p) (upd H p (.dT []))
section
variable {X:Cx} {pos:Pos}
theorem yeu:PE X (.Dict [] [] pos) ykx:=fun pins s σ H Q I h =>
 wpAny_Dict_empty ⟨.ref s.heap.objs.size,_,I.laid (a:=s.heap.objs.size) (o:=.dT []) (t':=s.toks) (fun _ _ q=>Heap.get?_push_of_some _ q) (Nat.le_refl _) (yis s.heap I.big),rfl,h _ (I.hok.fresh (Nat.le_refl _))⟩
end
structure M1 (X:Cx) (o:Expr) (m:Str) (apos:Pos) (e:Expr) (cpos:Pos):Prop where
 base:attributeBase o m X.env (eval o X.env)=eval o X.env
 few:((backTo cpos (starEach [e] X.env)).all (fun x=>!x.1) && (backToKw cpos (keywordEach [] X.env)).all (fun x=>x.1.isSome)
  && decide (([e]:List Expr).length+([]:List Keyword).length+(if ([]:List Keyword).isEmpty then 0 else 1) < 30))=true
 line:(apos.endLine == cpos.line)=true
 trees:backTo cpos (starEach [e] X.env)=[(false,eval e X.env)]
structure M2 (X:Cx) (o:Expr) (m:Str) (apos:Pos) (e f:Expr) (cpos:Pos):Prop where
 base:attributeBase o m X.env (eval o X.env)=eval o X.env
 few:((backTo cpos (starEach [e,f] X.env)).all (fun x=>!x.1) && (backToKw cpos (keywordEach [] X.env)).all (fun x=>x.1.isSome)
  && decide (([e,f]:List Expr).length+([]:List Keyword).length+(if ([]:List Keyword).isEmpty then 0 else 1) < 30))=true
 line:(apos.endLine == cpos.line)=true
 trees:backTo cpos (starEach [e,f] X.env)=[(false,eval e X.env),(false,eval f X.env)]
section
variable {X:Cx} {pins:List (Addr × Obj)} {σ:St} {H:Hp} {s:Shared} {a:Addr} {y d:V} {u r:Value} {o:Option V} {A:Around} {E:Value->Shared->Prop}
end
section
variable {X:Cx} {o e f:Expr} {apos cpos:Pos} {td ty tx:TE}
end
section
variable {X:Cx} {pins:List (Addr × Obj)} {σ:St} {H:Hp} {s:Shared} {a:Addr} {kvs:List (Key × V)} {A:Around} {E:Value->Shared->Prop}
end
section
variable {X:Cx} {pins:List (Addr × Obj)} {σ:St} {H:Hp} {s:Shared} {a:Addr} {y:V} {u:Value} {A:Around} {E:Value->Shared->Prop}
end
end L2
namespace L2
open PySem PySem.Spec PyProof.Rows
@[irreducible] def QE (X:Cx) (e:Expr) (t:TE):Prop:=PE X e t
@[irreducible] def QSs (X:Cx) (st:List Stmt) (t:TS):Prop:=PSs X st t
section
variable {X:Cx} {e:Expr} {es:List Expr} {te:TE} {t:TA} {pos:Pos} {ts us:TS} {st:Stmt} {jh:List Stmt}
end
end L2
namespace L2
open PySem PySem.Spec PyProof.Rows
@[irreducible] def QS (X:Cx) (st:Stmt) (t:TS):Prop:=PS X st t
section
variable {X:Cx} {e:Expr} {te:TE} {pos:Pos} {ts us:TS} {st:Stmt} {jh:List Stmt}
theorem yk {R:TS->Prop} (h1:PS X st ts) (h2:∃ us,PSs X jh us/\R (yt9 ts us)):∃ t,PSs X (st :: jh) t/\R t:=let ⟨_,a,b⟩:=h2; ⟨_,yn h1 a,b⟩
end
end L2
namespace L2
open PySem PySem.Spec PyProof.Rows
theorem yee:∀ {bs:List Bool} {us:List Value},vp (bs.map V.bl) us->us=bs.map Value.bool
 | [],_,.nil=>rfl
 | b :: r,_,.cons a t=>by rw [show _=Value.bool b from a,yee t]; rfl
theorem yg6 (bs:List Bool):((List.range bs.length).all fun i=>(bs[i]?).getD true)=bs.all id:=by
 rw [Bool.eq_iff_iff,List.all_eq_true,List.all_eq_true]
 constructor
 ·intro h b hb
  obtain ⟨i,hi,rfl⟩:=List.getElem_of_mem hb
  have:=h i (List.mem_range.mpr hi)
  rw [List.getElem?_eq_getElem hi] at this
  exact this
 ·intro h i hi
  have hi:=List.mem_range.mp hi
  rw [List.getElem?_eq_getElem hi]
  exact h _ (List.getElem_mem hi)
section
variable {X:Cx}
theorem je (hc:X.calm=true):yak X (.builtin "all") (fun xs H Q=>∃ p bs,xs=[.ref p]/\SqL X.K H p (List.map V.bl bs)/\Q (.bl (bs.all id)) H):=by
 intro pins s σ H xs us Q I r h
 obtain ⟨p,bs,rfl,hq,q⟩:=h
 obtain ⟨u,rfl,rx⟩:=yid r
 cases rx
 obtain ⟨its,r',pl,hz⟩:=I.list hq
 obtain rfl:=yee r'
 have hl:=pl.isList
 have hlt:p < s.heap.objs.size:=by obtain ⟨_,e,_⟩:=hl; exact Heap.lt_size e
 refine call_all_walk (wpAny_pyIter_list hl ?_)
 refine ⟨s.heap.objs.size,[s.heap.objs.size,p],[s.heap.objs.size],(bs.map Value.bool).toArray.size,_,_,fun i=>(bs[i]?).getD true,rfl,Walks.list (A:=X.A.in1) (show X.A.handled=none from I.ok.hd hc) _ p (Nat.ne_of_lt hlt) (bs.map Value.bool).toArray,
  ⟨⟨_,Heap.get?_push_size _ rfl,rfl,rfl⟩,hl.push _⟩,fun i v s' Q' E' hP hQ=>?_,fun h' tk hk=>?_⟩
 ·have hP:(bs.map Value.bool)[i]?=some v:=by simpa using hP
  rw [List.getElem?_map] at hP
  cases e:bs[i]? with
  | none=>rw [e] at hP; cases hP
  | some b =>
   dsimp only at hQ
   rw [e] at hP hQ
   cases hP
   exact wpAny_truthy_bool hQ
 ·have e:((List.range (bs.map Value.bool).toArray.size).all fun i=>(bs[i]?).getD true)=bs.all id:=by
   rw [List.size_toArray,List.length_map]
   exact yg6 bs
  rw [e]
  refine ⟨.bl (bs.all id),H,I.kept (t':=tk) fun b x e=>hk b x (fun hm=>?_) (Heap.get?_push_of_some _ e),rfl,q⟩
  rw [List.mem_singleton.mp hm] at e
  exact Nat.lt_irrefl _ (Heap.lt_size e)
end
end L2
namespace L2
open PySem PySem.Spec PyProof.Rows
theorem vm {env:Env}:∀ {names:List (Str × NameKind)} {x:Str} {k:NameKind},
  (names.map fun (n,k)=>if (k == NameKind.free && env.scope.kind == .function && env.kindOf n == some .cell) then (n,NameKind.cell) else (n,k)).lookup x=some k->∃ k0,(x,k0)∈names/\(k=k0\/k0=.free)
 | [],_,_,h=>by simp at h
 | (n,k1) :: r,x,k,h=>by
  rw [List.map_cons] at h
  by_cases hx:x=n
  ·subst hx
   refine ⟨k1,.head _,?_⟩
   dsimp only at h
   split at h
   ·rename_i hc
    simp only [Bool.and_eq_true,beq_iff_eq] at hc
    exact .inr hc.1.1
   ·simp [List.lookup] at h
    exact .inl h.symm
  ·have:(x == n)=false:=by simpa using hx
   have h':(r.map fun (n,k)=>if (k == NameKind.free && env.scope.kind == .function && env.kindOf n == some .cell) then (n,NameKind.cell) else (n,k)).lookup x=some k:=by
    dsimp only at h
    split at h <;> simpa [List.lookup,this] using h
   obtain ⟨k0,m,q⟩:=vm h'
   exact ⟨k0,.tail _ m,q⟩
def x4 (ys:List Str) (env:Env):List (Str × Addr):=ys.map fun y=>(y,(env.cells.lookup y).getD 0)
theorem jb {env:Env}:∀ {ys:List Str} {y:Str} {c:Addr},(x4 ys env).lookup y=some c->y∈ys/\c=(env.cells.lookup y).getD 0
 | [],_,_,h=>by simp [x4] at h
 | z :: r,y,c,h=>by
  by_cases hy:y=z
  ·subst hy
   simp [x4,List.lookup] at h
   exact ⟨.head _,h.symm⟩
  ·have hb:(y == z)=false:=by simpa using hy
   have h':(x4 r env).lookup y=some c:=by simpa [x4,List.lookup,hb] using h
   obtain ⟨m,e⟩:=jb h'
   exact ⟨.tail _ m,e⟩
theorem xv {env:Env}:∀ {ys:List Str} {y:Str},y∈ys->(x4 ys env).lookup y=some ((env.cells.lookup y).getD 0)
 | z :: r,y,h=>by
  by_cases hy:y=z
  ·subst hy
   simp [x4,List.lookup]
  ·have hb:(y == z)=false:=by simpa using hy
   have hm:y∈r:=by
    rcases List.mem_cons.mp h with q | q
    ·exact absurd q hy
    ·exact q
   have:=xv (env:=env) hm
   simpa [x4,List.lookup,hb] using this
abbrev Cx.compF (X:Cx) (scope:Scope) (ys:List Str) (C:Addr) (x:Str) (s2:Shared) (H2:Hp) (fp:List Addr):Cx :=
 { X with N:=x :: ys,s₀:=s2,H₀:=H2,env:=compEnvC scope (x4 ys X.env) C X.env,outer:=X.stack,ex:=fp,fn:=fun _=>false,pn:=[],xe:=fun _ _=>False }
def ub (J:It) (te:TE) (fr:St) (D:Addr) (R:Hp->Prop) (H1:Hp):Prop:=∃ W:Nat->Nat->Hp->Prop,(∃ m,W 0 m (upd H1 D (.lst []))) /\
 ∀ i m H2,W i m H2->(J.stop i H2/\R H2)\/(J.go i H2/\∀ x H3,J.yld i H2 x H3->te (some x :: fr) H3 fun y H4=>∃ ys,H4 D=some (.lst ys)/\ys.length < sizeLine/\∃ m',m' < m/\W (i+1) m' (upd H4 D (.lst (ys++[y]))))
def vd (js:List Nat) (σ:St):St:=js.map fun j=>(σ[j]?).getD none
def yib (wi:TI) (te:TE) (js:List Nat):TE:=fun σ H Q=>wi σ H fun J H1=>∀ D,H1 D=none->ub J te (vd js σ) D (fun H2=>Q (.ref D) H2) H1
section
variable {X:Cx} {iter elt:Expr} {x:Str} {px pos:Pos} {scope:Scope} {te:TE} {wi:TI} {pins:List (Addr × Obj)} {σ:St} {ys:List Str} {js:List Nat}
theorem yao {s2:Shared} {H2:Hp} {it:Addr} {fp:List Addr} {tn:Nat->Heap->Prop} {J:It} (hc:X.calm=true)
  (he:∀ (C:Addr) (s2:Shared) (H2:Hp) (fp:List Addr),PE (X.compF scope ys C x s2 H2 fp) elt te)
  (hcell:∀ y∈scope.names,y.2≠.cell) (hkind:scope.kind=.function) (hx:scope.names.lookup x=some .local) (hnd:(x :: ys).Nodup)
  (hfr:∀ y∈scope.names,y.2=.free->y.1∈ys) (hyc:∀ y∈ys,X.env.kindOf y=some .cell) (hrel:∀ y∈ys,(relabel scope X.env).names.lookup y=some .cell) (hjs:js.map (fun j=>X.N[j]?)=ys.map some)
  (I2:Inv X pins σ H2 s2) (T:yii X.prog X.w X.K (.Name x px) J fp it tn) (st2:tn 0 s2.heap) (f2:∀ b∈fp,yb5 X pins H2 b)
  {R:Addr->Hp->Prop} (h:∀ D,H2 D=none->ub J te (vd js σ) D (R D) H2) {RR:Value->Addr->Result->Shared->Prop} {E:Value->Shared->Prop}
  (hR:∀ (D C:Addr) (H':Hp) (s':Shared) (m:Str->Option Value),yb5 X pins H' C->s'.heap.Ns C m->Inv X pins σ H' s'->R D H'->RR (.ref D) C (.ok .next) s') :
  wpAny (model X.prog X.w) X.A (newList []) (fun acc s₃=>wpAny (model X.prog X.w) X.A (newFunctionEnv scope X.env.globals (x4 ys X.env) [] X.env.qual none .none (some X.env)) (fun cenv s₄ =>
   codeAny (model X.prog X.w) X.A (.compStart (.ListComp elt [⟨.Name x px,iter,[],0⟩] scope pos) 0 (.ref it) acc { cenv with scope:=relabel scope X.env }) (RR acc cenv.locals) s₄) E s₃) E s2:=by
 have hsub:∀ y c,(x4 ys X.env).lookup y=some c->X.env.cells.lookup y=some c:=fun y c e=>by
  obtain ⟨m,rfl⟩:=jb e
  obtain ⟨c',q⟩:=I2.ok.has y (.inl (hyc y m))
  rw [q]
  rfl
 refine wpAny_newObj_type (wpAny_newFunctionEnv hcell (by intro y hy; simp at hy) (fun h₁ hns₁ hsb₁=>?_) hkind)
 dsimp only at hns₁ hsb₁ ⊢
 generalize hH2:s2.heap.push { cls:=.type "list",dict:=none,data:=.seq ([]:List Value).toArray }=G at hns₁ hsb₁ ⊢
 have hC:G.objs.size=s2.heap.objs.size+1:=by rw [<- hH2,Heap.size_push]
 have hDC:s2.heap.objs.size≠G.objs.size:=by rw [hC]; exact Nat.ne_of_lt (Nat.lt_succ_self _)
 have hCle:s2.heap.objs.size <= G.objs.size:=by rw [hC]; exact Nat.le_succ _
 have below:∀ b,b < s2.heap.objs.size->b≠G.objs.size/\b≠s2.heap.objs.size:=fun b hb=>⟨by rw [hC]; exact Nat.ne_of_lt (Nat.lt_succ_of_lt hb),Nat.ne_of_lt hb⟩
 have old:∀ b o,s2.heap.get? b=some o->h₁.get? b=some o:=fun b o e=>hsb₁.extBut b o (below b (Heap.lt_size e)).1 (Heap.get?_push_of_some _ (hH2 ▸ Heap.get?_push_of_some _ e))
 have hacc:h₁.get? s2.heap.objs.size=some { cls:=.type "list",data:=.seq ([]:List Value).toArray }:=hsb₁.extBut _ _ hDC (Heap.get?_push_of_some _ (hH2 ▸ Heap.get?_push_size _ rfl))
 have fpl:∀ b∈fp,b < s2.heap.objs.size:=fun b hb=>let ⟨_,e,_⟩:=T.obj 0 _ st2 b hb; Heap.lt_size e
 have fpS:∀ b∈fp,b∉frs X.stack:=fun b hb z=>(List.mem_cons.mp (I2.stkSub b z)).elim (f2 b hb).2.1 (f2 b hb).2.2.1
 have nC:H2 G.objs.size=none:=I2.hok.fresh hCle
 have nD:H2 s2.heap.objs.size=none:=I2.hok.fresh (Nat.le_refl _)
 have cellOld:∀ y c,(x4 ys X.env).lookup y=some c->∃ v o,s2.heap.get? c=some o/\o.data=.cell v:=fun y c e=>by
  obtain ⟨v,o,q1,q2⟩:=I2.cell y c (hsub y c e)
  exact ⟨v,o,q1,q2⟩
 have okC:(X.compF scope ys G.objs.size x s2 H2 fp).Ok:=by
  refine ⟨I2.ok.mod,hkind,I2.ok.glob,I2.ok.blt,hCle,fun y z c e e'=>I2.ok.inj y z c (hsub y c e) (hsub z c e'),fun y e=>?_,fun y c z e=>(by cases z),I2.ok.hd,I2.ok.frames,.inl rfl,fun b hb=>⟨(below b (fpl b hb)).1,fun y c e=>(f2 b hb).2.2.2.2.1 y c (hsub y c e)⟩,I2.bs,?_,fun b o e hb=>?_,fun b hb=>fpS b hb,I2.stack,I2.stkFree⟩
  ·have e':(relabel scope X.env).names.lookup y=some .cell\/(relabel scope X.env).names.lookup y=some .free:=e
   have hin:y∈ys:=by
    rcases e' with e' | e'
    ·obtain ⟨k0,m,q⟩:=vm e'
     rcases q with q | q
     ·exact absurd q.symm (hcell _ m)
     ·exact hfr _ m q
    ·obtain ⟨k0,m,q⟩:=vm e'
     rcases q with q | q
     ·exact hfr _ m q.symm
     ·exact hfr _ m q
   exact ⟨_,xv hin⟩
  ·exact Nat.le_trans I2.ok.bsz I2.sz
  ·rcases (f2 b hb).2.2.2.1 with z | z
   ·exact I2.ok.noex b o e z
   ·exact absurd (Nat.lt_of_lt_of_le (Heap.lt_size (I2.ok.bs b o e).1) z) (Nat.lt_irrefl _)
 have hlen:(vd js σ).length=ys.length:=by
  have:=congrArg List.length hjs
  simpa [vd] using this
 have I3:∀ tk,Inv (X.compF scope ys G.objs.size x s2 H2 fp) [] (none :: vd js σ) (upd H2 s2.heap.objs.size (.lst [])) { s2 with heap:=h₁,toks:=tk }:=fun tk =>
  ⟨okC,rfl,I2.bare,Un.laid old (Nat.le_refl _) nD,⟨_,hns₁,fun i y v e1 e2 e3=>by
    cases i with
    | zero=>cases e2
    | succ i =>
     have e1:ys[i]?=some y:=by simpa using e1
     have e2:(vd js σ)[i]?=some (some v):=by simpa using e2
     have hy:y∈ys:=List.mem_of_getElem? e1
     have ej:=congrArg (fun l=>l[i]?) hjs
     simp only [List.getElem?_map,e1,Option.map_some] at ej
     cases q:js[i]? with
     | none=>rw [q] at ej; cases ej
     | some j =>
      rw [q] at ej
      have ej:X.N[j]?=some y:=by simpa using ej
      have es:σ[j]?=some (some v):=by
       simp only [vd,List.getElem?_map,q,Option.map_some,Option.some.injEq] at e2
       cases r:σ[j]? with
       | none=>rw [r] at e2; cases e2
       | some w'=>rw [r] at e2; rw [show w'=some v from e2]
      obtain ⟨m0,_,hl0⟩:=I2.loc
      obtain ⟨u,ru,lk⟩:=hl0 j y v ej es (.inr (.inl (hyc y hy)))
      refine ⟨u,ru,.inr ⟨.inl (hrel y hy),?_⟩⟩
      rcases lk with ⟨k1,_⟩ | ⟨_,c,ec,o,ho,hd⟩
      ·rw [hyc y hy] at k1; cases k1
      ·refine ⟨c,?_,o,old c o ho,hd⟩
       show (x4 ys X.env).lookup y=some c
       rw [xv hy,ec]
       rfl⟩,fun y c e=>(by
    obtain ⟨v,o,q1,q2⟩:=cellOld y c e
    exact ⟨v,o,old c o q1,q2⟩),(by show upd H2 s2.heap.objs.size _ G.objs.size=none; rw [yi hDC.symm]; exact nC),fun y c e=>(by
    obtain ⟨v,o,q1,q2⟩:=cellOld y c e
    show upd H2 s2.heap.objs.size _ c=none
    rw [yi (below c (Heap.lt_size q1)).2]
    exact I2.freeC y c (hsub y c e)),fun p hp=>(by simp at hp),
   I2.hok.laid old (Nat.le_refl _) ⟨Nat.zero_le _,[],_,.nil,hacc⟩,by show (none :: vd js σ).length=(x :: ys).length; simp [hlen]⟩
 have stat:∀ {H':Hp},(∀ b∈fp,H' b=none)->∀ b∈fp,yb5 (X.compF scope ys G.objs.size x s2 H2 fp) [] H' b:=fun hn b hb=>⟨hn b hb,(below b (fpl b hb)).1,fpS b hb,.inl hb,fun y c e=>(f2 b hb).2.2.2.2.1 y c (hsub y c e),fun p hp=>(by simp at hp)⟩
 have loop:∀ tk,codeAny (model X.prog X.w) X.A (.compLoop (.ListComp elt [⟨.Name x px,iter,[],0⟩] scope pos) 0 (.ref it) (.ref s2.heap.objs.size) (compEnvC scope (x4 ys X.env) G.objs.size X.env)) (RR (.ref s2.heap.objs.size) G.objs.size) { s2 with heap:=h₁,toks:=tk }:=by
  intro tk
  obtain ⟨W,⟨m0,w0⟩,turn⟩:=h s2.heap.objs.size nD
  refine codeAny_loop rfl (fun n s'=>∃ i v H',Inv (X.compF scope ys G.objs.size x s2 H2 fp) [] (v :: vd js σ) H' s'/\tn i s'.heap/\(∀ b∈fp,H' b=none)/\W i n H') (fun n s' hI=>?_) m0
   ⟨0,none,_,I3 tk,T.keep 0 _ _ st2 (fun b hb o e=>old b o e),fun b hb=>(by rw [yi (below b (fpl b hb)).2]; exact (f2 b hb).1),w0⟩
  obtain ⟨i,v,H',I,st,fr,w⟩:=hI
  show wpAny _ _ ((compTurn (.ListComp elt [⟨.Name x px,iter,[],0⟩] scope pos) 0 (.ref it) (.ref s2.heap.objs.size) (compEnvC scope (x4 ys X.env) G.objs.size X.env)).onRaise (fun x=>do noteFrame x (compEnvC scope (x4 ys X.env) G.objs.size X.env); theTreesLotGoes x)) _ _ s'
  refine wpAny_noted ?_
  rw [compTurn_list1]
  refine wpAny_bind (wpAny_standAt (wpAny_bind ?_))
  rcases turn i n H' w with ⟨stop,q⟩ | ⟨go,step⟩
  ·refine thn (T.done (X.compF scope ys G.objs.size x s2 H2 fp) rfl rfl rfl hc i [] s' (v :: vd js σ) H' _ I (stat fr) st stop) fun r s4 ⟨hr,I4⟩=>?_
   subst hr
   refine wpAny_pure ?_
   obtain ⟨m,hn,_⟩:=I4.loc
   exact hR _ _ H' s4 m (I2.fpOk hCle I4.free) hn (I2.call' (ch:=fp) I4.os I4.base I4.hok I4.bare fun b hb=>⟨(f2 b hb).2.2.2.1,(f2 b hb).2.1,(f2 b hb).2.2.2.2.1,(f2 b hb).2.2.2.2.2⟩) q
  ·refine thn (T.item (X.compF scope ys G.objs.size x s2 H2 fp) rfl rfl rfl hc i [] s' (v :: vd js σ) H' _ I (stat fr) st go) fun r s4 ⟨u,hr,h4⟩=>?_
   subst hr
   refine wpAny_bind (thn h4 fun _ s5 ⟨y,H5,I5,r5,y5,st5,fr5⟩=>wpAny_bind ?_)
   have I5':=I5.pinned (stat fr5) (T.obj _ _ st5)
   refine wpAny_assign_Name (zg (i:=0) I5' hnd rfl (Or.inl (lookup_relabel_local hx)) r5 (fun s6 I6=>?_) (Or.inr (lookup_relabel_local hx)))
   refine wpAny_bind (wpAny_bind (yij (he _ _ _ _ _ s6 (some y :: vd js σ) H5 _ I6 (step y H5 y5)) fun u2 s7 ⟨y2,H7,I7,r7,zs,hD,hl,m',hm,w'⟩=>wpAny_bind ?_))
   refine yij (ww _ s7 (some y :: vd js σ) H7 (.ref s2.heap.objs.size) [y2] (.ref s2.heap.objs.size) [u2] (fun _ H8=>H8=upd H7 s2.heap.objs.size (.lst (zs++[y2]))) I7 rfl (.cons r7 .nil) ⟨_,zs,y2,rfl,rfl,hD,hl,rfl⟩) fun _ s8 ⟨_,H8,I8,_,e8⟩=>?_
   subst e8
   have pin:∀ b∈fp,∀ o,s5.heap.get? b=some o->s8.heap.get? b=some o/\upd H7 s2.heap.objs.size (HO.lst (zs++[y2])) b=none:=fun b hb o e =>
    ⟨(I8.pin (b,o) (List.mem_append_right _ (List.mem_append_right _ (vh hb e)))).1,(I8.pin (b,o) (List.mem_append_right _ (List.mem_append_right _ (vh hb e)))).2.1⟩
   refine wpAny_pure (wpAny_pure ⟨rfl,m',hm,i+1,some y,_,I8.unpinned,T.keep _ _ _ st5 fun b hb o e=>(pin b hb o e).1,fun b hb=>?_,w'⟩)
   obtain ⟨o,e,d⟩:=T.obj _ _ st5 b hb
   exact (pin b hb o e).2
 exact codeAny_compStart_list (loop _) (T.self X.A 0 _ _ _ (T.keep 0 _ _ st2 (fun b hb o e=>old b o e)) (loop _))
theorem jc (hc:X.calm=true) (hi:PI X (.Name x px) iter wi) (he:∀ (C:Addr) (s2:Shared) (H2:Hp) (fp:List Addr),PE (X.compF scope ys C x s2 H2 fp) elt te) (hjs:js.map (fun j=>X.N[j]?)=ys.map some)
  (hclos:closureFor scope X.env=pure (x4 ys X.env)) (hnd:(x :: ys).Nodup:=by decide) (hyc:∀ y∈ys,X.env.kindOf y=some .cell) (hrel:∀ y∈ys,(relabel scope X.env).names.lookup y=some .cell)
  (hfr:∀ y∈scope.names,y.2=.free->y.1∈ys:=by decide +kernel) (hcell:∀ y∈scope.names,y.2≠.cell:=by decide +kernel) (hkind:scope.kind=.function:=by rfl)
  (hnames:∀ y∈scope.names,y.2=.local->scope.names.lookup y.1=some .local:=by decide +kernel) (hx:scope.names.lookup x=some .local:=by rfl) (hs:∀ x,foldedSetIterable iter X.env x=pure x:=by intro _; rfl) :
  PE X (.ListComp elt [⟨.Name x px,iter,[],0⟩] scope pos) (yib wi te js):=by
 intro pins s σ H Q I h
 rw [eval_ListComp]
 refine wpAny_comprehension_free (use:=none) rfl hs hclos hkind hnames (thn (hi pins s σ H _ I h) fun v s1 h1=>thn h1 fun itv s2 h2=>?_)
 obtain ⟨it,fp,tn,J,H2,e,I2,T,st2,f2,h⟩:=h2
 subst e
 refine yao (R:=fun D H'=>Q (.ref D) H') (RR:=compPost (model X.prog X.w) X.A X.xe none (EP X pins σ Q)) hc he hcell hkind hx hnd hfr hyc hrel hjs I2 T st2 f2 h ?_
 intro D C H' s' m f hn I' q
 refine ⟨m,hn,fun h' sb=>⟨.ref D,H',?_,rfl,q⟩⟩
 exact I'.turned (t':=s'.toks) (fun b o hb e=>sb.extBut b o hb e) f.1 f.2.1 f.2.2.2.1 f.2.2.2.2.1 f.2.2.2.2.2
theorem yer {i:Nat} {y:Str} {py spos:Pos} (hN:X.N.Nodup) (hy:X.N[i]?=some y) (hl:X.env.scope.names.lookup y=some .local) (hc:X.calm=true) (hi:PI X (.Name x px) iter wi)
  (he:∀ (C:Addr) (s2:Shared) (H2:Hp) (fp:List Addr),PE (X.compF scope ys C x s2 H2 fp) elt te) (hjs:js.map (fun j=>X.N[j]?)=ys.map some)
  (hclos:closureFor scope X.env=pure (x4 ys X.env)) (hyc:∀ y∈ys,X.env.kindOf y=some .cell) (hrel:∀ y∈ys,(relabel scope X.env).names.lookup y=some .cell)
  (hsw:swapsWith (.ListComp elt [⟨.Name x px,iter,[],0⟩] scope pos) (some (.Name y py)) spos.line X.env=pure true:=by rfl) (hnd:(x :: ys).Nodup:=by decide)
  (hfr:∀ y∈scope.names,y.2=.free->y.1∈ys:=by decide +kernel) (hcell:∀ y∈scope.names,y.2≠.cell:=by decide +kernel) (hkind:scope.kind=.function:=by rfl)
  (hnames:∀ y∈scope.names,y.2=.local->scope.names.lookup y.1=some .local:=by decide +kernel) (hx:scope.names.lookup x=some .local:=by rfl) (hs:∀ x,foldedSetIterable iter X.env x=pure x:=by intro _; rfl) :
  PS X (.Assign [.Name y py] (.ListComp elt [⟨.Name x px,iter,[],0⟩] scope pos) spos) (ysh (yib wi te js) (wf i)):=by
 intro pins s σ H D0 I h
 rw [exec_Assign_Name_used _ _ _ _ hsw]
 refine wpAny_bind (wpAny_standAt (wpAny_bind ?_))
 show wpAny _ X.A (do let _ <- comprehension (.ListComp elt [⟨.Name x px,iter,[],0⟩] scope pos) scope X.env _ (newList []) false (eval iter X.env) (some (assign (.Name y py) X.env))) _ _ s
 refine wpAny_bind (wpAny_mono (wpAny_comprehension_free (use:=some (assign (.Name y py) X.env)) (Q:=fun _ s'=>SP X pins D0 .next s') rfl hs hclos hkind hnames (thn (hi pins s σ H _ I h) fun v s1 h1=>thn h1 fun itv s2 h2=>?_)) (fun _ s' hq=>wpAny_pure (wpAny_pure hq)) fun _ _ e=>e)
 obtain ⟨it,fp,tn,J,H2,e,I2,T,st2,f2,h⟩:=h2
 subst e
 refine yao (R:=fun D H'=>wf i (.ref D) σ H' D0.nx) (RR:=compPost (model X.prog X.w) X.A X.xe (some (assign (.Name y py) X.env)) (fun _ s'=>SP X pins D0 .next s')) hc he hcell hkind hx hnd hfr hyc hrel hjs I2 T st2 f2 h ?_
 intro D C H' s' m f hn I' q
 refine wpAny_assign_Name (za (v:=V.ref D) I' hN hy (Or.inl hl) rfl (fun s'' I'' k''=>?_) (Or.inr hl))
 refine ⟨m,?_,fun h' sb=>⟨_,H',?_,q⟩⟩
 ·obtain ⟨b,sb,hb⟩:=k''
  refine hn.sameBut sb fun z=>?_
  rcases hb with hb | hb
  ·exact f.2.1 (z.trans hb)
  ·exact f.2.2.2.2.1 y b hb z.symm
 ·exact I''.turned (t':=s''.toks) (fun b o hb e=>sb.extBut b o hb e) f.1 f.2.1 f.2.2.2.1 f.2.2.2.2.1 f.2.2.2.2.2
theorem ymb {H:Hp} {Q:VK} (h:wi σ H fun J H1=>∀ D,H1 D=none->ub J te (vd js σ) D (fun H2=>Q (.ref D) H2) H1):yib wi te js σ H Q:=h
theorem yav {K:W.Frag} {a D:Addr} {xs:List V} {te:TE} {fr:St} {R:Hp->Prop} {H1:Hp} (Pv:Nat->Hp->Prop) (h0:Pv 0 (upd H1 D (.lst []))) (hl:∀ i H,i <= xs.length->Pv i H->SqL K H a xs)
  (hs:∀ i x H,xs[i]?=some x->i < xs.length->Pv i H->te (some x :: fr) H fun y H4=>∃ ys,H4 D=some (.lst ys)/\ys.length < sizeLine/\∃ m',m' < xs.length - i/\cW xs.length Pv (i+1) m' (upd H4 D (.lst (ys++[y]))))
  (hd:∀ H,Pv xs.length H->R H):ub (Itl K a) te fr D R H1:=by
 refine ⟨cW xs.length Pv,⟨xs.length,by simp,Nat.zero_le _,h0⟩,?_⟩
 rintro i m H ⟨rfl,hi,p⟩
 have q:=hl i H hi p
 by_cases hlt:i < xs.length
 ·refine .inr ⟨⟨xs,xs[i],q,by simp [hlt]⟩,fun x H' y=>?_⟩
  obtain ⟨e,y⟩:=y
  subst e
  exact hs i x _ (y xs q) hlt p
 ·have e:i=xs.length:=by omega
  subst e
  exact .inl ⟨⟨xs,q,Nat.le_refl _⟩,hd H p⟩
theorem jv {lo:Int} {n:Nat} {D:Addr} {te:TE} {fr:St} {R:Hp->Prop} {H1:Hp} (Pv:Nat->Hp->Prop) (h0:Pv 0 (upd H1 D (.lst [])))
  (hs:∀ i H,i < n->Pv i H->te (some (.int (lo+i)) :: fr) H fun y H4=>∃ ys,H4 D=some (.lst ys)/\ys.length < sizeLine/\∃ m',m' < n - i/\cW n Pv (i+1) m' (upd H4 D (.lst (ys++[y]))))
  (hd:∀ H,Pv n H->R H):ub (Itr lo n) te fr D R H1:=by
 refine ⟨cW n Pv,⟨n,by simp,Nat.zero_le _,h0⟩,?_⟩
 rintro i m H ⟨rfl,hi,p⟩
 by_cases hlt:i < n
 ·refine .inr ⟨hlt,fun x H' y=>?_⟩
  obtain ⟨e,y⟩:=y
  subst e y
  exact hs i _ hlt p
 ·have e:i=n:=by omega
  subst e
  exact .inl ⟨Nat.le_refl _,hd H p⟩
end
end L2
namespace L2
theorem vn {α:Type} {P:α->Prop}:∀ y∈([]:List α),P y:=fun _ h=>nomatch h
theorem all_cons {α:Type} {P:α->Prop} {y:α} {r:List α} (h:P y) (t:∀ z∈r,P z):∀ z∈y :: r,P z:=fun z hz=>by
 rcases List.mem_cons.mp hz with e | hz
 ·exact e ▸ h
 ·exact t z hz
end L2
namespace L2
open PySem PySem.Spec PyProof.Rows
section
variable {prog:Program} {w:World} {A:Around} {E:Value->Shared->Prop} {s:Shared}
end
section
variable {X:Cx}
theorem yeh:∀ {ns:List Int} {us:List Value},vp (ns.map V.int) us->∃ xs:Array (Int × Tok),us.toArray=intItems xs/\xs.toList.map (·.1)=ns
 | [],_,.nil=>⟨#[],by simp [intItems],rfl⟩
 | n :: r,_,.cons (l₂:=us) a t=>by
  obtain ⟨tk,rfl⟩:=a
  obtain ⟨xs,e1,e2⟩:=yeh t
  refine ⟨((n,tk) :: xs.toList).toArray,?_,by simp [e2]⟩
  have:us=(intItems xs).toList:=by rw [<- e1]
  rw [this]
  simp [intItems]
theorem z9 (hc:X.calm=true):yak X (.builtin "sum") (fun vs H Q=>∃ p ns,vs=[.ref p]/\SqL X.K H p (List.map V.int ns)/\Q (.int ns.sum) H):=by
 intro pins s σ H xs us Q I r h
 obtain ⟨p,ns,rfl,hq,q⟩:=h
 obtain ⟨u,rfl,rx⟩:=yid r
 cases rx
 obtain ⟨its,r',pl,hz⟩:=I.list hq
 obtain ⟨ys,e1,e2⟩:=yeh r'
 have hl:s.heap.IsList p (intItems ys):=e1 ▸ pl.isList
 refine sum_intListG (I.ok.hd hc) hl fun h' tk t' hk=>?_
 rw [preSum_eq,List.take_of_length_le (by simp),e2]
 exact ⟨.int ns.sum,H,I.kept (t':=tk) hk,⟨_,rfl⟩,q⟩
end
end L2
namespace L2
open PySem PySem.Spec PyProof.Rows
section
variable {X:Cx} {e:Expr} {t1 t2:TE}
def yjx (t1 t2:TE):TE:=fun σ H Q=>t1 σ H Q\/t2 σ H Q
theorem yay (h1:PE X e t1) (h2:PE X e t2):PE X e (yjx t1 t2):=by
 intro pins s σ H Q I h
 rcases h with h | h
 ·exact h1 pins s σ H Q I h
 ·exact h2 pins s σ H Q I h
theorem yaw {σ:St} {H:Hp} {Q:VK} (h:t1 σ H Q):yjx t1 t2 σ H Q:=.inl h
theorem zh {σ:St} {H:Hp} {Q:VK} (h:t2 σ H Q):yjx t1 t2 σ H Q:=.inr h
end
theorem yrt {K:W.Frag} {H:Hp} {x:V} {C D:Addr} {k:Bool} {P:Bool->Prop} (ty:xn K H x (.ref C)) (e:W.kitOne K (.ref C) (.ref D)=some k) (h:P k) :
  ∃ x' cv t c k',[x,V.ref D]=[x',cv]/\wn cv c/\(∀ u,wn cv u->u=c)/\xn K H x' t/\W.kitOne K t c=some k'/\P k':=⟨x,.ref D,.ref C,.ref D,k,rfl,rfl,fun _ r=>r,ty,e,h⟩
theorem vy {H:Hp} {p:Addr} {o:HO} {A:Hp->Prop} (hp:H p=none) (h:∀ H',y6 H H'->H' p=some o->A H'):A (upd H p o):=h _ (y1 hp) ya
theorem vg {α:Type} {H:Hp} {p:Addr} {o:HO} {A:Hp->α->Prop} {Q:α} (hp:H p=none) (h:∀ H',y6 H H'->H' p=some o->A H' Q):A (upd H p o) Q:=h _ (y1 hp) ya
section
variable {K:W.Frag} {a D:Addr} {xs:List V} {te:TE} {fr:St} {R:Hp->Prop} {H1:Hp}
theorem yg5 (Pv:Nat->Hp->Prop) (h0:Pv 0 (upd H1 D (.lst []))) (hl:∀ i H,i <= xs.length->Pv i H->SqT K H a xs)
  (hs:∀ i x H,xs[i]?=some x->i < xs.length->Pv i H->te (some x :: fr) H fun y H4=>∃ ys,H4 D=some (.lst ys)/\ys.length < sizeLine/\∃ m',m' < xs.length - i/\cW xs.length Pv (i+1) m' (upd H4 D (.lst (ys++[y]))))
  (hd:∀ H,Pv xs.length H->R H):ub (Itt K a) te fr D R H1:=by
 refine ⟨cW xs.length Pv,⟨xs.length,by simp,Nat.zero_le _,h0⟩,?_⟩
 rintro i m H ⟨rfl,hi,p⟩
 have q:=hl i H hi p
 by_cases hlt:i < xs.length
 ·refine .inr ⟨⟨xs,xs[i],q,by simp [hlt]⟩,fun x H' y=>?_⟩
  obtain ⟨e,y⟩:=y
  subst e
  exact hs i x _ (y xs q) hlt p
 ·have e:i=xs.length:=by omega
  subst e
  exact .inl ⟨⟨xs,q,Nat.le_refl _⟩,hd H p⟩
theorem yjn (Pv:Nat->Hp->Prop) (h0:Pv 0 (upd H1 D (.lst []))) (hl:∀ i H,i <= xs.length->Pv i H->SqT K H a xs)
  (hs:∀ i x H,xs[i]?=some x->i < xs.length->Pv i H->te [some x] H fun y H4=>∃ ys,H4 D=some (.lst ys)/\ys.length < sizeLine/\∃ m',m' < xs.length - i/\cW xs.length Pv (i+1) m' (upd H4 D (.lst (ys++[y]))))
  (hd:∀ H,Pv xs.length H->R H):yab (Itt K a) te D R H1:=by
 refine ⟨cW xs.length Pv,⟨xs.length,by simp,Nat.zero_le _,h0⟩,?_⟩
 rintro i m H ⟨rfl,hi,p⟩
 have q:=hl i H hi p
 by_cases hlt:i < xs.length
 ·refine .inr ⟨⟨xs,xs[i],q,by simp [hlt]⟩,fun x H' y=>?_⟩
  obtain ⟨e,y⟩:=y
  subst e
  exact hs i x _ (y xs q) hlt p
 ·have e:i=xs.length:=by omega
  subst e
  exact .inl ⟨⟨xs,q,Nat.le_refl _⟩,hd H p⟩
def Mp (H1:Hp) (D:Addr) (f:Nat->V) (i:Nat) (H:Hp):Prop:=y6 H1 H/\H D=some (.lst ((List.range i).map f))
theorem Mp.zero {f:Nat->V} (hD:H1 D=none):Mp H1 D f 0 (upd H1 D (.lst [])):=⟨y1 hD,ya⟩
theorem Mp.step {f:Nat->V} {n i:Nat} {H4:Hp} {y:V} (hD:H1 D=none) (hn:n < sizeLine) (hi:i < n) (S:y6 H1 H4) (h4:H4 D=some (.lst ((List.range i).map f))) (e:y=f i) :
  ∃ ys,H4 D=some (.lst ys)/\ys.length < sizeLine/\∃ m',m' < n - i/\cW n (Mp H1 D f) (i+1) m' (upd H4 D (.lst (ys++[y]))):=by
 refine xp (n:=n) h4 (by rw [List.length_map,List.length_range]; omega) hi ⟨?_,?_⟩
 ·intro b o hb
  rw [yi (yd hb hD)]
  exact S b o hb
 ·rw [ya,List.range_succ,List.map_append,e]
  rfl
theorem zd {f:Nat->V} {g:V->V} {xs:List V} (h:∀ i x,xs[i]?=some x->f i=g x):(List.range xs.length).map f=xs.map g:=by
 refine List.ext_getElem? fun i=>?_
 rw [List.getElem?_map,List.getElem?_map]
 by_cases hi:i < xs.length
 ·rw [List.getElem?_range hi,List.getElem?_eq_getElem hi]
  show some (f i)=some (g xs[i])
  rw [h i _ (List.getElem?_eq_getElem hi)]
 ·rw [List.getElem?_eq_none (by rw [List.length_range]; omega),List.getElem?_eq_none (by omega)]
  rfl
def ofG (g:V->V) (xs:List V) (i:Nat):V:=((xs[i]?).map g).getD .non
theorem ycy {g:V->V} {xs:List V} {i:Nat} {x:V} (h:xs[i]?=some x):ofG g xs i=g x:=by
 unfold ofG
 rw [h]
 rfl
def MpK (H1:Hp) (D:Addr) (f:Nat->V) (n i:Nat):VK:=fun y H4=>∃ ys,H4 D=some (.lst ys)/\ys.length < sizeLine/\∃ m',m' < n - i/\cW n (Mp H1 D f) (i+1) m' (upd H4 D (.lst (ys++[y])))
theorem Mp.done {g:V->V} {i:Nat} {x y:V} {H4:Hp} (hD:H1 D=none) (hn:xs.length < sizeLine) (hx:xs[i]?=some x) (S:y6 H1 H4) (h4:H4 D=some (.lst ((List.range i).map (ofG g xs)))) (e:y=g x):MpK H1 D (ofG g xs) xs.length i y H4:=by
 have hi:i < xs.length:=by
  rcases Nat.lt_or_ge i xs.length with q | q
  ·exact q
  ·rw [List.getElem?_eq_none q] at hx; cases hx
 exact Mp.step hD hn hi S h4 (e.trans (ycy hx).symm)
theorem Mp.doneR {f:Nat->V} {n i:Nat} {y:V} {H4:Hp} (hD:H1 D=none) (hn:n < sizeLine) (hi:i < n) (S:y6 H1 H4) (h4:H4 D=some (.lst ((List.range i).map f))) (e:y=f i):MpK H1 D f n i y H4:=Mp.step hD hn hi S h4 e
theorem ju (g:V->V) (hq:SqL K H1 a xs) (hD:H1 D=none)
  (hs:∀ i x H,xs[i]?=some x->y6 H1 H->H D=some (.lst ((List.range i).map (ofG g xs)))->te (some x :: fr) H (MpK H1 D (ofG g xs) xs.length i))
  (hd:∀ H,y6 H1 H->H D=some (.lst (xs.map g))->R H):ub (Itl K a) te fr D R H1 :=
 yav (Mp H1 D (ofG g xs)) (Mp.zero hD) (fun _ _ _ p=>p.1.seq hq) (fun i x H hx hi p=>hs i x H hx p.1 p.2)
  fun H p=>hd H p.1 (by rw [<- zd (f:=ofG g xs) fun i x=>ycy]; exact p.2)
theorem yat (g:V->V) (hq:SqL K H1 a xs) (hD:H1 D=none)
  (hs:∀ i x H,xs[i]?=some x->y6 H1 H->H D=some (.lst ((List.range i).map (ofG g xs)))->te [some x] H (MpK H1 D (ofG g xs) xs.length i))
  (hd:∀ H,y6 H1 H->H D=some (.lst (xs.map g))->R H):yab (Itl K a) te D R H1 :=
 x6 (Mp H1 D (ofG g xs)) (Mp.zero hD) (fun _ _ _ p=>p.1.seq hq) (fun i x H hx hi p=>hs i x H hx p.1 p.2)
  fun H p=>hd H p.1 (by rw [<- zd (f:=ofG g xs) fun i x=>ycy]; exact p.2)
theorem yf6 (g:V->V) (hq:SqT K H1 a xs) (hD:H1 D=none)
  (hs:∀ i x H,xs[i]?=some x->y6 H1 H->H D=some (.lst ((List.range i).map (ofG g xs)))->te (some x :: fr) H (MpK H1 D (ofG g xs) xs.length i))
  (hd:∀ H,y6 H1 H->H D=some (.lst (xs.map g))->R H):ub (Itt K a) te fr D R H1 :=
 yg5 (Mp H1 D (ofG g xs)) (Mp.zero hD) (fun _ _ _ p=>p.1.tup hq) (fun i x H hx hi p=>hs i x H hx p.1 p.2)
  fun H p=>hd H p.1 (by rw [<- zd (f:=ofG g xs) fun i x=>ycy]; exact p.2)
theorem yhd (g:V->V) (hq:SqT K H1 a xs) (hD:H1 D=none)
  (hs:∀ i x H,xs[i]?=some x->y6 H1 H->H D=some (.lst ((List.range i).map (ofG g xs)))->te [some x] H (MpK H1 D (ofG g xs) xs.length i))
  (hd:∀ H,y6 H1 H->H D=some (.lst (xs.map g))->R H):yab (Itt K a) te D R H1 :=
 yjn (Mp H1 D (ofG g xs)) (Mp.zero hD) (fun _ _ _ p=>p.1.tup hq) (fun i x H hx hi p=>hs i x H hx p.1 p.2)
  fun H p=>hd H p.1 (by rw [<- zd (f:=ofG g xs) fun i x=>ycy]; exact p.2)
theorem ymz {tr:TA} {σ:St} {H:Hp} {R:It->Hp->Prop} (h:tr σ H fun vs H1=>∃ i j:Int,vs=[.int i,.int j]/\(-(2 ^ 62) <= i/\i < 2 ^ 62/\-(2 ^ 62) <= j/\j < 2 ^ 62)/\R (Itr i (j - i).toNat) H1):yr2 tr σ H R:=h
end
structure Mk0 (K:W.Frag) (C:Addr):Prop where
 makes:W.makesIn K C=true
 init:W.findIn K (.ref C) "__init__"=some (some (.builtin "object.__init__"))
 kp:W.keepIn K (.ref C)=true
end L2
namespace L2
open PySem PySem.Spec PyProof.Rows
end L2
namespace L2
open PySem PySem.Spec PyProof.Rows
abbrev Cx.compT (X:Cx) (scope:Scope) (ys:List Str) (C:Addr) (xs:List Str) (s2:Shared) (H2:Hp) (fp:List Addr):Cx :=
 { X with N:=xs++ys,s₀:=s2,H₀:=H2,env:=compEnvC scope (x4 ys X.env) C X.env,outer:=X.stack,ex:=fp,fn:=fun _=>false,pn:=[],xe:=fun _ _=>False }
def zt (J:It) (g:TG) (te:TE) (n:Nat) (fr:St) (D:Addr) (R:Hp->Prop) (H1:Hp):Prop:=∃ W:Nat->Nat->Hp->Prop,(∃ m,W 0 m (upd H1 D (.lst []))) /\
 ∀ i m H2,W i m H2->(J.stop i H2/\R H2)\/(J.go i H2/\∀ x H3 pre,J.yld i H2 x H3->List.length pre=n->g x (pre++fr) H3 fun σ' H'=>(∃ pre',List.length pre'=n/\σ'=pre'++fr)/\te σ' H' fun y H4=>∃ ys,H4 D=some (.lst ys)/\ys.length < sizeLine/\∃ m',m' < m/\W (i+1) m' (upd H4 D (.lst (ys++[y]))))
def yh0 (wi:TI) (g:TG) (te:TE) (n:Nat) (js:List Nat):TE:=fun σ H Q=>wi σ H fun J H1=>∀ D,H1 D=none->zt J g te n (vd js σ) D (fun H2=>Q (.ref D) H2) H1
section
variable {X:Cx} {iter elt tg:Expr} {xs:List Str} {g:TG} {pos:Pos} {scope:Scope} {te:TE} {wi:TI} {pins:List (Addr × Obj)} {σ:St} {ys:List Str} {js:List Nat}
theorem yaq {s2:Shared} {H2:Hp} {it:Addr} {fp:List Addr} {tn:Nat->Heap->Prop} {J:It} (hc:X.calm=true)
  (he:∀ (C:Addr) (s2:Shared) (H2:Hp) (fp:List Addr),PE (X.compT scope ys C xs s2 H2 fp) elt te)
  (hgt:∀ (C:Addr) (s2:Shared) (H2:Hp) (fp:List Addr),PG (X.compT scope ys C xs s2 H2 fp) tg g)
  (hcell:∀ y∈scope.names,y.2≠.cell) (hkind:scope.kind=.function)
  (hfr:∀ y∈scope.names,y.2=.free->y.1∈ys) (hyc:∀ y∈ys,X.env.kindOf y=some .cell) (hrel:∀ y∈ys,(relabel scope X.env).names.lookup y=some .cell) (hjs:js.map (fun j=>X.N[j]?)=ys.map some)
  (I2:Inv X pins σ H2 s2) (T:yii X.prog X.w X.K tg J fp it tn) (st2:tn 0 s2.heap) (f2:∀ b∈fp,yb5 X pins H2 b)
  {R:Addr->Hp->Prop} (h:∀ D,H2 D=none->zt J g te xs.length (vd js σ) D (R D) H2) {RR:Value->Addr->Result->Shared->Prop} {E:Value->Shared->Prop}
  (hR:∀ (D C:Addr) (H':Hp) (s':Shared) (m:Str->Option Value),yb5 X pins H' C->s'.heap.Ns C m->Inv X pins σ H' s'->R D H'->RR (.ref D) C (.ok .next) s') :
  wpAny (model X.prog X.w) X.A (newList []) (fun acc s₃=>wpAny (model X.prog X.w) X.A (newFunctionEnv scope X.env.globals (x4 ys X.env) [] X.env.qual none .none (some X.env)) (fun cenv s₄ =>
   codeAny (model X.prog X.w) X.A (.compStart (.ListComp elt [⟨tg,iter,[],0⟩] scope pos) 0 (.ref it) acc { cenv with scope:=relabel scope X.env }) (RR acc cenv.locals) s₄) E s₃) E s2:=by
 have hsub:∀ y c,(x4 ys X.env).lookup y=some c->X.env.cells.lookup y=some c:=fun y c e=>by
  obtain ⟨m,rfl⟩:=jb e
  obtain ⟨c',q⟩:=I2.ok.has y (.inl (hyc y m))
  rw [q]
  rfl
 refine wpAny_newObj_type (wpAny_newFunctionEnv hcell (by intro y hy; simp at hy) (fun h₁ hns₁ hsb₁=>?_) hkind)
 dsimp only at hns₁ hsb₁ ⊢
 generalize hH2:s2.heap.push { cls:=.type "list",dict:=none,data:=.seq ([]:List Value).toArray }=G at hns₁ hsb₁ ⊢
 have hC:G.objs.size=s2.heap.objs.size+1:=by rw [<- hH2,Heap.size_push]
 have hDC:s2.heap.objs.size≠G.objs.size:=by rw [hC]; exact Nat.ne_of_lt (Nat.lt_succ_self _)
 have hCle:s2.heap.objs.size <= G.objs.size:=by rw [hC]; exact Nat.le_succ _
 have below:∀ b,b < s2.heap.objs.size->b≠G.objs.size/\b≠s2.heap.objs.size:=fun b hb=>⟨by rw [hC]; exact Nat.ne_of_lt (Nat.lt_succ_of_lt hb),Nat.ne_of_lt hb⟩
 have old:∀ b o,s2.heap.get? b=some o->h₁.get? b=some o:=fun b o e=>hsb₁.extBut b o (below b (Heap.lt_size e)).1 (Heap.get?_push_of_some _ (hH2 ▸ Heap.get?_push_of_some _ e))
 have hacc:h₁.get? s2.heap.objs.size=some { cls:=.type "list",data:=.seq ([]:List Value).toArray }:=hsb₁.extBut _ _ hDC (Heap.get?_push_of_some _ (hH2 ▸ Heap.get?_push_size _ rfl))
 have fpl:∀ b∈fp,b < s2.heap.objs.size:=fun b hb=>let ⟨_,e,_⟩:=T.obj 0 _ st2 b hb; Heap.lt_size e
 have fpS:∀ b∈fp,b∉frs X.stack:=fun b hb z=>(List.mem_cons.mp (I2.stkSub b z)).elim (f2 b hb).2.1 (f2 b hb).2.2.1
 have nC:H2 G.objs.size=none:=I2.hok.fresh hCle
 have nD:H2 s2.heap.objs.size=none:=I2.hok.fresh (Nat.le_refl _)
 have cellOld:∀ y c,(x4 ys X.env).lookup y=some c->∃ v o,s2.heap.get? c=some o/\o.data=.cell v:=fun y c e=>by
  obtain ⟨v,o,q1,q2⟩:=I2.cell y c (hsub y c e)
  exact ⟨v,o,q1,q2⟩
 have okC:(X.compT scope ys G.objs.size xs s2 H2 fp).Ok:=by
  refine ⟨I2.ok.mod,hkind,I2.ok.glob,I2.ok.blt,hCle,fun y z c e e'=>I2.ok.inj y z c (hsub y c e) (hsub z c e'),fun y e=>?_,fun y c z e=>(by cases z),I2.ok.hd,I2.ok.frames,.inl rfl,fun b hb=>⟨(below b (fpl b hb)).1,fun y c e=>(f2 b hb).2.2.2.2.1 y c (hsub y c e)⟩,I2.bs,?_,fun b o e hb=>?_,fun b hb=>fpS b hb,I2.stack,I2.stkFree⟩
  ·have e':(relabel scope X.env).names.lookup y=some .cell\/(relabel scope X.env).names.lookup y=some .free:=e
   have hin:y∈ys:=by
    rcases e' with e' | e'
    ·obtain ⟨k0,m,q⟩:=vm e'
     rcases q with q | q
     ·exact absurd q.symm (hcell _ m)
     ·exact hfr _ m q
    ·obtain ⟨k0,m,q⟩:=vm e'
     rcases q with q | q
     ·exact hfr _ m q.symm
     ·exact hfr _ m q
   exact ⟨_,xv hin⟩
  ·exact Nat.le_trans I2.ok.bsz I2.sz
  ·rcases (f2 b hb).2.2.2.1 with z | z
   ·exact I2.ok.noex b o e z
   ·exact absurd (Nat.lt_of_lt_of_le (Heap.lt_size (I2.ok.bs b o e).1) z) (Nat.lt_irrefl _)
 have hlen:(vd js σ).length=ys.length:=by
  have:=congrArg List.length hjs
  simpa [vd] using this
 have I3:∀ tk,Inv (X.compT scope ys G.objs.size xs s2 H2 fp) [] (List.replicate xs.length none++vd js σ) (upd H2 s2.heap.objs.size (.lst [])) { s2 with heap:=h₁,toks:=tk }:=fun tk =>
  ⟨okC,rfl,I2.bare,Un.laid old (Nat.le_refl _) nD,⟨_,hns₁,fun i y v e1 e2 e3=>by
    by_cases hi0:i < xs.length
    ·rw [List.getElem?_append_left (by simpa using hi0),List.getElem?_replicate,if_pos hi0] at e2
     cases e2
    ·obtain ⟨i,rfl⟩:∃ i',i=xs.length+i':=⟨i - xs.length,by omega⟩
     have e1:ys[i]?=some y:=by rw [List.getElem?_append_right (by omega)] at e1; simpa using e1
     have e2:(vd js σ)[i]?=some (some v):=by rw [List.getElem?_append_right (by simp)] at e2; simpa using e2
     have hy:y∈ys:=List.mem_of_getElem? e1
     have ej:=congrArg (fun l=>l[i]?) hjs
     simp only [List.getElem?_map,e1,Option.map_some] at ej
     cases q:js[i]? with
     | none=>rw [q] at ej; cases ej
     | some j =>
      rw [q] at ej
      have ej:X.N[j]?=some y:=by simpa using ej
      have es:σ[j]?=some (some v):=by
       simp only [vd,List.getElem?_map,q,Option.map_some,Option.some.injEq] at e2
       cases r:σ[j]? with
       | none=>rw [r] at e2; cases e2
       | some w'=>rw [r] at e2; rw [show w'=some v from e2]
      obtain ⟨m0,_,hl0⟩:=I2.loc
      obtain ⟨u,ru,lk⟩:=hl0 j y v ej es (.inr (.inl (hyc y hy)))
      refine ⟨u,ru,.inr ⟨.inl (hrel y hy),?_⟩⟩
      rcases lk with ⟨k1,_⟩ | ⟨_,c,ec,o,ho,hd⟩
      ·rw [hyc y hy] at k1; cases k1
      ·refine ⟨c,?_,o,old c o ho,hd⟩
       show (x4 ys X.env).lookup y=some c
       rw [xv hy,ec]
       rfl⟩,fun y c e=>(by
    obtain ⟨v,o,q1,q2⟩:=cellOld y c e
    exact ⟨v,o,old c o q1,q2⟩),(by show upd H2 s2.heap.objs.size _ G.objs.size=none; rw [yi hDC.symm]; exact nC),fun y c e=>(by
    obtain ⟨v,o,q1,q2⟩:=cellOld y c e
    show upd H2 s2.heap.objs.size _ c=none
    rw [yi (below c (Heap.lt_size q1)).2]
    exact I2.freeC y c (hsub y c e)),fun p hp=>(by simp at hp),
   I2.hok.laid old (Nat.le_refl _) ⟨Nat.zero_le _,[],_,.nil,hacc⟩,by show (List.replicate xs.length none++vd js σ).length=(xs++ys).length; simp [hlen]⟩
 have stat:∀ {H':Hp},(∀ b∈fp,H' b=none)->∀ b∈fp,yb5 (X.compT scope ys G.objs.size xs s2 H2 fp) [] H' b:=fun hn b hb=>⟨hn b hb,(below b (fpl b hb)).1,fpS b hb,.inl hb,fun y c e=>(f2 b hb).2.2.2.2.1 y c (hsub y c e),fun p hp=>(by simp at hp)⟩
 have loop:∀ tk,codeAny (model X.prog X.w) X.A (.compLoop (.ListComp elt [⟨tg,iter,[],0⟩] scope pos) 0 (.ref it) (.ref s2.heap.objs.size) (compEnvC scope (x4 ys X.env) G.objs.size X.env)) (RR (.ref s2.heap.objs.size) G.objs.size) { s2 with heap:=h₁,toks:=tk }:=by
  intro tk
  obtain ⟨W,⟨m0,w0⟩,turn⟩:=h s2.heap.objs.size nD
  refine codeAny_loop rfl (fun n s'=>∃ i v H',List.length v=xs.length/\Inv (X.compT scope ys G.objs.size xs s2 H2 fp) [] (v++vd js σ) H' s'/\tn i s'.heap/\(∀ b∈fp,H' b=none)/\W i n H') (fun n s' hI=>?_) m0
   ⟨0,List.replicate xs.length none,_,by simp,I3 tk,T.keep 0 _ _ st2 (fun b hb o e=>old b o e),fun b hb=>(by rw [yi (below b (fpl b hb)).2]; exact (f2 b hb).1),w0⟩
  obtain ⟨i,v,H',hv,I,st,fr,w⟩:=hI
  show wpAny _ _ ((compTurn (.ListComp elt [⟨tg,iter,[],0⟩] scope pos) 0 (.ref it) (.ref s2.heap.objs.size) (compEnvC scope (x4 ys X.env) G.objs.size X.env)).onRaise (fun x=>do noteFrame x (compEnvC scope (x4 ys X.env) G.objs.size X.env); theTreesLotGoes x)) _ _ s'
  refine wpAny_noted ?_
  rw [compTurn_list1]
  refine wpAny_bind (wpAny_standAt (wpAny_bind ?_))
  rcases turn i n H' w with ⟨stop,q⟩ | ⟨go,step⟩
  ·refine thn (T.done (X.compT scope ys G.objs.size xs s2 H2 fp) rfl rfl rfl hc i [] s' (v++vd js σ) H' _ I (stat fr) st stop) fun r s4 ⟨hr,I4⟩=>?_
   subst hr
   refine wpAny_pure ?_
   obtain ⟨m,hn,_⟩:=I4.loc
   exact hR _ _ H' s4 m (I2.fpOk hCle I4.free) hn (I2.call' (ch:=fp) I4.os I4.base I4.hok I4.bare fun b hb=>⟨(f2 b hb).2.2.2.1,(f2 b hb).2.1,(f2 b hb).2.2.2.2.1,(f2 b hb).2.2.2.2.2⟩) q
  ·refine thn (T.item (X.compT scope ys G.objs.size xs s2 H2 fp) rfl rfl rfl hc i [] s' (v++vd js σ) H' _ I (stat fr) st go) fun r s4 ⟨u,hr,h4⟩=>?_
   subst hr
   refine wpAny_bind (thn h4 fun _ s5 ⟨y,H5,I5,r5,y5,st5,fr5⟩=>wpAny_bind ?_)
   have I5':=I5.pinned (stat fr5) (T.obj _ _ st5)
   refine yij (hgt _ _ _ _ _ s5 (v++vd js σ) H5 y u _ I5' r5 (step y H5 v y5 hv)) fun _ s6 ⟨σ',H6,I6,⟨pre',hp',ep⟩,q6⟩=>?_
   subst ep
   refine wpAny_bind (wpAny_bind (yij (he _ _ _ _ _ s6 (pre'++vd js σ) H6 _ I6 q6) fun u2 s7 ⟨y2,H7,I7,r7,zs,hD,hl,m',hm,w'⟩=>wpAny_bind ?_))
   refine yij (ww _ s7 (pre'++vd js σ) H7 (.ref s2.heap.objs.size) [y2] (.ref s2.heap.objs.size) [u2] (fun _ H8=>H8=upd H7 s2.heap.objs.size (.lst (zs++[y2]))) I7 rfl (.cons r7 .nil) ⟨_,zs,y2,rfl,rfl,hD,hl,rfl⟩) fun _ s8 ⟨_,H8,I8,_,e8⟩=>?_
   subst e8
   have pin:∀ b∈fp,∀ o,s5.heap.get? b=some o->s8.heap.get? b=some o/\upd H7 s2.heap.objs.size (HO.lst (zs++[y2])) b=none:=fun b hb o e =>
    ⟨(I8.pin (b,o) (List.mem_append_right _ (List.mem_append_right _ (vh hb e)))).1,(I8.pin (b,o) (List.mem_append_right _ (List.mem_append_right _ (vh hb e)))).2.1⟩
   refine wpAny_pure (wpAny_pure ⟨rfl,m',hm,i+1,pre',_,hp',I8.unpinned,T.keep _ _ _ st5 fun b hb o e=>(pin b hb o e).1,fun b hb=>?_,w'⟩)
   obtain ⟨o,e,d⟩:=T.obj _ _ st5 b hb
   exact (pin b hb o e).2
 exact codeAny_compStart_list (loop _) (T.self X.A 0 _ _ _ (T.keep 0 _ _ st2 (fun b hb o e=>old b o e)) (loop _))
theorem yek (hc:X.calm=true) (hi:PI X tg iter wi) (he:∀ (C:Addr) (s2:Shared) (H2:Hp) (fp:List Addr),PE (X.compT scope ys C xs s2 H2 fp) elt te) (hjs:js.map (fun j=>X.N[j]?)=ys.map some)
  (hgt:∀ (C:Addr) (s2:Shared) (H2:Hp) (fp:List Addr),PG (X.compT scope ys C xs s2 H2 fp) tg g)
  (hclos:closureFor scope X.env=pure (x4 ys X.env)) (hyc:∀ y∈ys,X.env.kindOf y=some .cell) (hrel:∀ y∈ys,(relabel scope X.env).names.lookup y=some .cell)
  (hfr:∀ y∈scope.names,y.2=.free->y.1∈ys:=by decide +kernel) (hcell:∀ y∈scope.names,y.2≠.cell:=by decide +kernel) (hkind:scope.kind=.function:=by rfl)
  (hnames:∀ y∈scope.names,y.2=.local->scope.names.lookup y.1=some .local:=by decide +kernel) (hs:∀ x,foldedSetIterable iter X.env x=pure x:=by intro _; rfl) :
  PE X (.ListComp elt [⟨tg,iter,[],0⟩] scope pos) (yh0 wi g te xs.length js):=by
 intro pins s σ H Q I h
 rw [eval_ListComp]
 refine wpAny_comprehension_free (use:=none) rfl hs hclos hkind hnames (thn (hi pins s σ H _ I h) fun v s1 h1=>thn h1 fun itv s2 h2=>?_)
 obtain ⟨it,fp,tn,J,H2,e,I2,T,st2,f2,h⟩:=h2
 subst e
 refine yaq (R:=fun D H'=>Q (.ref D) H') (RR:=compPost (model X.prog X.w) X.A X.xe none (EP X pins σ Q)) hc he hgt hcell hkind hfr hyc hrel hjs I2 T st2 f2 h ?_
 intro D C H' s' m f hn I' q
 refine ⟨m,hn,fun h' sb=>⟨.ref D,H',?_,rfl,q⟩⟩
 exact I'.turned (t':=s'.toks) (fun b o hb e=>sb.extBut b o hb e) f.1 f.2.1 f.2.2.2.1 f.2.2.2.2.1 f.2.2.2.2.2
theorem ymf {H:Hp} {Q:VK} {n:Nat} (h:wi σ H fun J H1=>∀ D,H1 D=none->zt J g te n (vd js σ) D (fun H2=>Q (.ref D) H2) H1):yh0 wi g te n js σ H Q:=h
end
end L2
namespace L2
open PySem PySem.Spec PyProof.Rows
section
variable {X:Cx} {tg:Expr}
end
section
variable {prog:Program} {w:World} {A:Around} {E:Value->Shared->Prop} {s:Shared}
theorem uu {it l:Addr} {i:Nat} {items} {x:Value} {Q:Value->Shared->Prop} (hit:s.heap.IsTupleIter it l i) (hl:s.heap.IsTuple l items) (hx:items[i]?=some x)
  (hQ:∀ h',h'.IsTupleIter it l (i+1)->Heap.SameBut it s.heap h'->Q x { s with heap:=h' }):wpAny (model prog w) A (Builtin.SmallTypes.nextOf (.ref it)) Q E s:=by
 obtain ⟨ob,hob,hcl,hdt⟩:=id hit
 obtain ⟨ol,hol,_,nl,hdl⟩:=hl
 unfold Builtin.SmallTypes.nextOf
 refine wpAny_bind (wpAny_callSpecial?_slot (name:=Str.ofString "__next__") hit.typeIs slot_tupleiter_next (wpAny_call_entry slot_tupleiter_next hit.typeIs entry_tupleiter_next ?_ (args_tupleiter_next _)))
 show wpAny _ _ (field (.ref it) 0 >>= _) _ _ s
 refine wpAny_bind (wpAny_field hob hdt (x:=.ref l) rfl ?_)
 show wpAny _ _ (if (Value.ref l == Value.none)=true then _ else _) _ _ s
 rw [if_neg (show ¬ ((Value.ref l == Value.none)=true) from Bool.false_ne_true)]
 show wpAny _ _ (field (.ref it) 1 >>= _) _ _ s
 refine wpAny_bind (wpAny_field hob hdt (x:=.int i 0) rfl ?_)
 show wpAny _ _ (seqItems? (.ref l) >>= _) _ _ s
 refine wpAny_bind (wpAny_seqItems hol hdl ?_)
 simp only [Int.toNat_natCast,hx]
 refine wpAny_bind (wpAny_setField hob hdt (by simp) (wpAny_pure ⟨x,rfl,wpAny_pure (hQ _ ⟨_,Heap.get?_update_self _ hob (Obj.isFreed_of_fields (Obj.data_mapFields hdt _)),(Obj.cls_mapFields ..).trans hcl,?_⟩ (Heap.SameBut.update ..))⟩))
 rw [Obj.data_mapFields hdt]
 simp [rawInt]
theorem j0 {it l:Addr} {i:Nat} {items} {Q:Value->Shared->Prop} (hh:A.handled=none) (hit:s.heap.IsTupleIter it l i) (hl:s.heap.IsTuple l items) (hx:items[i]?=none)
  (hE:∀ h' e,Heap.ExtBut it s.heap h'->(∃ o,h'.get? e=some o/\o.cls=.type "StopIteration")->E (.ref e) { s with heap:=h' }):wpAny (model prog w) A (Builtin.SmallTypes.nextOf (.ref it)) Q E s:=by
 obtain ⟨ob,hob,hcl,hdt⟩:=id hit
 obtain ⟨ol,hol,_,nl,hdl⟩:=hl
 unfold Builtin.SmallTypes.nextOf
 refine wpAny_bind (wpAny_callSpecial?_slot (name:=Str.ofString "__next__") hit.typeIs slot_tupleiter_next (wpAny_call_entry slot_tupleiter_next hit.typeIs entry_tupleiter_next ?_ (args_tupleiter_next _)))
 (show wpAny _ _ (field (.ref it) 0 >>= _) _ _ s); refine wpAny_bind (wpAny_field hob hdt (x:=.ref l) rfl ?_)
 (show wpAny _ _ (if (Value.ref l == Value.none)=true then _ else _) _ _ s); rw [if_neg (show ¬ ((Value.ref l == Value.none)=true) from Bool.false_ne_true)]
 (show wpAny _ _ (field (.ref it) 1 >>= _) _ _ s); refine wpAny_bind (wpAny_field hob hdt (x:=.int i 0) rfl ?_)
 (show wpAny _ _ (seqItems? (.ref l) >>= _) _ _ s); refine wpAny_bind (wpAny_seqItems hol hdl ?_)
 simp only [Int.toNat_natCast,hx]; refine wpAny_bind (wpAny_rule (wpAny_bind (wpAny_setField hob hdt (by simp) ?_)))
 (show wpAny _ _ (newExc (.type "StopIteration") [] >>= _) _ _ _); refine wpAny_bind ?_
 simp only [newExc,newTuple]; refine wpAny_bind (wpAny_newObj_type ?_ (by size_fits))
 refine wpAny_bind (m:=firstArgMember _ _) (wpAny_of_eq (a:=Value.none) (by first | rfl | (simp only [firstArgMember]; rfl)) (wpAny_newObj_type ?_ (by size_fits)))
 simp only [raiseNew]; refine wpAny_bind (wpAny_handled ?_)
 (first | rw [show A.in1.handled=none from hh] | rw [hh]); refine wpAny_bind (wpAny_pure (wpAny_throw ?_))
 exact hE _ _ (((Heap.SameBut.update _ ..).extBut.push _).push _) ⟨_,Heap.get?_push_size _ rfl,rfl⟩
end
section
open AutoSeq1 (wpAny_loadPart')
set_option maxRecDepth 100000
end
section
variable {prog:Program} {w:World} {A:Around} {E:Value->Shared->Prop} {s:Shared}
end
section
variable {X:Cx}
end
end L2
namespace L2
open PySem PySem.Spec PyProof.Rows
section
variable {X:Cx} {tg:Expr}
end
end L2
namespace L2
section
variable {σ:St} {H:Hp} {Q:VK} {td ty tx tv:TE}
theorem yqg (h:td σ H fun x H1=>ty σ H1 fun y H2=>∃ a v,x=.ref a/\yih H2 a y (some v)/\Q v H2):ysg td ty σ H Q:=h
theorem yi2 (h:ty σ H fun y H1=>td σ H1 fun x H2=>∃ a o,x=.ref a/\yih H2 a y o/\Q (.bl (!o.isSome)) H2):yhp ty td σ H Q:=h
theorem yo1 {nx bk ct:St->Hp->Prop} {rt:VK} (h:tv σ H fun v H1=>td σ H1 fun x H2=>ty σ H2 fun y H3=>∃ a H4,x=.ref a/\yoq H3 a y v H4/\nx σ H4):ysa td ty tv ⟨nx,rt,bk,ct⟩ σ H:=h
theorem ymh (h:∀ p,H p=none->Q (.ref p) (upd H p (.dT []))):ykx σ H Q:=h
end
end L2
namespace L2
open PySem PySem.Spec PyProof.Rows
def Itz (K:W.Frag) (a b:Addr):It :=
 ⟨fun i H=>∃ xs ys x y,SqL K H a xs/\SqL K H b ys/\xs[i]?=some x/\ys[i]?=some y,
  fun i H v H'=>∃ t x y,v=.ref t/\H t=none/\H'=upd H t (.tup [x,y])/\(∀ xs,SqL K H a xs->xs[i]?=some x)/\(∀ ys,SqL K H b ys->ys[i]?=some y),
  fun i H=>∃ xs ys,SqL K H a xs/\SqL K H b ys/\(xs.length <= i\/ys.length <= i)⟩
structure Zap (z TI TO i1 i2:Addr):Prop where
 a1:TI≠z
 a2:TO≠z
 a3:i1≠z
 a4:i2≠z
 a5:TI≠TO
 a6:TI≠i1
 a7:TI≠i2
 a8:TO≠i1
 a9:TO≠i2
 b1:i1≠i2
def Zst (z TI TO i1 i2 l1 l2:Addr) (i:Nat) (h:Heap):Prop:=IsZip h z TI TO .none/\IsPair h TI (.ref i1) (.ref i2)/\(∃ a b,IsPair h TO a b)/\h.IsListIter i1 l1 i/\h.IsListIter i2 l2 i
theorem xm {h:Heap} {a b:Addr} {o o':Obj} (e:h.get? a=some o) (e':h.get? b=some o') (n:o.cls≠o'.cls):a≠b:=by
 rintro rfl
 rw [e] at e'
 cases e'
 exact n rfl
theorem yk7 (z:Nat):Zap (z+4) (z+2) (z+3) z (z+1):=by
 constructor <;> (show (_:Nat)≠(_:Nat); omega)
theorem nT {a b:String} (h:Value.type a≠Value.type b):Value.type a≠Value.type b:=h
theorem Zap.apart {X:Cx} {pins:List (Addr × Obj)} {σ:St} {H:Hp} {s:Shared} {z TI TO i1 i2 l1 l2:Addr} {i:Nat} {xs ys:List Value} (d:Zap z TI TO i1 i2) (st:Zst z TI TO i1 i2 l1 l2 i s.heap) (p:PlainL s.heap l1 xs.toArray) (q:PlainL s.heap l2 ys.toArray) (_:Inv X pins σ H s):ZipApart z TI TO i1 i2 l1 l2:=by
 obtain ⟨hz,hTI,⟨a,b,hTO⟩,⟨o1,e1,c1,_⟩,⟨o2,e2,c2,_⟩⟩:=st
 obtain ⟨ol,el,cl,_⟩:=p.isList
 obtain ⟨om,em,cm,_⟩:=q.isList
 exact ⟨d.a1,d.a2,d.a3,d.a4,d.a5,d.a6,d.a7,d.a8,d.a9,d.b1,
  xm el hz (by rw [cl]; exact nT (by decide)),xm el hTO (by rw [cl]; exact nT (by decide)),xm el e1 (by rw [cl,c1]; decide),xm el e2 (by rw [cl,c2]; decide),
  xm em hz (by rw [cm]; exact nT (by decide)),xm em hTO (by rw [cm]; exact nT (by decide)),xm em e1 (by rw [cm,c1]; decide),xm em e2 (by rw [cm,c2]; decide)⟩
theorem yiy {P:Program} {w:World} {K:W.Frag} {elts:List Expr} {x1} {tpos:Pos} (l1 l2 z TI TO i1 i2:Addr) (d:Zap z TI TO i1 i2) :
  yii P w K (.Tuple elts x1 tpos) (Itz K l1 l2) [z,TI,TO,i1,i2] z (Zst z TI TO i1 i2 l1 l2) where
 mem:=by simp
 obj:=fun i h st b hb=>by
  obtain ⟨hz,hTI,⟨_,_,hTO⟩,⟨o1,e1,_,d1⟩,⟨o2,e2,_,d2⟩⟩:=st
  simp only [List.mem_cons,List.not_mem_nil,or_false] at hb
  rcases hb with rfl | rfl | rfl | rfl | rfl
  ·exact ⟨_,hz,fun v z=>by cases z⟩
  ·exact ⟨_,hTI,fun v z=>by cases z⟩
  ·exact ⟨_,hTO,fun v z=>by cases z⟩
  ·exact ⟨o1,e1,fun v z=>by rw [d1] at z; cases z⟩
  ·exact ⟨o2,e2,fun v z=>by rw [d2] at z; cases z⟩
 keep:=fun i h h' st k=>by
  obtain ⟨hz,hTI,⟨a,b,hTO⟩,h1,h2⟩:=st
  exact ⟨k z (by simp) _ hz,k TI (by simp) _ hTI,⟨a,b,k TO (by simp) _ hTO⟩,h1.at fun o e=>k i1 (by simp) o e,h2.at fun o e=>k i2 (by simp) o e⟩
 item:=by
  intro X hP hw hK hc i pins s σ H E I hf st hg
  subst hP hw hK
  obtain ⟨xs,ys,x,y,hq,hq',hx,hy⟩:=hg
  obtain ⟨its,rv,p,hz0⟩:=I.list hq
  obtain ⟨its',rv',p',hz0'⟩:=I.list hq'
  obtain ⟨u,hu,ru⟩:=rv.get hx
  obtain ⟨u',hu',ru'⟩:=rv'.get hy
  have D:=d.apart st p p' I
  obtain ⟨hz,hTI,⟨va,vb,hTO⟩,hi1,hi2⟩:=st
  refine wpAny_pyNext_zip_item D hz hTI hTO hi1 hi2 p.isList p'.isList (x:=u) (y:=u') (by simpa using hu) (by simpa using hu') fun h' a1 a2 a3 a4 a5 a6 hk=>?_
  refine ⟨_,rfl,wpAny_letOwnedTupleGo_zip a1 fun h'' hz'' hs''=>?_⟩
  have hTn:H s.heap.objs.size=none:=I.hok.fresh (Nat.le_refl _)
  have lz:z < s.heap.objs.size:=Heap.lt_size hz
  have lo:TO < s.heap.objs.size:=Heap.lt_size hTO
  have lI:TI < s.heap.objs.size:=Heap.lt_size hTI
  have l1':i1 < s.heap.objs.size:=by obtain ⟨o,e,_⟩:=id hi1; exact Heap.lt_size e
  have l2':i2 < s.heap.objs.size:=by obtain ⟨o,e,_⟩:=id hi2; exact Heap.lt_size e
  have keep:∀ b o,b≠z->b≠TO->b≠i1->b≠i2->s.heap.get? b=some o->h''.get? b=some o:=fun b o n1 n2 n3 n4 e=>(hs''.2 b n1).trans (hk b o n1 n2 n3 n4 e)
  have htup:h''.get? s.heap.objs.size=some { cls:=.type "tuple",data:=.seq #[u,u'] }:=(hs''.2 _ (Nat.ne_of_gt lz)).trans a5
  have nt:∀ {b v},H b=some v->b≠z/\b≠TO/\b≠i1/\b≠i2:=fun {b v} e=>⟨yd e (hf z (by simp)).1,yd e (hf TO (by simp)).1,yd e (hf i1 (by simp)).1,yd e (hf i2 (by simp)).1⟩
  have hok:HOk X.prog X.w (upd H s.heap.objs.size (.tup [x,y])) h'':=fun b o e=>by
   by_cases hb:b=s.heap.objs.size
   ·subst hb
    rw [ya] at e
    cases e
    exact ⟨by show 2 <= sizeLine; decide,[u,u'],.cons ru (.cons ru' .nil),⟨_,htup,rfl,_,rfl⟩⟩
   ·rw [yi hb] at e
    refine (I.hok b o e).stay (fun c v hc' q=>?_) (fun c q=>by rw [yi (yd q hTn)]; exact q) fun c ys q=>by rw [yi (yd q hTn)]; exact q
    obtain ⟨n1,n2,n3,n4⟩:c≠z/\c≠TO/\c≠i1/\c≠i2:=by
     rcases hc' with rfl | hc'
     ·exact nt e
     ·exact nt hc'
    exact keep c v n1 n2 n3 n4 q
  have un:Un (frs X.stack) [z,TI,TO,i1,i2] H (upd H s.heap.objs.size (.tup [x,y])) s.heap h'':=by
   have kp:∀ {b o},b∉[z,TI,TO,i1,i2]->s.heap.get? b=some o->h''.get? b=some o:=fun {b o} hb e=>keep b o (fun q=>hb (by simp [q])) (fun q=>hb (by simp [q])) (fun q=>hb (by simp [q])) (fun q=>hb (by simp [q])) e
   refine ⟨fun b o e n _ hx=>kp hx e,fun b o e n _ hx=>⟨o.slots,kp hx e⟩,fun b o e n _=>by rw [yi (Nat.ne_of_lt (Heap.lt_size e))]; exact n,fun b o e hx=>⟨o,kp hx e⟩,
    fun b ys e=>by rw [yi (yd e hTn)]; exact e,fun b o v e=>by rw [yi (yd e hTn)]; exact e,fun b ps e=>⟨#[],by rw [yi (yd e hTn),e]; simp⟩⟩
  have I1:Inv X pins σ (upd H s.heap.objs.size (.tup [x,y])) { s with heap:=h'' }:=I.call' (s':={ s with heap:=h'' }) rfl un hok I.bare fun b hb=>by
   have f:=hf b hb
   exact ⟨f.2.2.2.1,f.2.1,f.2.2.2.2.1,f.2.2.2.2.2⟩
  refine ⟨.ref s.heap.objs.size,_,I1,rfl,⟨_,x,y,rfl,hTn,rfl,fun zs h=>by rw [I.list_inj h hq]; exact hx,fun zs h=>by rw [I.list_inj h hq']; exact hy⟩,?_,fun b hb=>?_⟩
  ·exact ⟨hz'',keep _ _ D.TIz D.TITO D.TIi1 D.TIi2 hTI,⟨u,u',(hs''.2 _ D.TOz).trans a2⟩,a3.at fun o e=>(hs''.2 _ D.i1z).trans e,a4.at fun o e=>(hs''.2 _ D.i2z).trans e⟩
  ·rw [yi (fun q=>?_)]
   ·exact (hf b hb).1
   ·have hq:b < s.heap.objs.size:=by
     simp only [List.mem_cons,List.not_mem_nil,or_false] at hb
     rcases hb with rfl | rfl | rfl | rfl | rfl <;> assumption
    exact absurd q (Nat.ne_of_lt hq)
 done:=by
  intro X hP hw hK hc i pins s σ H E I hf st hg
  subst hP hw hK
  obtain ⟨xs,ys,hq,hq',hx⟩:=hg
  obtain ⟨its,rv,p,hz0⟩:=I.list hq
  obtain ⟨its',rv',p',hz0'⟩:=I.list hq'
  have D:=d.apart st p p' I
  obtain ⟨hz,hTI,⟨va,vb,hTO⟩,hi1,hi2⟩:=st
  have hl:=rv.length
  have hl':=rv'.length
  refine wpAny_pyNext_zip_end (show X.A.handled=none from I.ok.hd hc) D hz hTI hTO hi1 hi2 p.isList p'.isList (by simp; omega) fun h' hk=>⟨rfl,?_⟩
  have nt:∀ {b v},H b=some v->b≠z/\b≠TO/\b≠i1/\b≠i2:=fun {b v} e=>⟨yd e (hf z (by simp)).1,yd e (hf TO (by simp)).1,yd e (hf i1 (by simp)).1,yd e (hf i2 (by simp)).1⟩
  have hok:HOk X.prog X.w H h':=fun b o e=>by
   refine (I.hok b o e).stay (fun c v hc' q=>?_) (fun c q=>q) fun c ys q=>q
   obtain ⟨n1,n2,n3,n4⟩:c≠z/\c≠TO/\c≠i1/\c≠i2:=by
    rcases hc' with rfl | hc'
    ·exact nt e
    ·exact nt hc'
   exact hk c v n1 n2 n3 n4 q
  have un:Un (frs X.stack) [z,TI,TO,i1,i2] H H s.heap h':=by
   have kp:∀ {b o},b∉[z,TI,TO,i1,i2]->s.heap.get? b=some o->h'.get? b=some o:=fun {b o} hb e=>hk b o (fun q=>hb (by simp [q])) (fun q=>hb (by simp [q])) (fun q=>hb (by simp [q])) (fun q=>hb (by simp [q])) e
   exact ⟨fun b o e n _ hx=>kp hx e,fun b o e n _ hx=>⟨o.slots,kp hx e⟩,fun b o e n _=>n,fun b o e hx=>⟨o,kp hx e⟩,fun b ys e=>e,fun b o v e=>e,fun b ps e=>⟨#[],by rw [e]; simp⟩⟩
  exact I.call' (s':={ s with heap:=h' }) rfl un hok I.bare fun b hb=>by
   have f:=hf b hb
   exact ⟨f.2.2.2.1,f.2.1,f.2.2.2.2.1,f.2.2.2.2.2⟩
 self:=fun _ _ _ _ _ st h=>wpAny_pyIter_zip st.1 h
section
variable {X:Cx}
def yuk (K:W.Frag) (ta:TA):TI:=fun σ H R=>ta σ H fun vs H1=>∃ a b,vs=[.ref a,.ref b]/\(∃ xs ys,SqL K H1 a xs/\SqL K H1 b ys)/\R (Itz K a b) H1
theorem ykv {elts:List Expr} {x1} {tpos:Pos} {l m:Expr} {ta:TA} {p pos:Pos} (hg:Gl X "zip") (hm:X.mg "zip"=none) (ha:PA X [l,m] ta) (hs:starEach [l,m] X.env=[(false,eval l X.env),(false,eval m X.env)]:=by rfl) (hs2:starEach [m] X.env=[(false,eval m X.env)]:=by rfl) :
  PI X (.Tuple elts x1 tpos) (.Call (.Name "zip" p) [l,m] [] pos) (yuk X.K ta):=by
 intro pins s σ H R I h
 refine Call_ (yae I hg hm (show bootBuiltins "zip"=some (.type "zip") by decide +kernel) (PyProof.Rows.callWith_type1 (thn (ha pos pins s σ H _ I h) fun us s1 ⟨vs,H1,I1,r1,q1⟩=>?_) (by rw [hs,hs2]) (by rw [hs2]; rfl)))
 obtain ⟨a,b,e,⟨xs,ys,hq,hq'⟩,q⟩:=q1
 subst e
 cases r1 with
 | cons r rr =>
  cases rr with
  | cons r' rr =>
   cases rr
   cases r
   cases r'
   obtain ⟨its,rv,pl,hz⟩:=I1.list hq
   obtain ⟨its',rv',pl',hz'⟩:=I1.list hq'
   refine call_zip_2 pl.isList pl'.isList fun h' hz hTI hTO h1 h2 hsz hk=>?_
   refine wpAny_pyIter_zip hz ?_
   have zap:Zap (s1.heap.objs.size+4) (s1.heap.objs.size+2) (s1.heap.objs.size+3) s1.heap.objs.size (s1.heap.objs.size+1):=yk7 _
   refine ⟨s1.heap.objs.size+4,[s1.heap.objs.size+4,s1.heap.objs.size+2,s1.heap.objs.size+3,s1.heap.objs.size,s1.heap.objs.size+1],_,_,H1,rfl,I1.kept (t':=s1.toks) hk,yiy a b _ _ _ _ _ zap,⟨hz,hTI,⟨_,_,hTO⟩,h1,h2⟩,fun b hb=>?_,q⟩
   have hb:s1.heap.objs.size <= b:=by
    simp only [List.mem_cons,List.not_mem_nil,or_false] at hb
    rcases hb with rfl | rfl | rfl | rfl | rfl <;> omega
   exact I1.fpOk hb (I1.hok.fresh hb)
theorem ypf {K:W.Frag} {ta:TA} {σ:St} {H:Hp} {R:It->Hp->Prop} (h:ta σ H fun vs H1=>∃ a b,vs=[.ref a,.ref b]/\(∃ xs ys,SqL K H1 a xs/\SqL K H1 b ys)/\R (Itz K a b) H1):yuk K ta σ H R:=h
end
theorem yau {K:W.Frag} {a b D:Addr} {xs ys:List V} {g:TG} {te:TE} {n:Nat} {fr:St} {R:Hp->Prop} {H1:Hp} (f:Nat->V) (hq:SqL K H1 a xs) (hq':SqL K H1 b ys) (hl:ys.length=xs.length) (hD:H1 D=none)
  (hs:∀ i x y H t pre,xs[i]?=some x->ys[i]?=some y->y6 H1 H->H D=some (.lst ((List.range i).map f))->H t=none->List.length pre=n->g (.ref t) (pre++fr) (upd H t (.tup [x,y])) fun σ' H'=>(∃ pre',List.length pre'=n/\σ'=pre'++fr)/\te σ' H' (MpK H1 D f xs.length i))
  (hd:∀ H,y6 H1 H->H D=some (.lst ((List.range xs.length).map f))->R H):zt (Itz K a b) g te n fr D R H1:=by
 refine ⟨cW xs.length (Mp H1 D f),⟨xs.length,by simp,Nat.zero_le _,Mp.zero hD⟩,?_⟩
 rintro i m H ⟨rfl,hi,p⟩
 have q:=p.1.seq hq
 have q':=p.1.seq hq'
 by_cases hlt:i < xs.length
 ·refine .inr ⟨⟨xs,ys,xs[i],ys[i]'(by omega),q,q',by simp [hlt],by simp [hl,hlt]⟩,fun y H' pre yl hp=>?_⟩
  obtain ⟨t,x,y,rfl,ht,rfl,hx,hy⟩:=yl
  exact hs i x y H t pre (hx xs q) (hy ys q') p.1 p.2 ht hp
 ·have e:i=xs.length:=by omega
  subst e
  exact .inl ⟨⟨xs,ys,q,q',.inl (Nat.le_refl _)⟩,hd H p.1 p.2⟩
section
variable {X:Cx} {iter elt tg:Expr} {xs:List Str} {g:TG} {pos:Pos} {scope:Scope} {te:TE} {wi:TI} {ys:List Str} {js:List Nat}
theorem yjf {i:Nat} {y:Str} {py spos:Pos} (hN:X.N.Nodup) (hy:X.N[i]?=some y) (hl:X.env.scope.names.lookup y=some .local) (hc:X.calm=true) (hi:PI X tg iter wi)
  (he:∀ (C:Addr) (s2:Shared) (H2:Hp) (fp:List Addr),PE (X.compT scope ys C xs s2 H2 fp) elt te) (hjs:js.map (fun j=>X.N[j]?)=ys.map some)
  (hgt:∀ (C:Addr) (s2:Shared) (H2:Hp) (fp:List Addr),PG (X.compT scope ys C xs s2 H2 fp) tg g)
  (hclos:closureFor scope X.env=pure (x4 ys X.env)) (hyc:∀ y∈ys,X.env.kindOf y=some .cell) (hrel:∀ y∈ys,(relabel scope X.env).names.lookup y=some .cell)
  (hsw:swapsWith (.ListComp elt [⟨tg,iter,[],0⟩] scope pos) (some (.Name y py)) spos.line X.env=pure true:=by rfl)
  (hfr:∀ y∈scope.names,y.2=.free->y.1∈ys:=by decide +kernel) (hcell:∀ y∈scope.names,y.2≠.cell:=by decide +kernel) (hkind:scope.kind=.function:=by rfl)
  (hnames:∀ y∈scope.names,y.2=.local->scope.names.lookup y.1=some .local:=by decide +kernel) (hs:∀ x,foldedSetIterable iter X.env x=pure x:=by intro _; rfl) :
  PS X (.Assign [.Name y py] (.ListComp elt [⟨tg,iter,[],0⟩] scope pos) spos) (ysh (yh0 wi g te xs.length js) (wf i)):=by
 intro pins s σ H D0 I h
 rw [exec_Assign_Name_used _ _ _ _ hsw]
 refine wpAny_bind (wpAny_standAt (wpAny_bind ?_))
 show wpAny _ X.A (do let _ <- comprehension (.ListComp elt [⟨tg,iter,[],0⟩] scope pos) scope X.env _ (newList []) false (eval iter X.env) (some (assign (.Name y py) X.env))) _ _ s
 refine wpAny_bind (wpAny_mono (wpAny_comprehension_free (use:=some (assign (.Name y py) X.env)) (Q:=fun _ s'=>SP X pins D0 .next s') rfl hs hclos hkind hnames (thn (hi pins s σ H _ I h) fun v s1 h1=>thn h1 fun itv s2 h2=>?_)) (fun _ s' hq=>wpAny_pure (wpAny_pure hq)) fun _ _ e=>e)
 obtain ⟨it,fp,tn,J,H2,e,I2,T,st2,f2,h⟩:=h2
 subst e
 refine yaq (R:=fun D H'=>wf i (.ref D) σ H' D0.nx) (RR:=compPost (model X.prog X.w) X.A X.xe (some (assign (.Name y py) X.env)) (fun _ s'=>SP X pins D0 .next s')) hc he hgt hcell hkind hfr hyc hrel hjs I2 T st2 f2 h ?_
 intro D C H' s' m f hn I' q
 refine wpAny_assign_Name (za (v:=V.ref D) I' hN hy (Or.inl hl) rfl (fun s'' I'' k''=>?_) (Or.inr hl))
 refine ⟨m,?_,fun h' sb=>⟨_,H',?_,q⟩⟩
 ·obtain ⟨b,sb,hb⟩:=k''
  refine hn.sameBut sb fun z=>?_
  rcases hb with hb | hb
  ·exact f.2.1 (z.trans hb)
  ·exact f.2.2.2.2.1 y b hb z.symm
 ·exact I''.turned (t':=s''.toks) (fun b o hb e=>sb.extBut b o hb e) f.1 f.2.1 f.2.2.2.1 f.2.2.2.2.1 f.2.2.2.2.2
end
section
variable {X:Cx}
def onI (f:Int->Int):V->V
 | .int i=>.int (f i)
 | v=>v
theorem yby (f:Int->Int) (ns:List Int):(ns.map V.int).map (onI f)=(ns.map f).map V.int:=by
 rw [List.map_map,List.map_map]
 rfl
theorem yh1 {pre:List (Option V)} (h:List.length pre=2):∃ v1 v2,pre=[v1,v2]:=by
 match pre,h with
 | [v1,v2],_=>exact ⟨v1,v2,rfl⟩
end
section
variable {X:Cx}
def yr5:V->List V->Hp->VK->Prop:=fun x vs H Q=>∃ i:Int,x=.int i/\vs=[]/\Q (.int (Builtin.Int.intBits i:Nat)) H
theorem ylh:MtR X "int.bit_length" yr5:=by
 intro pins s σ H x vs v us Q I rx rv h
 obtain ⟨i,rfl,rfl,q⟩:=h
 obtain ⟨t,rfl⟩:=rx
 have hus:=rv.zero
 subst hus
 exact PyProof.Rows.call_int_bit_length ⟨.int _,H,I.tok _,⟨_,rfl⟩,q⟩
theorem ypl {K:W.Frag} {i:Int} {H:Hp} {Q:VK} (h:Q (.int (Builtin.Int.intBits i:Nat)) H):tyV K "int" (.int i) H/\yr5 (.int i) [] H Q:=⟨rfl,i,rfl,rfl,h⟩
end
end L2
namespace L2
open PySem PySem.Spec PyProof.Rows
section
variable {prog:Program} {w:World} {A:Around} {E:Value->Shared->Prop} {s:Shared}
theorem yiz {z TI TO i1 i2 l1 l2:Addr} {k1 k2:Nat} {xs ys:Array Value} {x y a b:Value} {Q:Value->Shared->Prop} (D:ZipApart z TI TO i1 i2 l1 l2) (hz:IsZip s.heap z TI TO .none) (hTI:IsPair s.heap TI (.ref i1) (.ref i2)) (hTO:IsPair s.heap TO a b)
  (h1:s.heap.IsTupleIter i1 l1 k1) (h2:s.heap.IsTupleIter i2 l2 k2) (hl1:s.heap.IsTuple l1 xs) (hl2:s.heap.IsTuple l2 ys) (hx:xs[k1]?=some x) (hy:ys[k2]?=some y)
  (hQ:∀ h',IsZip h' z TI TO (rawInt s.heap.objs.size)->IsPair h' TO x y->h'.IsTupleIter i1 l1 (k1+1)->h'.IsTupleIter i2 l2 (k2+1)->IsPair h' s.heap.objs.size x y->h'.objs.size=s.heap.objs.size+1->(∀ c o,c≠z->c≠TO->c≠i1->c≠i2->s.heap.get? c=some o->h'.get? c=some o)->Q (.ref s.heap.objs.size) { s with heap:=h' }) :
  wpAny (model prog w) A (Builtin.«zip.__next__» ⟨[.ref z],[]⟩) (fun fin s'=>∃ v,fin=.done (.ret v)/\Q v s') E s:=by
 (show wpAny _ _ (field (.ref z) 2 >>= _) _ _ _); refine wpAny_bind (wpAny_field hz rfl (x:=.bool false) rfl ?_)
 (show wpAny _ _ (field (.ref z) 3 >>= _) _ _ _); refine wpAny_bind (wpAny_field hz rfl (x:=.ref TI) rfl ?_); refine wpAny_bind (wpAny_seqItems hTI rfl ?_)
 (show wpAny _ _ (Builtin.SmallTypes.ownedTupleIsFree (.ref z) >>= _) _ _ _); refine wpAny_bind ?_; unfold Builtin.SmallTypes.ownedTupleIsFree
 refine wpAny_bind (wpAny_field hz rfl (x:=.none) rfl (wpAny_pure ?_)); simp only [if_true]; refine wpAny_bind (wpAny_rule ?_)
 refine wpAny_bind (wpAny_field hz rfl (x:=.ref TO) rfl ?_); refine wpAny_bind (wpAny_setField_rec hz (by simp) fun h₁ hz₁ hs₁=>?_)
 replace hz₁:IsZip h₁ z TI TO .ellipsis:=hz₁; refine wpAny_bind ?_; simp only [List.zipIdx_cons,List.zipIdx_nil,List.forIn_cons,List.forIn_nil]
 refine wpAny_bind (wpAny_bind (wpAny_onRaise ?_)); (show wpAny _ _ (Builtin.SmallTypes.nextOf (.ref i1) >>= _) _ _ _)
 refine wpAny_bind (uu (h1.at fun o e=>hs₁.extBut _ _ D.i1z e) (hl1.extBut hs₁.extBut D.l1z) hx fun h₂ h1₂ hs₂=>wpAny_pure ?_)
 have hTO₂:IsPair h₂ TO a b:=hs₂.extBut _ _ D.TOi1 (hs₁.extBut _ _ D.TOz hTO); refine wpAny_bind (wpAny_seqItems hTO₂ rfl ?_)
 refine wpAny_bind (wpAny_updateSeq_pair hTO₂ fun h₃ hTO₃ hs₃=>?_); replace hTO₃:IsPair h₃ TO x b:=hTO₃; refine wpAny_bind (wpAny_letGo (wpAny_pure ?_))
 refine wpAny_bind (wpAny_bind (wpAny_onRaise ?_)); (show wpAny _ _ (Builtin.SmallTypes.nextOf (.ref i2) >>= _) _ _ _)
 refine wpAny_bind (uu (h2.at fun o e=>hs₃.extBut _ _ D.TOi2.symm (hs₂.extBut _ _ D.i12.symm (hs₁.extBut _ _ D.i2z e))) (((hl2.extBut hs₁.extBut D.l2z).extBut hs₂.extBut D.l2i1).extBut hs₃.extBut D.l2TO) hy fun h₄ h2₄ hs₄=>wpAny_pure ?_)
 have hTO₄:IsPair h₄ TO x b:=hs₄.extBut _ _ D.TOi2 hTO₃; refine wpAny_bind (wpAny_seqItems hTO₄ rfl ?_)
 refine wpAny_bind (wpAny_updateSeq_pair hTO₄ fun h₅ hTO₅ hs₅=>?_); replace hTO₅:IsPair h₅ TO x y:=hTO₅; refine wpAny_bind (wpAny_letGo (wpAny_pure (wpAny_pure ?_)))
 refine wpAny_bind (wpAny_seqItems hTO₅ rfl ?_); refine wpAny_bind (wpAny_newTuple ?_)
 have hsz:h₅.objs.size=s.heap.objs.size:=by (rw [hs₅.1,hs₄.1,hs₃.1,hs₂.1,hs₁.1])
 have hz₅:IsZip h₅ z TI TO .ellipsis:=(hs₅.extBut _ _ D.TOz.symm (hs₄.extBut _ _ D.i2z.symm (hs₃.extBut _ _ D.TOz.symm (hs₂.extBut _ _ D.i1z.symm hz₁))))
 have hk₅:∀ c o,c≠z->c≠TO->c≠i1->c≠i2->s.heap.get? c=some o->h₅.get? c=some o:=fun c o c1 c2 c3 c4 e=>hs₅.extBut _ _ c2 (hs₄.extBut _ _ c4 (hs₃.extBut _ _ c2 (hs₂.extBut _ _ c3 (hs₁.extBut _ _ c1 e))))
 have h1₅:h₅.IsTupleIter i1 l1 (k1+1):=h1₂.at fun o e=>hs₅.extBut _ _ D.TOi1.symm (hs₄.extBut _ _ D.i12 (hs₃.extBut _ _ D.TOi1.symm e))
 have h2₅:h₅.IsTupleIter i2 l2 (k2+1):=h2₄.at fun o e=>hs₅.extBut _ _ D.TOi2.symm e
 have hzlt:z < h₅.objs.size:=(Heap.lt_size hz₅)
 (show wpAny _ _ (Builtin.SmallTypes.ownedTupleHandOut (.ref z) (.ref h₅.objs.size) >>= _) _ _ _); refine wpAny_bind ?_; unfold Builtin.SmallTypes.ownedTupleHandOut
 have hz₆:IsZip (h₅.push { cls:=.type "tuple",data:=.seq #[x,y] }) z TI TO .ellipsis:=(Heap.get?_push_of_some _ hz₅)
 refine wpAny_bind (wpAny_setField_rec hz₆ (by simp) fun h₇ hz₇ hs₇=>?_); replace hz₇:IsZip h₇ z TI TO (rawInt h₅.objs.size):=hz₇
 refine wpAny_setField_rec hz₇ (by simp) fun h₈ hz₈ hs₈=>?_; replace hz₈:IsZip h₈ z TI TO (rawInt h₅.objs.size):=hz₈
 have up:∀ c o,c≠z->h₅.get? c=some o->h₈.get? c=some o:=(fun c o c1 e=>hs₈.extBut _ _ c1 (hs₇.extBut _ _ c1 (Heap.get?_push_of_some _ e)))
 have hT₈:IsPair h₈ h₅.objs.size x y:=(hs₈.extBut _ _ (Nat.ne_of_gt hzlt) (hs₇.extBut _ _ (Nat.ne_of_gt hzlt) (Heap.get?_push_size _ rfl)))
 have hz8:h₈.objs.size=h₅.objs.size+1:=by (rw [hs₈.1,hs₇.1,Heap.size_push])
 (rw [hsz] at hz₈ hT₈ hz8); refine wpAny_pure ⟨_,rfl,?_⟩; show Q (.ref h₅.objs.size) _; rw [hsz]
 exact hQ h₈ hz₈ (up _ _ D.TOz hTO₅) (h1₅.at fun o e=>up _ o D.i1z e) (h2₅.at fun o e=>up _ o D.i2z e) hT₈ hz8 (fun c o c1 c2 c3 c4 e=>up c o c1 (hk₅ c o c1 c2 c3 c4 e))
theorem yly {z TI TO i1 i2 l1 l2:Addr} {k1 k2:Nat} {xs ys:Array Value} {a b:Value} {Q:Fin->Shared->Prop} (hh:A.handled=none) (D:ZipApart z TI TO i1 i2 l1 l2) (hz:IsZip s.heap z TI TO .none) (hTI:IsPair s.heap TI (.ref i1) (.ref i2)) (hTO:IsPair s.heap TO a b)
  (h1:s.heap.IsTupleIter i1 l1 k1) (h2:s.heap.IsTupleIter i2 l2 k2) (hl1:s.heap.IsTuple l1 xs) (hl2:s.heap.IsTuple l2 ys) (hend:xs[k1]?=none\/ys[k2]?=none)
  (hE:∀ h' e,(∀ c o,c≠z->c≠TO->c≠i1->c≠i2->s.heap.get? c=some o->h'.get? c=some o)->(∃ o,h'.get? e=some o/\o.cls=.type "StopIteration")->E (.ref e) { s with heap:=h' }):wpAny (model prog w) A (Builtin.«zip.__next__» ⟨[.ref z],[]⟩) Q E s:=by
 (show wpAny _ _ (field (.ref z) 2 >>= _) _ _ _); refine wpAny_bind (wpAny_field hz rfl (x:=.bool false) rfl ?_)
 (show wpAny _ _ (field (.ref z) 3 >>= _) _ _ _); refine wpAny_bind (wpAny_field hz rfl (x:=.ref TI) rfl ?_); refine wpAny_bind (wpAny_seqItems hTI rfl ?_)
 (show wpAny _ _ (Builtin.SmallTypes.ownedTupleIsFree (.ref z) >>= _) _ _ _); refine wpAny_bind ?_; unfold Builtin.SmallTypes.ownedTupleIsFree
 refine wpAny_bind (wpAny_field hz rfl (x:=.none) rfl (wpAny_pure ?_)); simp only [if_true]; refine wpAny_bind (wpAny_rule ?_)
 refine wpAny_bind (wpAny_field hz rfl (x:=.ref TO) rfl ?_); refine wpAny_bind (wpAny_setField_rec hz (by simp) fun h₁ hz₁ hs₁=>?_)
 replace hz₁:IsZip h₁ z TI TO .ellipsis:=hz₁; refine wpAny_bind ?_; simp only [List.zipIdx_cons,List.zipIdx_nil,List.forIn_cons,List.forIn_nil]
 refine wpAny_bind (wpAny_bind (wpAny_onRaise ?_)); (show wpAny _ _ (Builtin.SmallTypes.nextOf (.ref i1) >>= _) _ _ _)
 cases hx:xs[k1]? with
 | none =>
  refine wpAny_bind (j0 hh (h1.at fun o e=>hs₁.extBut _ _ D.i1z e) (hl1.extBut hs₁.extBut D.l1z) hx fun h₂ e hs₂ he=>?_)
  obtain ⟨oe,hoe,hce⟩:=he; have hz₂:IsZip h₂ z TI TO .ellipsis:=hs₂ _ _ D.i1z.symm hz₁
  have hez:e≠z:=(fun x=>by (subst x; rw [hz₂] at hoe; cases hoe; simp at hce))
  exact wpAny_setField_rec hz₂ (by simp) fun h₃ _ hs₃=>hE h₃ e (fun c o c1 _ c3 _ x=>hs₃.extBut _ _ c1 (hs₂ _ _ c3 (hs₁.extBut _ _ c1 x))) ⟨oe,hs₃.extBut _ _ hez hoe,hce⟩
 | some x =>
  have hy:ys[k2]?=none:=by (rcases hend with h | h; (rw [hx] at h; cases h); exact h)
  refine wpAny_bind (uu (h1.at fun o e=>hs₁.extBut _ _ D.i1z e) (hl1.extBut hs₁.extBut D.l1z) hx fun h₂ h1₂ hs₂=>wpAny_pure ?_)
  have hTO₂:IsPair h₂ TO a b:=(hs₂.extBut _ _ D.TOi1 (hs₁.extBut _ _ D.TOz hTO)); refine wpAny_bind (wpAny_seqItems hTO₂ rfl ?_)
  refine wpAny_bind (wpAny_updateSeq_pair hTO₂ fun h₃ hTO₃ hs₃=>?_); refine wpAny_bind (wpAny_letGo (wpAny_pure ?_))
  refine wpAny_bind (wpAny_bind (wpAny_onRaise ?_)); (show wpAny _ _ (Builtin.SmallTypes.nextOf (.ref i2) >>= _) _ _ _)
  refine wpAny_bind (j0 hh (h2.at fun o e=>hs₃.extBut _ _ D.TOi2.symm (hs₂.extBut _ _ D.i12.symm (hs₁.extBut _ _ D.i2z e))) (((hl2.extBut hs₁.extBut D.l2z).extBut hs₂.extBut D.l2i1).extBut hs₃.extBut D.l2TO) hy fun h₄ e hs₄ he=>?_)
  obtain ⟨oe,hoe,hce⟩:=he; have hz₄:IsZip h₄ z TI TO .ellipsis:=hs₄ _ _ D.i2z.symm (hs₃.extBut _ _ D.TOz.symm (hs₂.extBut _ _ D.i1z.symm hz₁))
  have hez:e≠z:=(fun x=>by (subst x; rw [hz₄] at hoe; cases hoe; simp at hce))
  exact wpAny_setField_rec hz₄ (by simp) fun h₅ _ hs₅=>hE h₅ e (fun c o c1 c2 c3 c4 x=>hs₅.extBut _ _ c1 (hs₄ _ _ c4 (hs₃.extBut _ _ c2 (hs₂.extBut _ _ c3 (hs₁.extBut _ _ c1 x))))) ⟨oe,hs₅.extBut _ _ hez hoe,hce⟩
theorem yi3 {z TI TO i1 i2 l1 l2:Addr} {k1 k2:Nat} {xs ys:Array Value} {x y a b:Value} {Q:Option Value->Shared->Prop} (D:ZipApart z TI TO i1 i2 l1 l2) (hz:IsZip s.heap z TI TO .none) (hTI:IsPair s.heap TI (.ref i1) (.ref i2)) (hTO:IsPair s.heap TO a b)
  (h1:s.heap.IsTupleIter i1 l1 k1) (h2:s.heap.IsTupleIter i2 l2 k2) (hl1:s.heap.IsTuple l1 xs) (hl2:s.heap.IsTuple l2 ys) (hx:xs[k1]?=some x) (hy:ys[k2]?=some y)
  (hQ:∀ h',IsZip h' z TI TO (rawInt s.heap.objs.size)->IsPair h' TO x y->h'.IsTupleIter i1 l1 (k1+1)->h'.IsTupleIter i2 l2 (k2+1)->IsPair h' s.heap.objs.size x y->h'.objs.size=s.heap.objs.size+1->(∀ c o,c≠z->c≠TO->c≠i1->c≠i2->s.heap.get? c=some o->h'.get? c=some o)->Q (some (.ref s.heap.objs.size)) { s with heap:=h' }) :
  wpAny (model prog w) A (pyNext (.ref z)) Q E s:=by
 have hT:s.TypeIs (.ref z) "zip":=(⟨_,hz,rfl⟩); unfold pyNext
 exact wpAny_bind (wpAny_attempt (wpAny_callSpecial?_slot (name:=Str.ofString "__next__") hT F.slot_zip_next (wpAny_call_entry F.slot_zip_next hT F.entry_zip_next
   (yiz D hz hTI hTO h1 h2 hl1 hl2 hx hy fun h' a1 a2 a3 a4 a5 a6 a7=>wpAny_pure (hQ h' a1 a2 a3 a4 a5 a6 a7)) (F.args_zip_next_1 _))))
theorem yi0 {z TI TO i1 i2 l1 l2:Addr} {k1 k2:Nat} {xs ys:Array Value} {a b:Value} {Q:Option Value->Shared->Prop} (hh:A.handled=none) (D:ZipApart z TI TO i1 i2 l1 l2) (hz:IsZip s.heap z TI TO .none) (hTI:IsPair s.heap TI (.ref i1) (.ref i2)) (hTO:IsPair s.heap TO a b)
  (h1:s.heap.IsTupleIter i1 l1 k1) (h2:s.heap.IsTupleIter i2 l2 k2) (hl1:s.heap.IsTuple l1 xs) (hl2:s.heap.IsTuple l2 ys) (hend:xs[k1]?=none\/ys[k2]?=none)
  (hQ:∀ h',(∀ c o,c≠z->c≠TO->c≠i1->c≠i2->s.heap.get? c=some o->h'.get? c=some o)->Q none { s with heap:=h' }):wpAny (model prog w) A (pyNext (.ref z)) Q E s:=by
 have hT:s.TypeIs (.ref z) "zip":=(⟨_,hz,rfl⟩); unfold pyNext
 refine wpAny_bind (wpAny_attempt (wpAny_callSpecial?_slot (name:=Str.ofString "__next__") hT F.slot_zip_next (wpAny_call_entry F.slot_zip_next hT F.entry_zip_next
  (yly hh D hz hTI hTO h1 h2 hl1 hl2 hend fun h' e hk he=>?_) (F.args_zip_next_1 _))))
 obtain ⟨o,ho,hc⟩:=he; refine wpAny_bind (wpAny_isInstance (T:="StopIteration") (b:=true) ⟨o,ho,hc⟩ isSubtype_stop ?_)
 exact wpAny_pure (hQ _ hk)
end
abbrev zT1 (h:Heap) (l1:Addr):Heap:=h.push { cls:=.type "tuple_iterator",data:=.fields #[.ref l1,.int 0 0] }
abbrev zT2 (h:Heap) (l1 l2:Addr):Heap:=(zT1 h l1).push { cls:=.type "tuple_iterator",data:=.fields #[.ref l2,.int 0 0] }
abbrev zT3 (h:Heap) (l1 l2:Addr):Heap:=(zT2 h l1 l2).push { cls:=.type "tuple",data:=.seq #[.ref h.objs.size,.ref (zT1 h l1).objs.size] }
abbrev zT4 (h:Heap) (l1 l2:Addr):Heap:=(zT3 h l1 l2).push { cls:=.type "tuple",data:=.seq #[.none,.none] }
abbrev zT5 (h:Heap) (l1 l2:Addr):Heap:=(zT4 h l1 l2).push { cls:=.type "zip",data:=.fields #[.none,.bool false,.bool false,.ref (zT2 h l1 l2).objs.size,.ref (zT3 h l1 l2).objs.size] }
theorem yl3 (l1 l2:Addr) (xs ys:Array Value):Meets (Builtin.«zip.__new__» ⟨[.type "zip",.ref l1,.ref l2],[]⟩) (fun _ R s=>s.heap.IsTuple l1 xs/\s.heap.IsTuple l2 ys/\R (.ok (.ret (.ref (zT4 s.heap l1 l2).objs.size))) { s with heap:=zT5 s.heap l1 l2 }) :=
 .of_wp fun prog w A R s h=>by
  obtain ⟨hp,g,d,tk,os⟩:=s
  obtain ⟨hl1,hl2,h⟩:=h
  have hsub:=sub_zip
  have hT1:Heap.IsTuple (Shared.heap ⟨hp,g,d,tk,os⟩) l1 xs:=hl1
  have hT2:Heap.IsTuple (Shared.heap ⟨hp.push { cls:=.type "tuple_iterator",data:=.fields #[.ref l1,.int 0 0] },g,d,tk,os⟩) l2 ys:=Heap.IsTuple.push hl2 _
  wp_walk using wpAny_pyIter_tuple hT1,wpAny_pyIter_tuple hT2
  exact ⟨_,rfl,h⟩
section
variable {prog:Program} {w:World} {A:Around} {E:Value->Shared->Prop} {s:Shared}
theorem yji {l1 l2:Addr} {xs ys:Array Value} {Q:Value->Shared->Prop} (hl1:s.heap.IsTuple l1 xs) (hl2:s.heap.IsTuple l2 ys)
  (h:∀ h',IsZip h' (s.heap.objs.size+4) (s.heap.objs.size+2) (s.heap.objs.size+3) .none->IsPair h' (s.heap.objs.size+2) (.ref s.heap.objs.size) (.ref (s.heap.objs.size+1))->IsPair h' (s.heap.objs.size+3) .none .none->h'.IsTupleIter s.heap.objs.size l1 0->h'.IsTupleIter (s.heap.objs.size+1) l2 0 ->
   (∀ c o,s.heap.get? c=some o->h'.get? c=some o)->Q (.ref (s.heap.objs.size+4)) { s with heap:=h' }):wpAny (model prog w) A (call (.type "zip") [.ref l1,.ref l2]) Q E s:=by
 refine callType_new F.called_zip (by decide) (F.typeCall_zip_2 _ _) (F.newCall_zip_2 _ _) (fun obj=>F.args_object_init_3 obj _ _) F.entry_zip_new (yl3 l1 l2 xs ys) ⟨hl1,hl2,?_⟩
 have z1:(zT1 s.heap l1).objs.size=s.heap.objs.size+1:=Heap.size_push ..
 have z2:(zT2 s.heap l1 l2).objs.size=s.heap.objs.size+2:=by rw [Heap.size_push,z1]
 have z3:(zT3 s.heap l1 l2).objs.size=s.heap.objs.size+3:=by rw [Heap.size_push,z2]
 have z4:(zT4 s.heap l1 l2).objs.size=s.heap.objs.size+4:=by rw [Heap.size_push,z3]
 have g5:(zT5 s.heap l1 l2).get? (zT4 s.heap l1 l2).objs.size=some _:=Heap.get?_push_size _ rfl
 have g4:(zT5 s.heap l1 l2).get? (zT3 s.heap l1 l2).objs.size=some _:=Heap.get?_push_of_some _ (Heap.get?_push_size _ rfl)
 have g3:(zT5 s.heap l1 l2).get? (zT2 s.heap l1 l2).objs.size=some _:=Heap.get?_push_of_some _ (Heap.get?_push_of_some _ (Heap.get?_push_size _ rfl))
 have g2:(zT5 s.heap l1 l2).get? (zT1 s.heap l1).objs.size=some _:=Heap.get?_push_of_some _ (Heap.get?_push_of_some _ (Heap.get?_push_of_some _ (Heap.get?_push_size _ rfl)))
 have g1:(zT5 s.heap l1 l2).get? s.heap.objs.size=some _:=(Heap.get?_push_of_some _ (Heap.get?_push_of_some _ (Heap.get?_push_of_some _ (Heap.get?_push_of_some _ (Heap.get?_push_size _ rfl)))))
 show _/\_
 rw [z2,z3,z4] at g5
 rw [z1,z2] at g3
 rw [z3] at g4
 rw [z1] at g2
 rw [z4]
 exact ⟨⟨_,g5,rfl⟩,h _ g5 g3 g4 ⟨_,g1,rfl,rfl⟩ ⟨_,g2,rfl,rfl⟩ fun c o x=>(Heap.get?_push_of_some _ (Heap.get?_push_of_some _ (Heap.get?_push_of_some _ (Heap.get?_push_of_some _ (Heap.get?_push_of_some _ x)))))⟩
end
def ysi (K:W.Frag) (a b:Addr):It :=
 ⟨fun i H=>∃ xs ys x y,SqT K H a xs/\SqT K H b ys/\xs[i]?=some x/\ys[i]?=some y,
  fun i H v H'=>∃ t x y,v=.ref t/\H t=none/\H'=upd H t (.tup [x,y])/\(∀ xs,SqT K H a xs->xs[i]?=some x)/\(∀ ys,SqT K H b ys->ys[i]?=some y),
  fun i H=>∃ xs ys,SqT K H a xs/\SqT K H b ys/\(xs.length <= i\/ys.length <= i)⟩
def yue (z TI TO i1 i2 l1 l2:Addr) (i:Nat) (h:Heap):Prop:=IsZip h z TI TO .none/\IsPair h TI (.ref i1) (.ref i2)/\(∃ a b,IsPair h TO a b)/\h.IsTupleIter i1 l1 i/\h.IsTupleIter i2 l2 i
theorem Zap.apartT {X:Cx} {H:Hp} {s:Shared} {z TI TO i1 i2 l1 l2:Addr} {i:Nat} {xs ys:List Value} {us vs:List V} (d:Zap z TI TO i1 i2) (st:yue z TI TO i1 i2 l1 l2 i s.heap) (p:s.heap.IsTuple l1 xs.toArray) (q:s.heap.IsTuple l2 ys.toArray) (hn:H TO=none) (hK:X.K.lookup TO=none)
  (hq:SqT X.K H l1 us) (hq':SqT X.K H l2 vs):ZipApart z TI TO i1 i2 l1 l2:=by
 obtain ⟨hz,hTI,⟨a,b,hTO⟩,⟨o1,e1,c1,_⟩,⟨o2,e2,c2,_⟩⟩:=st
 obtain ⟨ol,el,cl,_⟩:=p
 obtain ⟨om,em,cm,_⟩:=q
 have nTO:∀ {l:Addr} {ws:List V},SqT X.K H l ws->l≠TO:=fun {l ws} h=>by
  rintro rfl
  rcases h with (h | ⟨o,h⟩) | ⟨_,_,_,h,_⟩
  ·rw [hn] at h; cases h
  ·rw [hn] at h; cases h
  ·rw [hK] at h; cases h
 exact ⟨d.a1,d.a2,d.a3,d.a4,d.a5,d.a6,d.a7,d.a8,d.a9,d.b1,
  xm el hz (by rw [cl]; exact nT (by decide)),nTO hq,xm el e1 (by rw [cl,c1]; decide),xm el e2 (by rw [cl,c2]; decide),
  xm em hz (by rw [cm]; exact nT (by decide)),nTO hq',xm em e1 (by rw [cm,c1]; decide),xm em e2 (by rw [cm,c2]; decide)⟩
theorem yg0 {P:Program} {w:World} {K:W.Frag} {elts:List Expr} {x1} {tpos:Pos} (l1 l2 z TI TO i1 i2:Addr) (d:Zap z TI TO i1 i2) (hKT:K.lookup TO=none) :
  yii P w K (.Tuple elts x1 tpos) (ysi K l1 l2) [z,TI,TO,i1,i2] z (yue z TI TO i1 i2 l1 l2) where
 mem:=by simp
 obj:=fun i h st b hb=>by
  obtain ⟨hz,hTI,⟨_,_,hTO⟩,⟨o1,e1,_,d1⟩,⟨o2,e2,_,d2⟩⟩:=st
  simp only [List.mem_cons,List.not_mem_nil,or_false] at hb
  rcases hb with rfl | rfl | rfl | rfl | rfl
  ·exact ⟨_,hz,fun v z=>by cases z⟩
  ·exact ⟨_,hTI,fun v z=>by cases z⟩
  ·exact ⟨_,hTO,fun v z=>by cases z⟩
  ·exact ⟨o1,e1,fun v z=>by rw [d1] at z; cases z⟩
  ·exact ⟨o2,e2,fun v z=>by rw [d2] at z; cases z⟩
 keep:=fun i h h' st k=>by
  obtain ⟨hz,hTI,⟨a,b,hTO⟩,h1,h2⟩:=st
  exact ⟨k z (by simp) _ hz,k TI (by simp) _ hTI,⟨a,b,k TO (by simp) _ hTO⟩,h1.at fun o e=>k i1 (by simp) o e,h2.at fun o e=>k i2 (by simp) o e⟩
 item:=by
  intro X hP hw hK hc i pins s σ H E I hf st hg
  subst hP hw hK
  obtain ⟨xs,ys,x,y,hq,hq',hx,hy⟩:=hg
  obtain ⟨its,rv,p0,hz0⟩:=I.tuple hq
  obtain ⟨its',rv',p0',hz0'⟩:=I.tuple hq'
  have p:s.heap.IsTuple l1 its.toArray:=p0
  have p':s.heap.IsTuple l2 its'.toArray:=p0'
  obtain ⟨u,hu,ru⟩:=rv.get hx
  obtain ⟨u',hu',ru'⟩:=rv'.get hy
  have D:=d.apartT st p p' (hf TO (by simp)).1 hKT hq hq'
  obtain ⟨hz,hTI,⟨va,vb,hTO⟩,hi1,hi2⟩:=st
  refine yi3 D hz hTI hTO hi1 hi2 p p' (x:=u) (y:=u') (by simpa using hu) (by simpa using hu') fun h' a1 a2 a3 a4 a5 a6 hk=>?_
  refine ⟨_,rfl,wpAny_letOwnedTupleGo_zip a1 fun h'' hz'' hs''=>?_⟩
  have hTn:H s.heap.objs.size=none:=I.hok.fresh (Nat.le_refl _)
  have lz:z < s.heap.objs.size:=Heap.lt_size hz
  have lo:TO < s.heap.objs.size:=Heap.lt_size hTO
  have lI:TI < s.heap.objs.size:=Heap.lt_size hTI
  have l1':i1 < s.heap.objs.size:=by obtain ⟨o,e,_⟩:=id hi1; exact Heap.lt_size e
  have l2':i2 < s.heap.objs.size:=by obtain ⟨o,e,_⟩:=id hi2; exact Heap.lt_size e
  have keep:∀ b o,b≠z->b≠TO->b≠i1->b≠i2->s.heap.get? b=some o->h''.get? b=some o:=fun b o n1 n2 n3 n4 e=>(hs''.2 b n1).trans (hk b o n1 n2 n3 n4 e)
  have htup:h''.get? s.heap.objs.size=some { cls:=.type "tuple",data:=.seq #[u,u'] }:=(hs''.2 _ (Nat.ne_of_gt lz)).trans a5
  have nt:∀ {b v},H b=some v->b≠z/\b≠TO/\b≠i1/\b≠i2:=fun {b v} e=>⟨yd e (hf z (by simp)).1,yd e (hf TO (by simp)).1,yd e (hf i1 (by simp)).1,yd e (hf i2 (by simp)).1⟩
  have hok:HOk X.prog X.w (upd H s.heap.objs.size (.tup [x,y])) h'':=fun b o e=>by
   by_cases hb:b=s.heap.objs.size
   ·subst hb
    rw [ya] at e
    cases e
    exact ⟨by show 2 <= sizeLine; decide,[u,u'],.cons ru (.cons ru' .nil),⟨_,htup,rfl,_,rfl⟩⟩
   ·rw [yi hb] at e
    refine (I.hok b o e).stay (fun c v hc' q=>?_) (fun c q=>by rw [yi (yd q hTn)]; exact q) fun c ys q=>by rw [yi (yd q hTn)]; exact q
    obtain ⟨n1,n2,n3,n4⟩:c≠z/\c≠TO/\c≠i1/\c≠i2:=by
     rcases hc' with rfl | hc'
     ·exact nt e
     ·exact nt hc'
    exact keep c v n1 n2 n3 n4 q
  have un:Un (frs X.stack) [z,TI,TO,i1,i2] H (upd H s.heap.objs.size (.tup [x,y])) s.heap h'':=by
   have kp:∀ {b o},b∉[z,TI,TO,i1,i2]->s.heap.get? b=some o->h''.get? b=some o:=fun {b o} hb e=>keep b o (fun q=>hb (by simp [q])) (fun q=>hb (by simp [q])) (fun q=>hb (by simp [q])) (fun q=>hb (by simp [q])) e
   refine ⟨fun b o e n _ hx=>kp hx e,fun b o e n _ hx=>⟨o.slots,kp hx e⟩,fun b o e n _=>by rw [yi (Nat.ne_of_lt (Heap.lt_size e))]; exact n,fun b o e hx=>⟨o,kp hx e⟩,
    fun b ys e=>by rw [yi (yd e hTn)]; exact e,fun b o v e=>by rw [yi (yd e hTn)]; exact e,fun b ps e=>⟨#[],by rw [yi (yd e hTn),e]; simp⟩⟩
  have I1:Inv X pins σ (upd H s.heap.objs.size (.tup [x,y])) { s with heap:=h'' }:=I.call' (s':={ s with heap:=h'' }) rfl un hok I.bare fun b hb=>by
   have f:=hf b hb
   exact ⟨f.2.2.2.1,f.2.1,f.2.2.2.2.1,f.2.2.2.2.2⟩
  refine ⟨.ref s.heap.objs.size,_,I1,rfl,⟨_,x,y,rfl,hTn,rfl,fun zs h=>by rw [I.tuple_inj h hq]; exact hx,fun zs h=>by rw [I.tuple_inj h hq']; exact hy⟩,?_,fun b hb=>?_⟩
  ·exact ⟨hz'',keep _ _ D.TIz D.TITO D.TIi1 D.TIi2 hTI,⟨u,u',(hs''.2 _ D.TOz).trans a2⟩,a3.at fun o e=>(hs''.2 _ D.i1z).trans e,a4.at fun o e=>(hs''.2 _ D.i2z).trans e⟩
  ·rw [yi (fun q=>?_)]
   ·exact (hf b hb).1
   ·have hq:b < s.heap.objs.size:=by
     simp only [List.mem_cons,List.not_mem_nil,or_false] at hb
     rcases hb with rfl | rfl | rfl | rfl | rfl <;> assumption
    exact absurd q (Nat.ne_of_lt hq)
 done:=by
  intro X hP hw hK hc i pins s σ H E I hf st hg
  subst hP hw hK
  obtain ⟨xs,ys,hq,hq',hx⟩:=hg
  obtain ⟨its,rv,p0,hz0⟩:=I.tuple hq
  obtain ⟨its',rv',p0',hz0'⟩:=I.tuple hq'
  have p:s.heap.IsTuple l1 its.toArray:=p0
  have p':s.heap.IsTuple l2 its'.toArray:=p0'
  have D:=d.apartT st p p' (hf TO (by simp)).1 hKT hq hq'
  obtain ⟨hz,hTI,⟨va,vb,hTO⟩,hi1,hi2⟩:=st
  have hl:=rv.length
  have hl':=rv'.length
  refine yi0 (show X.A.handled=none from I.ok.hd hc) D hz hTI hTO hi1 hi2 p p' (by simp; omega) fun h' hk=>⟨rfl,?_⟩
  have nt:∀ {b v},H b=some v->b≠z/\b≠TO/\b≠i1/\b≠i2:=fun {b v} e=>⟨yd e (hf z (by simp)).1,yd e (hf TO (by simp)).1,yd e (hf i1 (by simp)).1,yd e (hf i2 (by simp)).1⟩
  have hok:HOk X.prog X.w H h':=fun b o e=>by
   refine (I.hok b o e).stay (fun c v hc' q=>?_) (fun c q=>q) fun c ys q=>q
   obtain ⟨n1,n2,n3,n4⟩:c≠z/\c≠TO/\c≠i1/\c≠i2:=by
    rcases hc' with rfl | hc'
    ·exact nt e
    ·exact nt hc'
   exact hk c v n1 n2 n3 n4 q
  have un:Un (frs X.stack) [z,TI,TO,i1,i2] H H s.heap h':=by
   have kp:∀ {b o},b∉[z,TI,TO,i1,i2]->s.heap.get? b=some o->h'.get? b=some o:=fun {b o} hb e=>hk b o (fun q=>hb (by simp [q])) (fun q=>hb (by simp [q])) (fun q=>hb (by simp [q])) (fun q=>hb (by simp [q])) e
   exact ⟨fun b o e n _ hx=>kp hx e,fun b o e n _ hx=>⟨o.slots,kp hx e⟩,fun b o e n _=>n,fun b o e hx=>⟨o,kp hx e⟩,fun b ys e=>e,fun b o v e=>e,fun b ps e=>⟨#[],by rw [e]; simp⟩⟩
  exact I.call' (s':={ s with heap:=h' }) rfl un hok I.bare fun b hb=>by
   have f:=hf b hb
   exact ⟨f.2.2.2.1,f.2.1,f.2.2.2.2.1,f.2.2.2.2.2⟩
 self:=fun _ _ _ _ _ st h=>wpAny_pyIter_zip st.1 h
section
variable {X:Cx}
def yr0 (K:W.Frag) (ta:TA):TI:=fun σ H R=>ta σ H fun vs H1=>∃ a b,vs=[.ref a,.ref b]/\(∃ xs ys,SqT K H1 a xs/\SqT K H1 b ys)/\R (ysi K a b) H1
theorem yl8 {elts:List Expr} {x1} {tpos:Pos} {l m:Expr} {ta:TA} {p pos:Pos} (hg:Gl X "zip") (hm:X.mg "zip"=none) (ha:PA X [l,m] ta) (hs:starEach [l,m] X.env=[(false,eval l X.env),(false,eval m X.env)]:=by rfl) (hs2:starEach [m] X.env=[(false,eval m X.env)]:=by rfl) :
  PI X (.Tuple elts x1 tpos) (.Call (.Name "zip" p) [l,m] [] pos) (yr0 X.K ta):=by
 intro pins s σ H R I h
 refine Call_ (yae I hg hm (show bootBuiltins "zip"=some (.type "zip") by decide +kernel) (PyProof.Rows.callWith_type1 (thn (ha pos pins s σ H _ I h) fun us s1 ⟨vs,H1,I1,r1,q1⟩=>?_) (by rw [hs,hs2]) (by rw [hs2]; rfl)))
 obtain ⟨a,b,e,⟨xs,ys,hq,hq'⟩,q⟩:=q1
 subst e
 cases r1 with
 | cons r rr =>
  cases rr with
  | cons r' rr =>
   cases rr
   cases r
   cases r'
   obtain ⟨its,rv,pl,hz⟩:=I1.tuple hq
   obtain ⟨its',rv',pl',hz'⟩:=I1.tuple hq'
   refine yji (show s1.heap.IsTuple a its.toArray from pl) (show s1.heap.IsTuple b its'.toArray from pl') fun h' hz hTI hTO h1 h2 hk=>?_
   refine wpAny_pyIter_zip hz ?_
   have hKT:X.K.lookup (s1.heap.objs.size+3)=none:=by
    cases hl:X.K.lookup (s1.heap.objs.size+3) with
    | none=>rfl
    | some o=>exact absurd (Heap.lt_size (I1.kIn _ o hl)) (Nat.not_lt.mpr (Nat.le_add_right _ _))
   have zap:Zap (s1.heap.objs.size+4) (s1.heap.objs.size+2) (s1.heap.objs.size+3) s1.heap.objs.size (s1.heap.objs.size+1):=yk7 _
   refine ⟨s1.heap.objs.size+4,[s1.heap.objs.size+4,s1.heap.objs.size+2,s1.heap.objs.size+3,s1.heap.objs.size,s1.heap.objs.size+1],_,_,H1,rfl,I1.kept (t':=s1.toks) hk,yg0 a b _ _ _ _ _ zap hKT,⟨hz,hTI,⟨_,_,hTO⟩,h1,h2⟩,fun b hb=>?_,q⟩
   have hb:s1.heap.objs.size <= b:=by
    simp only [List.mem_cons,List.not_mem_nil,or_false] at hb
    rcases hb with rfl | rfl | rfl | rfl | rfl <;> omega
   exact I1.fpOk hb (I1.hok.fresh hb)
theorem ym6 {K:W.Frag} {ta:TA} {σ:St} {H:Hp} {R:It->Hp->Prop} (h:ta σ H fun vs H1=>∃ a b,vs=[.ref a,.ref b]/\(∃ xs ys,SqT K H1 a xs/\SqT K H1 b ys)/\R (ysi K a b) H1):yr0 K ta σ H R:=h
end
theorem yd2 {K:W.Frag} {a b D:Addr} {xs ys:List V} {g:TG} {te:TE} {n m:Nat} {fr:St} {R:Hp->Prop} {H1:Hp} (f:Nat->V) (hq:SqT K H1 a xs) (hq':SqT K H1 b ys) (h1:m <= xs.length) (h2:m <= ys.length) (h3:xs.length <= m\/ys.length <= m) (hD:H1 D=none)
  (hs:∀ i x y H t pre,i < m->xs[i]?=some x->ys[i]?=some y->y6 H1 H->H D=some (.lst ((List.range i).map f))->H t=none->List.length pre=n->g (.ref t) (pre++fr) (upd H t (.tup [x,y])) fun σ' H'=>(∃ pre',List.length pre'=n/\σ'=pre'++fr)/\te σ' H' (MpK H1 D f m i))
  (hd:∀ H,y6 H1 H->H D=some (.lst ((List.range m).map f))->R H):zt (ysi K a b) g te n fr D R H1:=by
 refine ⟨cW m (Mp H1 D f),⟨m,by simp,Nat.zero_le _,Mp.zero hD⟩,?_⟩
 rintro i j H ⟨rfl,hi,p⟩
 have q:=p.1.tup hq
 have q':=p.1.tup hq'
 by_cases hlt:i < m
 ·refine .inr ⟨⟨xs,ys,xs[i]'(by omega),ys[i]'(by omega),q,q',List.getElem?_eq_getElem _,List.getElem?_eq_getElem _⟩,fun y H' pre yl hp=>?_⟩
  obtain ⟨t,x,y,rfl,ht,rfl,hx,hy⟩:=yl
  exact hs i x y H t pre hlt (hx xs q) (hy ys q') p.1 p.2 ht hp
 ·have e:i=m:=by omega
  subst e
  exact .inl ⟨⟨xs,ys,q,q',h3⟩,hd H p.1 p.2⟩
end L2
namespace L2
open PySem PySem.Spec PyProof.Rows HT
section
variable {prog:Program} {w:World} {A:Around} {E:Value->Shared->Prop} {s:Shared}
theorem ydj {t sl:Addr} {items:Array Value} {vl vu:Value} {lo hi:Option Int} {Q:Value->Shared->Prop} (ht:IsTup s.heap t items) (hs:s.heap.IsSliceOf sl vl vu .none) (pl:IsPart vl lo) (pu:IsPart vu hi)
  (hw:sIx items.size 0 lo=0/\sIx items.size items.size hi=items.size) (h:Q (.ref t) s):wpAny (model prog w) A (getItem (.ref t) (.ref sl)) Q E s:=by
 obtain ⟨os,hos,hcs,hds⟩:=id hs
 have hTs:s.TypeIs (.ref sl) "slice":=⟨os,hos,hcs⟩
 unfold getItem
 try with_reducible refine wpAny_holding ?_
 first | refine wpAny_bind (wpAny_pure ?_) | skip
 refine wpAny_bind (wpAny_sequenceKey ht.typeIs (by decide) ?_)
 refine wpAny_bind (wpAny_callSpecial?_slot (name:=Str.ofString "__getitem__") ht.typeIs PyProof.Rows.slot_tuple_getitem
  (wpAny_call_entry PyProof.Rows.slot_tuple_getitem ht.typeIs entry_tuple_getitem ?_ (args_tuple_getitem _ _)))
 show wpAny _ _ (Builtin.Tuple.tupleItemsOf (.ref t) >>= _) _ _ s
 refine wpAny_bind (tupleItemsOf_ ht ?_)
 refine wpAny_bind (wpAny_typeOf hTs ?_)
 rw [if_pos (by decide)]
 refine wpAny_bind (xz hs pl pu ?_)
 have hyes:(((sIx items.size 0 lo:Nat):Int) == 0 && (1:Int) == 1 && (sIx items.size items.size hi - sIx items.size 0 lo) == items.size)=true:=by
  rw [hw.1,hw.2]
  simp
 show wpAny _ _ (if (((sIx items.size 0 lo:Nat):Int) == 0 && (1:Int) == 1 && (sIx items.size items.size hi - sIx items.size 0 lo) == items.size)=true then _ else _) _ _ s
 rw [if_pos hyes]
 refine wpAny_bind (m:=Builtin.Tuple.tupleIsExact _) ?_
 unfold Builtin.Tuple.tupleIsExact
 refine wpAny_bind (wpAny_typeOf ht.typeIs (wpAny_pure ?_))
 show wpAny _ _ (if (Value.type "tuple" == Value.type "tuple")=true then _ else _) _ _ s
 rw [if_pos (by decide)]
 first
  | exact wpAny_bind (wpAny_rule (wpAny_pure ⟨_,rfl,wpAny_pure h⟩))
  | exact wpAny_bind (wpAny_rule (wpAny_bind (wpAny_pure (wpAny_pure ⟨_,rfl,wpAny_pure h⟩))))
  | exact wpAny_bind (wpAny_bind (wpAny_rule (wpAny_pure (wpAny_pure ⟨_,rfl,wpAny_pure h⟩))))
end
section
variable {X:Cx}
def ytc (K:W.Frag):V->Option Int->Option Int->Hp->VK->Prop:=fun x lo hi H Q=>∃ a xs,x=.ref a/\SqT K H a xs/\(HT.sIx xs.length 0 lo=0/\HT.sIx xs.length xs.length hi=xs.length)/\Q (.ref a) H
theorem yml:SlR X (ytc X.K):=by
 intro pins s σ H x v vl vu lo hi sl Q I rx hs pl pu h
 obtain ⟨a,xs,rfl,hx,hw,q⟩:=h
 cases rx
 obtain ⟨its,r,ht,hz⟩:=I.tuple hx
 have hlen:its.toArray.size=xs.length:=by rw [List.size_toArray]; exact r.length.symm
 exact ⟨"tuple",_,PyProof.Rows.slot_tuple_getitem.lookup,ht.typeIs,ydj ht hs pl pu (by rw [hlen]; exact hw) ⟨.ref a,H,I,rfl,q⟩⟩
end
end L2
namespace L2
open PySem PySem.Spec PyProof.Rows PySem.SeqAt
open AutoSeq1 (wpAny_loadPart')
section
variable {X:Cx}
end
end L2
namespace L2
open PySem PySem.Spec PyProof.Rows
section
variable {X:Cx} {a b:Expr} {ta tb:TE} {pos:Pos} {ts:TS} {st:Stmt}
end
end L2
namespace L2
open PySem PySem.Spec PyProof.Rows
theorem yhs {X:Cx} {K:W.Frag} {e:Expr} {f:Str} {pos:Pos} {ta:TE} (hK:X.K=K) (he:PE X e ta) (hb:attributeBase e f X.env (eval e X.env)=eval e X.env):PE X (.Attribute e f pos) (ytq K ta f):=hK ▸ yt he hb
end L2
namespace L2
open PySem PySem.Spec PyProof.Rows
def yb0 (J:It) (tc:TT) (te:TE) (fr:St) (D:Addr) (R:Hp->Prop) (H1:Hp):Prop:=∃ W:Nat->Nat->Hp->Prop,(∃ m,W 0 m (upd H1 D (.lst []))) /\
 ∀ i m H2,W i m H2->(J.stop i H2/\R H2)\/(J.go i H2/\∀ x H3,J.yld i H2 x H3->tc (some x :: fr) H3 fun b H4=>if b=true then te (some x :: fr) H4 (fun y H5=>∃ ys,H5 D=some (.lst ys)/\ys.length < sizeLine/\∃ m',m' < m/\W (i+1) m' (upd H5 D (.lst (ys++[y])))) else ∃ m',m' < m/\W (i+1) m' H4)
def ykq (wi:TI) (tc:TT) (te:TE) (js:List Nat):TE:=fun σ H Q=>wi σ H fun J H1=>∀ D,H1 D=none->yb0 J tc te (vd js σ) D (fun H2=>Q (.ref D) H2) H1
section
variable {X:Cx} {iter elt cnd:Expr} {tc:TT} {x:Str} {px pos:Pos} {scope:Scope} {te:TE} {wi:TI} {pins:List (Addr × Obj)} {σ:St} {ys:List Str} {js:List Nat}
theorem yfw {s2:Shared} {H2:Hp} {it:Addr} {fp:List Addr} {tn:Nat->Heap->Prop} {J:It} (hc:X.calm=true)
  (ht:∀ (C:Addr) (s2:Shared) (H2:Hp) (fp:List Addr),PT (X.compF scope ys C x s2 H2 fp) cnd tc) (he:∀ (C:Addr) (s2:Shared) (H2:Hp) (fp:List Addr),PE (X.compF scope ys C x s2 H2 fp) elt te)
  (hcell:∀ y∈scope.names,y.2≠.cell) (hkind:scope.kind=.function) (hx:scope.names.lookup x=some .local) (hnd:(x :: ys).Nodup)
  (hfr:∀ y∈scope.names,y.2=.free->y.1∈ys) (hyc:∀ y∈ys,X.env.kindOf y=some .cell) (hrel:∀ y∈ys,(relabel scope X.env).names.lookup y=some .cell) (hjs:js.map (fun j=>X.N[j]?)=ys.map some)
  (I2:Inv X pins σ H2 s2) (T:yii X.prog X.w X.K (.Name x px) J fp it tn) (st2:tn 0 s2.heap) (f2:∀ b∈fp,yb5 X pins H2 b)
  {R:Addr->Hp->Prop} (h:∀ D,H2 D=none->yb0 J tc te (vd js σ) D (R D) H2) {RR:Value->Addr->Result->Shared->Prop} {E:Value->Shared->Prop}
  (hR:∀ (D C:Addr) (H':Hp) (s':Shared) (m:Str->Option Value),yb5 X pins H' C->s'.heap.Ns C m->Inv X pins σ H' s'->R D H'->RR (.ref D) C (.ok .next) s') :
  wpAny (model X.prog X.w) X.A (newList []) (fun acc s₃=>wpAny (model X.prog X.w) X.A (newFunctionEnv scope X.env.globals (x4 ys X.env) [] X.env.qual none .none (some X.env)) (fun cenv s₄ =>
   codeAny (model X.prog X.w) X.A (.compStart (.ListComp elt [⟨.Name x px,iter,[cnd],0⟩] scope pos) 0 (.ref it) acc { cenv with scope:=relabel scope X.env }) (RR acc cenv.locals) s₄) E s₃) E s2:=by
 have hsub:∀ y c,(x4 ys X.env).lookup y=some c->X.env.cells.lookup y=some c:=fun y c e=>by
  obtain ⟨m,rfl⟩:=jb e
  obtain ⟨c',q⟩:=I2.ok.has y (.inl (hyc y m))
  rw [q]
  rfl
 refine wpAny_newObj_type (wpAny_newFunctionEnv hcell (by intro y hy; simp at hy) (fun h₁ hns₁ hsb₁=>?_) hkind)
 dsimp only at hns₁ hsb₁ ⊢
 generalize hH2:s2.heap.push { cls:=.type "list",dict:=none,data:=.seq ([]:List Value).toArray }=G at hns₁ hsb₁ ⊢
 have hC:G.objs.size=s2.heap.objs.size+1:=by rw [<- hH2,Heap.size_push]
 have hDC:s2.heap.objs.size≠G.objs.size:=by rw [hC]; exact Nat.ne_of_lt (Nat.lt_succ_self _)
 have hCle:s2.heap.objs.size <= G.objs.size:=by rw [hC]; exact Nat.le_succ _
 have below:∀ b,b < s2.heap.objs.size->b≠G.objs.size/\b≠s2.heap.objs.size:=fun b hb=>⟨by rw [hC]; exact Nat.ne_of_lt (Nat.lt_succ_of_lt hb),Nat.ne_of_lt hb⟩
 have old:∀ b o,s2.heap.get? b=some o->h₁.get? b=some o:=fun b o e=>hsb₁.extBut b o (below b (Heap.lt_size e)).1 (Heap.get?_push_of_some _ (hH2 ▸ Heap.get?_push_of_some _ e))
 have hacc:h₁.get? s2.heap.objs.size=some { cls:=.type "list",data:=.seq ([]:List Value).toArray }:=hsb₁.extBut _ _ hDC (Heap.get?_push_of_some _ (hH2 ▸ Heap.get?_push_size _ rfl))
 have fpl:∀ b∈fp,b < s2.heap.objs.size:=fun b hb=>let ⟨_,e,_⟩:=T.obj 0 _ st2 b hb; Heap.lt_size e
 have fpS:∀ b∈fp,b∉frs X.stack:=fun b hb z=>(List.mem_cons.mp (I2.stkSub b z)).elim (f2 b hb).2.1 (f2 b hb).2.2.1
 have nC:H2 G.objs.size=none:=I2.hok.fresh hCle
 have nD:H2 s2.heap.objs.size=none:=I2.hok.fresh (Nat.le_refl _)
 have cellOld:∀ y c,(x4 ys X.env).lookup y=some c->∃ v o,s2.heap.get? c=some o/\o.data=.cell v:=fun y c e=>by
  obtain ⟨v,o,q1,q2⟩:=I2.cell y c (hsub y c e)
  exact ⟨v,o,q1,q2⟩
 have okC:(X.compF scope ys G.objs.size x s2 H2 fp).Ok:=by
  refine ⟨I2.ok.mod,hkind,I2.ok.glob,I2.ok.blt,hCle,fun y z c e e'=>I2.ok.inj y z c (hsub y c e) (hsub z c e'),fun y e=>?_,fun y c z e=>(by cases z),I2.ok.hd,I2.ok.frames,.inl rfl,fun b hb=>⟨(below b (fpl b hb)).1,fun y c e=>(f2 b hb).2.2.2.2.1 y c (hsub y c e)⟩,I2.bs,?_,fun b o e hb=>?_,fun b hb=>fpS b hb,I2.stack,I2.stkFree⟩
  ·have e':(relabel scope X.env).names.lookup y=some .cell\/(relabel scope X.env).names.lookup y=some .free:=e
   have hin:y∈ys:=by
    rcases e' with e' | e'
    ·obtain ⟨k0,m,q⟩:=vm e'
     rcases q with q | q
     ·exact absurd q.symm (hcell _ m)
     ·exact hfr _ m q
    ·obtain ⟨k0,m,q⟩:=vm e'
     rcases q with q | q
     ·exact hfr _ m q.symm
     ·exact hfr _ m q
   exact ⟨_,xv hin⟩
  ·exact Nat.le_trans I2.ok.bsz I2.sz
  ·rcases (f2 b hb).2.2.2.1 with z | z
   ·exact I2.ok.noex b o e z
   ·exact absurd (Nat.lt_of_lt_of_le (Heap.lt_size (I2.ok.bs b o e).1) z) (Nat.lt_irrefl _)
 have hlen:(vd js σ).length=ys.length:=by
  have:=congrArg List.length hjs
  simpa [vd] using this
 have I3:∀ tk,Inv (X.compF scope ys G.objs.size x s2 H2 fp) [] (none :: vd js σ) (upd H2 s2.heap.objs.size (.lst [])) { s2 with heap:=h₁,toks:=tk }:=fun tk =>
  ⟨okC,rfl,I2.bare,Un.laid old (Nat.le_refl _) nD,⟨_,hns₁,fun i y v e1 e2 e3=>by
    cases i with
    | zero=>cases e2
    | succ i =>
     have e1:ys[i]?=some y:=by simpa using e1
     have e2:(vd js σ)[i]?=some (some v):=by simpa using e2
     have hy:y∈ys:=List.mem_of_getElem? e1
     have ej:=congrArg (fun l=>l[i]?) hjs
     simp only [List.getElem?_map,e1,Option.map_some] at ej
     cases q:js[i]? with
     | none=>rw [q] at ej; cases ej
     | some j =>
      rw [q] at ej
      have ej:X.N[j]?=some y:=by simpa using ej
      have es:σ[j]?=some (some v):=by
       simp only [vd,List.getElem?_map,q,Option.map_some,Option.some.injEq] at e2
       cases r:σ[j]? with
       | none=>rw [r] at e2; cases e2
       | some w'=>rw [r] at e2; rw [show w'=some v from e2]
      obtain ⟨m0,_,hl0⟩:=I2.loc
      obtain ⟨u,ru,lk⟩:=hl0 j y v ej es (.inr (.inl (hyc y hy)))
      refine ⟨u,ru,.inr ⟨.inl (hrel y hy),?_⟩⟩
      rcases lk with ⟨k1,_⟩ | ⟨_,c,ec,o,ho,hd⟩
      ·rw [hyc y hy] at k1; cases k1
      ·refine ⟨c,?_,o,old c o ho,hd⟩
       show (x4 ys X.env).lookup y=some c
       rw [xv hy,ec]
       rfl⟩,fun y c e=>(by
    obtain ⟨v,o,q1,q2⟩:=cellOld y c e
    exact ⟨v,o,old c o q1,q2⟩),(by show upd H2 s2.heap.objs.size _ G.objs.size=none; rw [yi hDC.symm]; exact nC),fun y c e=>(by
    obtain ⟨v,o,q1,q2⟩:=cellOld y c e
    show upd H2 s2.heap.objs.size _ c=none
    rw [yi (below c (Heap.lt_size q1)).2]
    exact I2.freeC y c (hsub y c e)),fun p hp=>(by simp at hp),
   I2.hok.laid old (Nat.le_refl _) ⟨Nat.zero_le _,[],_,.nil,hacc⟩,by show (none :: vd js σ).length=(x :: ys).length; simp [hlen]⟩
 have stat:∀ {H':Hp},(∀ b∈fp,H' b=none)->∀ b∈fp,yb5 (X.compF scope ys G.objs.size x s2 H2 fp) [] H' b:=fun hn b hb=>⟨hn b hb,(below b (fpl b hb)).1,fpS b hb,.inl hb,fun y c e=>(f2 b hb).2.2.2.2.1 y c (hsub y c e),fun p hp=>(by simp at hp)⟩
 have loop:∀ tk,codeAny (model X.prog X.w) X.A (.compLoop (.ListComp elt [⟨.Name x px,iter,[cnd],0⟩] scope pos) 0 (.ref it) (.ref s2.heap.objs.size) (compEnvC scope (x4 ys X.env) G.objs.size X.env)) (RR (.ref s2.heap.objs.size) G.objs.size) { s2 with heap:=h₁,toks:=tk }:=by
  intro tk
  obtain ⟨W,⟨m0,w0⟩,turn⟩:=h s2.heap.objs.size nD
  refine codeAny_loop rfl (fun n s'=>∃ i v H',Inv (X.compF scope ys G.objs.size x s2 H2 fp) [] (v :: vd js σ) H' s'/\tn i s'.heap/\(∀ b∈fp,H' b=none)/\W i n H') (fun n s' hI=>?_) m0
   ⟨0,none,_,I3 tk,T.keep 0 _ _ st2 (fun b hb o e=>old b o e),fun b hb=>(by rw [yi (below b (fpl b hb)).2]; exact (f2 b hb).1),w0⟩
  obtain ⟨i,v,H',I,st,fr,w⟩:=hI
  show wpAny _ _ ((compTurn (.ListComp elt [⟨.Name x px,iter,[cnd],0⟩] scope pos) 0 (.ref it) (.ref s2.heap.objs.size) (compEnvC scope (x4 ys X.env) G.objs.size X.env)).onRaise (fun x=>do noteFrame x (compEnvC scope (x4 ys X.env) G.objs.size X.env); theTreesLotGoes x)) _ _ s'
  refine wpAny_noted ?_
  rw [compTurn_list]
  refine wpAny_bind (wpAny_standAt (wpAny_bind ?_))
  rcases turn i n H' w with ⟨stop,q⟩ | ⟨go,step⟩
  ·refine thn (T.done (X.compF scope ys G.objs.size x s2 H2 fp) rfl rfl rfl hc i [] s' (v :: vd js σ) H' _ I (stat fr) st stop) fun r s4 ⟨hr,I4⟩=>?_
   subst hr
   refine wpAny_pure ?_
   obtain ⟨m,hn,_⟩:=I4.loc
   exact hR _ _ H' s4 m (I2.fpOk hCle I4.free) hn (I2.call' (ch:=fp) I4.os I4.base I4.hok I4.bare fun b hb=>⟨(f2 b hb).2.2.2.1,(f2 b hb).2.1,(f2 b hb).2.2.2.2.1,(f2 b hb).2.2.2.2.2⟩) q
  ·refine thn (T.item (X.compF scope ys G.objs.size x s2 H2 fp) rfl rfl rfl hc i [] s' (v :: vd js σ) H' _ I (stat fr) st go) fun r s4 ⟨u,hr,h4⟩=>?_
   subst hr
   refine wpAny_bind (thn h4 fun _ s5 ⟨y,H5,I5,r5,y5,st5,fr5⟩=>wpAny_bind ?_)
   have I5':=I5.pinned (stat fr5) (T.obj _ _ st5)
   refine wpAny_assign_Name (zg (i:=0) I5' hnd rfl (Or.inl (lookup_relabel_local hx)) r5 (fun s6 I6=>?_) (Or.inr (lookup_relabel_local hx)))
   refine wpAny_bind (wpAny_tests_one (yij (ht _ _ _ _ _ s6 (some y :: vd js σ) H5 _ I6 (step y H5 y5)) fun b s7 ⟨H6,I7,q7⟩=>?_))
   cases b with
   | false =>
    obtain ⟨m',hm,w'⟩:=q7
    have pin:∀ b∈fp,∀ o,s5.heap.get? b=some o->s7.heap.get? b=some o/\H6 b=none:=fun b hb o e =>
     ⟨(I7.pin (b,o) (List.mem_append_right _ (List.mem_append_right _ (vh hb e)))).1,(I7.pin (b,o) (List.mem_append_right _ (List.mem_append_right _ (vh hb e)))).2.1⟩
    refine wpAny_pure ⟨rfl,m',hm,i+1,some y,_,I7.unpinned,T.keep _ _ _ st5 fun b hb o e=>(pin b hb o e).1,fun b hb=>?_,w'⟩
    obtain ⟨o,e,d⟩:=T.obj _ _ st5 b hb
    exact (pin b hb o e).2
   | true =>
    refine wpAny_bind (wpAny_bind (yij (he _ _ _ _ _ s7 (some y :: vd js σ) H6 _ I7 q7) fun u2 s7 ⟨y2,H7,I7,r7,zs,hD,hl,m',hm,w'⟩=>wpAny_bind ?_))
    refine yij (ww _ s7 (some y :: vd js σ) H7 (.ref s2.heap.objs.size) [y2] (.ref s2.heap.objs.size) [u2] (fun _ H8=>H8=upd H7 s2.heap.objs.size (.lst (zs++[y2]))) I7 rfl (.cons r7 .nil) ⟨_,zs,y2,rfl,rfl,hD,hl,rfl⟩) fun _ s8 ⟨_,H8,I8,_,e8⟩=>?_
    subst e8
    have pin:∀ b∈fp,∀ o,s5.heap.get? b=some o->s8.heap.get? b=some o/\upd H7 s2.heap.objs.size (HO.lst (zs++[y2])) b=none:=fun b hb o e =>
     ⟨(I8.pin (b,o) (List.mem_append_right _ (List.mem_append_right _ (vh hb e)))).1,(I8.pin (b,o) (List.mem_append_right _ (List.mem_append_right _ (vh hb e)))).2.1⟩
    refine wpAny_pure (wpAny_pure ⟨rfl,m',hm,i+1,some y,_,I8.unpinned,T.keep _ _ _ st5 fun b hb o e=>(pin b hb o e).1,fun b hb=>?_,w'⟩)
    obtain ⟨o,e,d⟩:=T.obj _ _ st5 b hb
    exact (pin b hb o e).2
 exact codeAny_compStart_list (loop _) (T.self X.A 0 _ _ _ (T.keep 0 _ _ st2 (fun b hb o e=>old b o e)) (loop _))
theorem yip {i:Nat} {y:Str} {py spos:Pos} (hN:X.N.Nodup) (hy:X.N[i]?=some y) (hl:X.env.scope.names.lookup y=some .local) (hc:X.calm=true) (hi:PI X (.Name x px) iter wi)
  (ht:∀ (C:Addr) (s2:Shared) (H2:Hp) (fp:List Addr),PT (X.compF scope ys C x s2 H2 fp) cnd tc) (he:∀ (C:Addr) (s2:Shared) (H2:Hp) (fp:List Addr),PE (X.compF scope ys C x s2 H2 fp) elt te) (hjs:js.map (fun j=>X.N[j]?)=ys.map some)
  (hclos:closureFor scope X.env=pure (x4 ys X.env)) (hyc:∀ y∈ys,X.env.kindOf y=some .cell) (hrel:∀ y∈ys,(relabel scope X.env).names.lookup y=some .cell)
  (hsw:swapsWith (.ListComp elt [⟨.Name x px,iter,[cnd],0⟩] scope pos) (some (.Name y py)) spos.line X.env=pure true:=by rfl) (hnd:(x :: ys).Nodup:=by decide)
  (hfr:∀ y∈scope.names,y.2=.free->y.1∈ys:=by decide +kernel) (hcell:∀ y∈scope.names,y.2≠.cell:=by decide +kernel) (hkind:scope.kind=.function:=by rfl)
  (hnames:∀ y∈scope.names,y.2=.local->scope.names.lookup y.1=some .local:=by decide +kernel) (hx:scope.names.lookup x=some .local:=by rfl) (hs:∀ x,foldedSetIterable iter X.env x=pure x:=by intro _; rfl) :
  PS X (.Assign [.Name y py] (.ListComp elt [⟨.Name x px,iter,[cnd],0⟩] scope pos) spos) (ysh (ykq wi tc te js) (wf i)):=by
 intro pins s σ H D0 I h
 rw [exec_Assign_Name_used _ _ _ _ hsw]
 refine wpAny_bind (wpAny_standAt (wpAny_bind ?_))
 show wpAny _ X.A (do let _ <- comprehension (.ListComp elt [⟨.Name x px,iter,[cnd],0⟩] scope pos) scope X.env _ (newList []) false (eval iter X.env) (some (assign (.Name y py) X.env))) _ _ s
 refine wpAny_bind (wpAny_mono (wpAny_comprehension_free (use:=some (assign (.Name y py) X.env)) (Q:=fun _ s'=>SP X pins D0 .next s') rfl hs hclos hkind hnames (thn (hi pins s σ H _ I h) fun v s1 h1=>thn h1 fun itv s2 h2=>?_)) (fun _ s' hq=>wpAny_pure (wpAny_pure hq)) fun _ _ e=>e)
 obtain ⟨it,fp,tn,J,H2,e,I2,T,st2,f2,h⟩:=h2
 subst e
 refine yfw (R:=fun D H'=>wf i (.ref D) σ H' D0.nx) (RR:=compPost (model X.prog X.w) X.A X.xe (some (assign (.Name y py) X.env)) (fun _ s'=>SP X pins D0 .next s')) hc ht he hcell hkind hx hnd hfr hyc hrel hjs I2 T st2 f2 h ?_
 intro D C H' s' m f hn I' q
 refine wpAny_assign_Name (za (v:=V.ref D) I' hN hy (Or.inl hl) rfl (fun s'' I'' k''=>?_) (Or.inr hl))
 refine ⟨m,?_,fun h' sb=>⟨_,H',?_,q⟩⟩
 ·obtain ⟨b,sb,hb⟩:=k''
  refine hn.sameBut sb fun z=>?_
  rcases hb with hb | hb
  ·exact f.2.1 (z.trans hb)
  ·exact f.2.2.2.2.1 y b hb z.symm
 ·exact I''.turned (t':=s''.toks) (fun b o hb e=>sb.extBut b o hb e) f.1 f.2.1 f.2.2.2.1 f.2.2.2.2.1 f.2.2.2.2.2
theorem yli {H:Hp} {Q:VK} (h:wi σ H fun J H1=>∀ D,H1 D=none->yb0 J tc te (vd js σ) D (fun H2=>Q (.ref D) H2) H1):ykq wi tc te js σ H Q:=h
theorem ydo {lo:Int} {n:Nat} {D:Addr} {tc:TT} {te:TE} {fr:St} {R:Hp->Prop} {H1:Hp} (Pv:Nat->Hp->Prop) (h0:Pv 0 (upd H1 D (.lst [])))
  (hs:∀ i H,i < n->Pv i H->tc (some (.int (lo+i)) :: fr) H fun b H4=>if b=true then te (some (.int (lo+i)) :: fr) H4 (fun y H5=>∃ ys,H5 D=some (.lst ys)/\ys.length < sizeLine/\∃ m',m' < n - i/\cW n Pv (i+1) m' (upd H5 D (.lst (ys++[y])))) else ∃ m',m' < n - i/\cW n Pv (i+1) m' H4)
  (hd:∀ H,Pv n H->R H):yb0 (Itr lo n) tc te fr D R H1:=by
 refine ⟨cW n Pv,⟨n,by simp,Nat.zero_le _,h0⟩,?_⟩
 rintro i m H ⟨rfl,hi,p⟩
 by_cases hlt:i < n
 ·refine .inr ⟨hlt,fun x H' y=>?_⟩
  obtain ⟨e,y⟩:=y
  subst e y
  exact hs i _ hlt p
 ·have e:i=n:=by omega
  subst e
  exact .inl ⟨Nat.le_refl _,hd H p⟩
theorem ygw {n i:Nat} {Pv:Nat->Hp->Prop} {H4:Hp} (hi:i < n) (p:Pv (i+1) H4):∃ m',m' < n - i/\cW n Pv (i+1) m' H4:=⟨n - (i+1),by omega,rfl,hi,p⟩
end
end L2
namespace L2
open PySem PySem.Spec PyProof.Rows
structure yvg (K:W.Frag) (x qual:Str) (st:Stmt) (D:Addr) (f:Addr) (fd:FuncData):Prop where
 ex:∃ (oc:Value) (od:Option Addr) (kV doc pm:Value) (an:Option Addr) (cdv ct:Value) (osl:Array (Option Value)),
  fd=W.fnOf x qual (wy st) (wr st) (yg st) (.ref D) kV doc pm an cdv ct/\K.lookup f=some ⟨oc,od,.func fd,osl⟩/\W.codeIn K cdv qual=true
 kp:W.keepIn K (.ref f)=true
section
variable {P:Program} {w:World} {K:W.Frag} {mg:Str->Option Value} {base:Heap}
end
end L2
namespace L2
open PySem PySem.Spec PyProof.Rows
end L2
namespace L2
open PySem PySem.Spec PyProof.Rows
end L2
namespace L2
open PySem PySem.Spec PyProof.Rows
section
variable {X:Cx} {body suite:List Stmt} {b₀:Stmt} {tx n:Str} {np hpos pos:Pos} {D:Addr} {i:Nat} {tb:(St->XK)->TS} {ts:TS}
abbrev THs:=yb6->St->Addr->Addr->Hp->Prop
end
section
variable {σ:St} {H:Hp} {nx:St->Hp->Prop} {rt:VK} {bk ct:St->Hp->Prop} {ts:TS}
end
end L2
namespace L2
open PySem PySem.Spec PyProof.Rows
section
variable {X:Cx} {pins:List (Addr × Obj)} {σ:St} {H:Hp} {s:Shared} {x T:Addr} {C:Value} {M:Model} {A:Around} {E:Value->Shared->Prop}
end
section
variable {X:Cx} {iter elt:Expr} {x:Str} {px pos:Pos} {scope:Scope} {te:TE} {wi:TI} {pins:List (Addr × Obj)} {σ:St}
end
section
variable {σ:St} {H:Hp} {Q:VK} {wi:TI} {te:(St->XK)->TE} {Ex:XK}
end
end L2
namespace L2
open PySem PySem.Spec PyProof.Rows
section
variable {M:Model} {h:Heap} {K:W.Frag}
end
section
variable {X:Cx} {suite:List Stmt} {b₀:Stmt} {tx n:Str} {np hpos pos:Pos} {D:Addr} {i:Nat} {ts:TS}
end
section
variable {σ:St} {H:Hp} {ts:TS} {K:W.Frag} {Ca D:Addr} {tr:THs} {En:yb6} {i:Nat} {cs:List Addr}
end
end L2
namespace L2
open PySem PySem.Spec PyProof.Rows
structure Dg (K:W.Frag) (x q:Str) (st:Stmt) (f:Addr) (fd:FuncData) (M:Prop):Prop where
 F:Fun K x q st f fd
 m:M
structure Df (K:W.Frag) (x q:Str) (st:Stmt) (ps:List Str) (f:Addr) (fd:FuncData) (M:Prop):Prop where
 F:Fun K x q st f fd
 B:uk K fd ps []
 m:M
abbrev Dgf (K:W.Frag) (mg:Str->Option Value) (x:Str) (st:Stmt) (f:Addr) (fd:FuncData):Prop:=Dg K x x st f fd (mg x=some (.ref f))
abbrev Dgm (K:W.Frag) (C:Addr) (x q:Str) (st:Stmt) (f:Addr) (fd:FuncData):Prop:=Dg K x q st f fd (yov K C x f)
abbrev Dff (K:W.Frag) (mg:Str->Option Value) (x:Str) (st:Stmt) (ps:List Str) (f:Addr) (fd:FuncData):Prop:=Df K x x st ps f fd (mg x=some (.ref f))
abbrev Dfm (K:W.Frag) (C:Addr) (x q:Str) (st:Stmt) (ps:List Str) (f:Addr) (fd:FuncData):Prop:=Df K x q st ps f fd (yov K C x f)
section
variable {K:W.Frag} {mg:Str->Option Value} {h:Heap} {x q:Str} {st:Stmt} {f C:Addr} {fd:FuncData} {M:Prop} {oc kV doc pm cdv ct:Value} {od an:Option Addr} {osl:Array (Option Value)}
theorem dgf_mk (X:K.In h) (G:h.Ns mainGlobals mg) (a:W.nsIn K mainGlobals x=some (some (.ref f))) (l:K.lookup f=some ⟨oc,od,.func (W.fnOf x x (wy st) (wr st) (yg st) .none kV doc pm an cdv ct),osl⟩)
  (c:W.codeIn K cdv x=true) (k:W.keepIn K (.ref f)=true):Dgf K mg x st f (W.fnOf x x (wy st) (wr st) (yg st) .none kV doc pm an cdv ct):=⟨yj4 l c k,W.mg_of X G a⟩
theorem dgm_mk (a:W.findIn K (.ref C) x=some (some (.ref f))) (i:W.isFn K (.ref f)=true) (l:K.lookup f=some ⟨oc,od,.func (W.fnOf x q (wy st) (wr st) (yg st) .none kV doc pm an cdv ct),osl⟩)
  (c:W.codeIn K cdv q=true) (k:W.keepIn K (.ref f)=true):Dgm K C x q st f (W.fnOf x q (wy st) (wr st) (yg st) .none kV doc pm an cdv ct):=⟨yj4 l c k,a,i,k⟩
theorem Dg.d1 {p0:Str} (D:Dg K x q st f fd M) (h:∀ (kV doc pm:Value) (an:Option Addr) (cdv ct:Value) (u0:Value),bindArgs (W.fnOf x q (wy st) (wr st) (yg st) .none kV doc pm an cdv ct) ⟨[u0],[]⟩=pure [(p0,u0)]):Df K x q st [p0] f fd M :=
 ⟨D.F,D.F.binds fun kV doc pm an cdv ct us hl=>match us,hl with | [u0],_=>h kV doc pm an cdv ct u0,D.m⟩
theorem Dg.d2 {p0 p1:Str} (D:Dg K x q st f fd M) (h:∀ (kV doc pm:Value) (an:Option Addr) (cdv ct:Value) (u0 u1:Value),bindArgs (W.fnOf x q (wy st) (wr st) (yg st) .none kV doc pm an cdv ct) ⟨[u0,u1],[]⟩=pure [(p0,u0),(p1,u1)]):Df K x q st [p0,p1] f fd M :=
 ⟨D.F,D.F.binds fun kV doc pm an cdv ct us hl=>match us,hl with | [u0,u1],_=>h kV doc pm an cdv ct u0 u1,D.m⟩
theorem Dg.d3 {p0 p1 p2:Str} (D:Dg K x q st f fd M) (h:∀ (kV doc pm:Value) (an:Option Addr) (cdv ct:Value) (u0 u1 u2:Value),bindArgs (W.fnOf x q (wy st) (wr st) (yg st) .none kV doc pm an cdv ct) ⟨[u0,u1,u2],[]⟩=pure [(p0,u0),(p1,u1),(p2,u2)]):Df K x q st [p0,p1,p2] f fd M :=
 ⟨D.F,D.F.binds fun kV doc pm an cdv ct us hl=>match us,hl with | [u0,u1,u2],_=>h kV doc pm an cdv ct u0 u1 u2,D.m⟩
end
end L2
namespace L2
open PySem PySem.Spec PyProof.Rows
section
variable {prog:Program} {w:World} {A:Around} {E:Value->Shared->Prop} {s:Shared} {d:Addr} {od:Obj} {es:Array DictEntry} {ep:Nat}
theorem yff {Q:Value->Shared->Prop} (hne:(d == sysModules)=false) (h0:s.heap.get? d=some od) (hx:od.ExactDict)
  (k:Q (.ref s.heap.objs.size) { s with heap:=s.heap.push { cls:=.type "dict_items",data:=.fields #[.ref d] } }):wpAny (model prog w) A (call (.builtin "dict.items") [.ref d]) Q E s:=by
 have hT:s.TypeIs (.ref d) "dict":=⟨od,h0,hx.1⟩
 refine wpAny_call_entry F.slot_dict_items hT F.entry_dict_items ?_ (F.args_dict_items_1 _)
 unfold Builtin.«dict.items» Builtin.Dict.noArgs
 refine wpAny_bind (wpAny_bind (wpAny_notOrdered_dict hT ?_)); show wpAny _ _ (pure d) _ _ s
 refine wpAny_pure ?_; show wpAny _ _ (Builtin.Dict.showsAll d >>= _) _ _ s
 unfold Builtin.Dict.showsAll; rw [if_neg (by rw [hne]; decide)]
 exact wpAny_bind (wpAny_pure (wpAny_bind (wpAny_newObj_type (wpAny_pure ⟨_,rfl,k⟩))))
theorem yf3 {v:Addr} {Q:Value->Shared->Prop} (hv:s.heap.IsItemsView v d) (h0:s.heap.get? d=some od) (hd:od.data=.dict es ep)
  (k:Q (.ref s.heap.objs.size) { s with heap:=s.heap.push { cls:=.type "dict_itemiterator",data:=.fields #[.none,.bool false,.ref d,.int 0 0,.int es.size 0,.int ep 0,.none,.none] } }):wpAny (model prog w) A (pyIter (.ref v)) Q E s:=by
 obtain ⟨ov,e1,e2,e3⟩:=id hv
 refine wpAny_pyIter_slot hv.typeIs F.slot_dict_items_iter (wpAny_call_entry F.slot_dict_items_iter hv.typeIs F.entry_dict_items_iter ?_ (F.args_dict_items_iter_1 _))
 unfold Builtin.«dict_items.__iter__» Builtin.Dict_items.dictOf Builtin.Dict_items.newIterator
 refine wpAny_bind (wpAny_pure (wpAny_bind (wpAny_bind (wpAny_field e1 e3 (x:=.ref d) rfl (wpAny_pure (wpAny_bind (wpAny_bind (wpAny_dictEntries h0 hd (wpAny_bind (wpAny_dictEpoch h0 hd ?_)))))))))); simp only [show Builtin.Dict_items.ownsTuple "dict_itemiterator"=true by decide,if_true]
 refine wpAny_newObj_type (wpAny_pure ⟨_,rfl,"dict_itemiterator",_,⟨_,Heap.get?_push_size _ rfl,rfl⟩,F.slot_dict_itemiterator_next.lookup,?_⟩) (by simp only [sizeOk,Builtin.Dict_items.ownedTupleFields,List.size_toArray,List.length_append,List.length_cons,List.length_nil,sizeLine_eq]; omega)
 simpa [rawInt,Builtin.Dict_items.ownedTupleFields] using k
theorem yfm {it:Addr} {i:Nat} {ok ov:Value} {Q:Option Value->Shared->Prop} (hi:IsItemIter s.heap it d i es.size ep ok ov) (h0:s.heap.get? d=some od) (hd:od.data=.dict es ep) (hlt:i < es.size)
  (k:∀ h',IsItemIterOut h' it d (i+1) es.size ep es[i].key es[i].val s.heap.objs.size->h'.get? s.heap.objs.size=some { cls:=.type "tuple",data:=.seq #[es[i].key,es[i].val] }->(∀ b o,b≠it->s.heap.get? b=some o->h'.get? b=some o)->Q (some (.ref s.heap.objs.size)) { s with heap:=h' }) :
  wpAny (model prog w) A (pyNext (.ref it)) Q E s:=by
 obtain ⟨hp,g,dr,tk,os⟩:=s
 have tI:Shared.TypeIs ⟨hp,g,dr,tk,os⟩ (.ref it) "dict_itemiterator":=⟨_,hi,rfl⟩
 have lI:it < hp.objs.size:=Heap.lt_size hi
 have lN:hp.objs.size≠it:=Nat.ne_of_gt lI
 unfold pyNext
 refine wpAny_bind (wpAny_attempt (wpAny_callSpecial?_slot (name:=Str.ofString "__next__") tI F.slot_dict_itemiterator_next (wpAny_call_entry F.slot_dict_itemiterator_next tI F.entry_dict_itemiterator_next ?_ (F.args_dict_itemiterator_next_1 _))))
 refine wpAny_bind (wpAny_pure (wpAny_bind (wpAny_bind ?_)))
 first | refine wpAny_bind (wpAny_typeNameOfWhole_itemiter tI (wpAny_pure ?_)) | refine wpAny_bind (wpAny_typeNameOf_itemiter tI (wpAny_pure ?_))
 refine wpAny_bind (wpAny_fieldsOf hi rfl ?_); simp only [show Builtin.Dict_items.ownsTuple "dict_itemiterator"=true by decide,if_true]
 show wpAny _ _ (if (Value.ref d == Value.none)=true then _ else _) _ _ _; rw [if_neg (show ¬ (Value.ref d == Value.none)=true from Bool.false_ne_true)]
 refine wpAny_bind (wpAny_pure (wpAny_bind (wpAny_dictEntries h0 hd ?_))); rw [if_neg (by simp)]
 refine wpAny_bind (wpAny_pure (wpAny_bind (wpAny_dictEpoch h0 hd ?_))); rw [if_neg (by simp)]
 refine wpAny_pure ?_
 simp only [show ¬ ((i:Int) < 0) by omega,if_false,Int.toNat_natCast,Array.getElem?_eq_getElem hlt]
 refine wpAny_bind ?_
 first | refine wpAny_bind (wpAny_typeNameOfWhole_itemiter tI (wpAny_pure ?_)) | refine wpAny_bind (wpAny_typeNameOf_itemiter tI (wpAny_pure ?_))
 refine wpAny_bind (wpAny_isOneOf_itemiter tI ?_)
 show wpAny _ _ (setField (.ref it) 3 (rawInt ((i:Int)+1)) >>= _) _ _ ⟨hp,g,dr,tk,os⟩
 refine wpAny_bind (wpAny_setField_rec hi (by simp) fun g1 r1 c1=>?_)
 replace c1:Heap.SameBut it hp g1:=c1
 replace r1:IsItemIter g1 it d (i+1) es.size ep ok ov:=by unfold IsItemIter; rw [show ((i+1:Nat):Int)=(i:Int)+1 by omega]; simpa [rawInt] using r1
 have tJ:Shared.TypeIs ⟨g1,g,dr,tk,os⟩ (.ref it) "dict_itemiterator":=⟨_,r1,rfl⟩
 refine wpAny_bind (wpAny_holding (wpAny_bind (wpAny_isOneOf_itemiter tJ (wpAny_bind (wpAny_isOneOf_itemiter tJ ?_)))))
 show wpAny _ _ (Builtin.Dict_items.pairFromOwner (.ref it) 6 es[i].key es[i].val) _ _ ⟨g1,g,dr,tk,os⟩
 unfold Builtin.Dict_items.pairFromOwner
 refine wpAny_bind (wpAny_newTuple ?_)
 have r2:IsItemIter (g1.push { cls:=.type "tuple",data:=.seq #[es[i].key,es[i].val] }) it d (i+1) es.size ep ok ov:=Heap.get?_push_of_some _ r1
 generalize eg:g1.push { cls:=.type "tuple",data:=.seq #[es[i].key,es[i].val] }=g2 at r2
 have z1:g1.objs.size=hp.objs.size:=c1.1
 have t2:g2.get? hp.objs.size=some { cls:=.type "tuple",data:=.seq #[es[i].key,es[i].val] }:=by rw [<- eg,<- z1]; exact Heap.get?_push_size _ rfl
 have k2:∀ b o,b≠it->hp.get? b=some o->g2.get? b=some o:=fun b o hb e=>by rw [<- eg]; exact Heap.get?_push_of_some _ (c1.extBut b o hb e)
 show wpAny _ _ (Builtin.Dict_items.ownedTupleIsFree (.ref it) >>= _) _ _ ⟨g2,g,dr,tk,os⟩; rw [z1]
 clear eg r1 c1 tJ z1 g1
 unfold Builtin.Dict_items.ownedTupleIsFree
 refine wpAny_bind (wpAny_bind (wpAny_field r2 rfl (x:=.none) rfl (wpAny_pure ?_))); simp only [if_true]
 refine wpAny_bind (wpAny_field r2 rfl (x:=ok) rfl (wpAny_bind (wpAny_field r2 rfl (x:=ov) rfl ?_)))
 refine wpAny_bind (wpAny_setField_rec r2 (by simp) fun g3 r3 c3=>?_)
 replace c3:Heap.SameBut it g2 g3:=c3
 replace r3:IsItemIter g3 it d (i+1) es.size ep es[i].key ov:=r3
 refine wpAny_bind (wpAny_setField_rec r3 (by simp) fun g4 r4 c4=>?_)
 replace c4:Heap.SameBut it g3 g4:=c4
 replace r4:IsItemIter g4 it d (i+1) es.size ep es[i].key es[i].val:=r4
 refine wpAny_bind (wpAny_setField_rec r4 (by simp) fun g5 r5 c5=>?_)
 replace c5:Heap.SameBut it g4 g5:=c5
 replace r5:IsItemIterOut g5 it d (i+1) es.size ep es[i].key es[i].val hp.objs.size:=r5
 refine wpAny_bind (wpAny_setField_rec r5 (by simp) fun g6 r6 c6=>?_)
 replace c6:Heap.SameBut it g5 g6:=c6
 replace r6:IsItemIterOut g6 it d (i+1) es.size ep es[i].key es[i].val hp.objs.size:=r6
 have up:∀ b o,b≠it->g2.get? b=some o->g6.get? b=some o:=fun b o n e=>c6.extBut b o n (c5.extBut b o n (c4.extBut b o n (c3.extBut b o n e)))
 exact wpAny_bind (wpAny_letGo (wpAny_pure (wpAny_pure ⟨_,rfl,wpAny_pure (k g6 r6 (up _ _ lN t2) fun b o n e=>up b o n (k2 b o n e))⟩)))
theorem yhh {it:Addr} {i:Nat} {ok ov:Value} {Q:Option Value->Shared->Prop} (hh:A.handled=none) (hi:IsItemIter s.heap it d i es.size ep ok ov) (h0:s.heap.get? d=some od) (hd:od.data=.dict es ep) (hge:es.size <= i)
  (k:∀ h',Heap.ExtBut it s.heap h'->Q none { s with heap:=h' }):wpAny (model prog w) A (pyNext (.ref it)) Q E s:=by
 have tI:s.TypeIs (.ref it) "dict_itemiterator":=⟨_,hi,rfl⟩
 unfold pyNext
 refine wpAny_bind (wpAny_attempt (wpAny_callSpecial?_slot (name:=Str.ofString "__next__") tI F.slot_dict_itemiterator_next (wpAny_call_entry F.slot_dict_itemiterator_next tI F.entry_dict_itemiterator_next ?_ (F.args_dict_itemiterator_next_1 _))))
 refine wpAny_bind (wpAny_pure (wpAny_bind (wpAny_bind ?_)))
 first | refine wpAny_bind (wpAny_typeNameOfWhole_itemiter tI (wpAny_pure ?_)) | refine wpAny_bind (wpAny_typeNameOf_itemiter tI (wpAny_pure ?_))
 refine wpAny_bind (wpAny_fieldsOf hi rfl ?_); simp only [show Builtin.Dict_items.ownsTuple "dict_itemiterator"=true by decide,if_true]
 show wpAny _ _ (if (Value.ref d == Value.none)=true then _ else _) _ _ s; rw [if_neg (show ¬ (Value.ref d == Value.none)=true from Bool.false_ne_true)]
 refine wpAny_bind (wpAny_pure (wpAny_bind (wpAny_dictEntries h0 hd ?_))); rw [if_neg (by simp)]
 refine wpAny_bind (wpAny_pure (wpAny_bind (wpAny_dictEpoch h0 hd ?_))); rw [if_neg (by simp)]
 refine wpAny_pure ?_
 simp only [show ¬ ((i:Int) < 0) by omega,if_false,Int.toNat_natCast,Array.getElem?_eq_none hge]
 refine wpAny_bind ?_
 first | refine wpAny_bind (wpAny_typeNameOfWhole_itemiter tI (wpAny_pure ?_)) | refine wpAny_bind (wpAny_typeNameOf_itemiter tI (wpAny_pure ?_))
 show wpAny _ _ (setField (.ref it) 2 .none >>= _) _ _ s; refine wpAny_bind (wpAny_setField hi rfl (by simp) ?_)
 show wpAny _ _ (newExc (.type "StopIteration") [] >>= _) _ _ _; refine wpAny_bind ?_
 simp only [newExc,newTuple]; refine wpAny_bind (wpAny_newObj_type ?_ (by size_fits))
 refine wpAny_bind (m:=firstArgMember _ _) (wpAny_of_eq (a:=Value.none) (by first | rfl | (simp only [firstArgMember]; rfl)) (wpAny_newObj_type ?_ (by size_fits)))
 simp only [raiseNew]; refine wpAny_bind (wpAny_handled ?_)
 rw [show A.in1.handled=none from hh]; refine wpAny_bind (wpAny_pure (wpAny_throw ?_))
 exact wpAny_bind (wpAny_isInstance (T:="StopIteration") (b:=true) ⟨_,Heap.get?_push_size _ rfl,rfl⟩ isSubtype_stop (wpAny_pure (k _ (((Heap.SameBut.update ..).extBut.push _).push _))))
theorem yf5 {it:Addr} {i n:Nat} {ok ov:Value} {Q:Value->Shared->Prop} (hi:IsItemIter s.heap it d i n ep ok ov) (k:Q (.ref it) s):wpAny (model prog w) A (pyIter (.ref it)) Q E s:=by
 have tI:s.TypeIs (.ref it) "dict_itemiterator":=⟨_,hi,rfl⟩
 refine wpAny_pyIter_slot tI F.slot_dict_itemiterator_iter (wpAny_call_entry F.slot_dict_itemiterator_iter tI (show entryFor table "dict_itemiterator.__iter__"=some Builtin.«dict_keyiterator.__iter__» from entryFor_alias (id':="dict_keyiterator.__iter__") (by kernel_rfl) rfl (by decide +kernel) (by kernel_rfl)) ?_ (F.args_dict_itemiterator_iter_1 _)); show wpAny _ _ (ret (.ref it)) _ _ s
 exact wpAny_pure ⟨_,rfl,"dict_itemiterator",_,tI,F.slot_dict_itemiterator_next.lookup,k⟩
end
end L2
namespace L2
open PySem PySem.Spec PyProof.Rows
theorem Inv.freeze {X:Cx} {pins:List (Addr × Obj)} {σ:St} {H:Hp} {s:Shared} {d:Addr} {kvs:List (List Key × V)} {o:Obj} (I:Inv X pins σ H s) (hd:H d=some (.dT kvs)) (ho:s.heap.get? d=some o):Inv X pins σ (upd H d (.frz o (.dT kvs))) s:=by
 have ne:∀ {b},H b=none->b≠d:=fun n z=>by rw [z,hd] at n; cases n
 refine ⟨I.ok,I.os,I.bare,⟨I.base.keep,I.base.slot,fun b ob e n hx=>?_,I.base.there,fun b xs e=>?_,fun b ob u e=>?_,fun b ps e=>?_⟩,I.loc,I.cell,?_,fun x c e=>?_,fun p hp=>?_,fun b u e=>?_,I.len⟩
 ·have z:=I.base.free b ob e n hx; rw [yi (ne z)]; exact z
 ·have z:=I.base.tups b xs e; rw [yi (xu z hd (by intro w; cases w))]; exact z
 ·have z:=I.base.frzs b ob u e; rw [yi (xu z hd (by intro w; cases w))]; exact z
 ·obtain ⟨m,z⟩:=I.base.tbls b ps e; exact ⟨m,by rw [yi (xu z hd (by intro w; cases w))]; exact z⟩
 ·rw [yi (ne I.free)]; exact I.free
 ·rw [yi (ne (I.freeC x c e))]; exact I.freeC x c e
 ·obtain ⟨a1,a2,a3⟩:=I.pin p hp; exact ⟨a1,by rw [yi (ne a2)]; exact a2,a3⟩
 ·have own:∀ {c y},H c=some (.own y)->upd H d (.frz o (.dT kvs)) c=some (.own y):=fun q=>by rw [yi (xu q hd (by intro w; cases w))]; exact q
  have tup:∀ {c y},H c=some (.tup y)->upd H d (.frz o (.dT kvs)) c=some (.tup y):=fun q=>by rw [yi (xu q hd (by intro w; cases w))]; exact q
  by_cases hb:b=d
  ·subst hb; rw [ya] at e; cases e; exact ⟨ho,(I.hok b _ hd).stay (fun _ _ _ q=>q) (fun _ q=>own q) fun _ _ q=>tup q⟩
  ·rw [yi hb] at e; exact (I.hok b u e).stay (fun _ _ _ q=>q) (fun _ q=>own q) fun _ _ q=>tup q
theorem Inv.thaw {X:Cx} {pins:List (Addr × Obj)} {σ:St} {H:Hp} {s:Shared} {d:Addr} {kvs:List (List Key × V)} {o:Obj} (I:Inv X pins σ H s) (h0:∀ o u,X.H₀ d≠some (.frz o u)) (hd:H d=some (.frz o (.dT kvs))):Inv X pins σ (upd H d (.dT kvs)) s:=by
 have ne:∀ {b},H b=none->b≠d:=fun n z=>by rw [z,hd] at n; cases n
 refine ⟨I.ok,I.os,I.bare,⟨I.base.keep,I.base.slot,fun b ob e n hx=>?_,I.base.there,fun b xs e=>?_,fun b ob u e=>?_,fun b ps e=>?_⟩,I.loc,I.cell,?_,fun x c e=>?_,fun p hp=>?_,fun b u e=>?_,I.len⟩
 ·have z:=I.base.free b ob e n hx; rw [yi (ne z)]; exact z
 ·have z:=I.base.tups b xs e; rw [yi (xu z hd (by intro w; cases w))]; exact z
 ·rw [yi (fun z=>h0 ob u (by rw [<- z]; exact e))]; exact I.base.frzs b ob u e
 ·obtain ⟨m,z⟩:=I.base.tbls b ps e; exact ⟨m,by rw [yi (xu z hd (by intro w; cases w))]; exact z⟩
 ·rw [yi (ne I.free)]; exact I.free
 ·rw [yi (ne (I.freeC x c e))]; exact I.freeC x c e
 ·obtain ⟨a1,a2,a3⟩:=I.pin p hp; exact ⟨a1,by rw [yi (ne a2)]; exact a2,a3⟩
 ·have own:∀ {c y},H c=some (.own y)->upd H d (.dT kvs) c=some (.own y):=fun q=>by rw [yi (xu q hd (by intro w; cases w))]; exact q
  have tup:∀ {c y},H c=some (.tup y)->upd H d (.dT kvs) c=some (.tup y):=fun q=>by rw [yi (xu q hd (by intro w; cases w))]; exact q
  by_cases hb:b=d
  ·subst hb; rw [ya] at e; cases e; exact (I.hok b _ hd).2.stay (fun _ _ _ q=>q) (fun _ q=>own q) fun _ _ q=>tup q
  ·rw [yi hb] at e; exact (I.hok b u e).stay (fun _ _ _ q=>q) (fun _ q=>own q) fun _ _ q=>tup q
def Iti (o:Obj) (d:Addr) (kvs:List (List Key × V)):It :=
 ⟨fun i H=>H d=some (.frz o (.dT kvs))/\i < kvs.length,
  fun i H x H'=>∃ t kt key v,x=.ref t/\H t=none/\H'=upd H t (.tup [.ref kt,v])/\kvs[i]?=some (key,v)/\H kt=some (.tup (key.map kV)),
  fun i H=>H d=some (.frz o (.dT kvs))/\kvs.length <= i⟩
theorem wo {α β:Type} {F:α->β->Prop}:∀ {l₁:List α} {l₂:List β},Paired F l₁ l₂->l₁.length=l₂.length
 | _,_,.nil=>rfl
 | _,_,.cons _ t=>congrArg (·+1) (wo t)
theorem yhg {α β:Type} {F:α->β->Prop} {l₁:List α} {l₂:List β} (h:Paired F l₁ l₂):∀ {i:Nat} {y:β},l₂[i]?=some y->∃ x,l₁[i]?=some x/\F x y:=by
 induction h with
 | nil=>intro i y e; cases e
 | cons r t ih =>
  intro i y e
  cases i with
  | zero=>cases e; exact ⟨_,rfl,r⟩
  | succ j=>exact ih e
theorem yfo {P:Program} {w:World} {K:W.Frag} {elts:List Expr} {x1} {tpos:Pos} {o:Obj} {es:Array DictEntry} {ep:Nat} {kvs:List (List Key × V)} (d it:Addr) (ho:o.data=.dict es ep) (hs:es.size=kvs.length) :
  yii P w K (.Tuple elts x1 tpos) (Iti o d kvs) [it] it (fun i h=>∃ ok ov,IsItemIter h it d i es.size ep ok ov) where
 mem:=by simp
 obj:=fun i h st b hb=>by
  have e:b=it:=by simpa using hb
  subst e
  obtain ⟨_,_,e⟩:=st
  exact ⟨_,e,fun v z=>by cases z⟩
 keep:=fun i h h' ⟨ok,ov,st⟩ k=>⟨ok,ov,k it (by simp) _ st⟩
 item:=by
  intro X hP hw hK hc i pins s σ H E I hf ⟨ok,ov,st⟩ ⟨hd,hlt⟩
  subst hP hw hK
  obtain ⟨f0,f1,f2,f3,f4,f5⟩:=hf it (by simp)
  obtain ⟨eo,_,_,xs,pr,o',es',ep',eo',_,hd',hes,_⟩:=(show wj X.prog X.w H s.heap d (.frz o (.dT kvs)) from I.hok d _ hd)
  rw [eo] at eo'; cases eo'; rw [ho] at hd'; cases hd'
  have hl:i < es.size:=by omega
  have he:es[i]=entryOfKey (tupleKind (wq X.prog X.w)) (xs[i]'(by rw [<- (wo pr)]; exact hlt)):=by
   have e1:es.toList[i]?=some es[i]:=by simp [hl]
   rw [hes,List.getElem?_map,List.getElem?_eq_getElem (by rw [<- (wo pr)]; exact hlt)] at e1
   exact (Option.some.inj e1).symm
  obtain ⟨⟨key,v⟩,hkv,k1,k2,k3⟩:=yhg pr (List.getElem?_eq_getElem (by rw [<- (wo pr)]; exact hlt))
  have hkey:es[i].key=.ref (xs[i]'(by rw [<- (wo pr)]; exact hlt)).2.1:=by rw [he]; rfl
  have hval:es[i].val=(xs[i]'(by rw [<- (wo pr)]; exact hlt)).2.2:=by rw [he]; rfl
  rw [<- hval] at k3
  generalize (xs[i]'(by rw [<- (wo pr)]; exact hlt)).2.1=kt at hkey k2
  refine yfm st eo ho hl fun h' a1 a2 hk=>⟨_,rfl,wpAny_letOwnedTupleGo_items a1 fun h2 b1 b2=>?_⟩
  rw [hkey] at a2
  have hTn:H s.heap.objs.size=none:=I.hok.fresh (Nat.le_refl _)
  have lI:it < s.heap.objs.size:=Heap.lt_size st
  have keep:∀ b o,b≠it->s.heap.get? b=some o->h2.get? b=some o:=fun b o n e=>(b2.2 b n).trans (hk b o n e)
  have htup:h2.get? s.heap.objs.size=some { cls:=.type "tuple",data:=.seq #[.ref kt,es[i].val] }:=(b2.2 _ (Nat.ne_of_gt lI)).trans a2
  have hok:HOk X.prog X.w (upd H s.heap.objs.size (.tup [.ref kt,v])) h2:=fun b u e=>by
   by_cases hb:b=s.heap.objs.size
   ·subst hb
    rw [ya] at e
    cases e
    exact ⟨by show 2 <= sizeLine; decide,[.ref kt,es[i].val],.cons rfl (.cons k3 .nil),⟨_,htup,rfl,_,rfl⟩⟩
   ·rw [yi hb] at e
    refine (I.hok b u e).stay (fun c z hc' q=>keep c z ?_ q) (fun c q=>by rw [yi (yd q hTn)]; exact q) fun c ys q=>by rw [yi (yd q hTn)]; exact q
    rcases hc' with rfl | hc'
    ·exact yd e f0
    ·exact yd hc' f0
  have un:Un (frs X.stack) [it] H (upd H s.heap.objs.size (.tup [.ref kt,v])) s.heap h2:=by
   have kp:∀ {b z},b∉[it]->s.heap.get? b=some z->h2.get? b=some z:=fun {b z} hb e=>keep b z (fun q=>hb (by simp [q])) e
   refine ⟨fun b z e n _ hx=>kp hx e,fun b z e n _ hx=>⟨z.slots,kp hx e⟩,fun b z e n _=>by rw [yi (Nat.ne_of_lt (Heap.lt_size e))]; exact n,fun b z e hx=>⟨z,kp hx e⟩,fun b ys e=>by rw [yi (yd e hTn)]; exact e,fun b z u e=>by rw [yi (yd e hTn)]; exact e,fun b ps e=>⟨#[],by rw [yi (yd e hTn),e]; simp⟩⟩
  have I1:Inv X pins σ (upd H s.heap.objs.size (.tup [.ref kt,v])) { s with heap:=h2 }:=I.call' (s':={ s with heap:=h2 }) rfl un hok I.bare fun b hb=>by
   have f:=hf b hb
   exact ⟨f.2.2.2.1,f.2.1,f.2.2.2.2.1,f.2.2.2.2.2⟩
  refine ⟨.ref s.heap.objs.size,_,I1,rfl,⟨_,kt,key,v,rfl,hTn,rfl,hkv,by rw [show key=_ from k1] at k2 ⊢; exact k2⟩,⟨_,_,b1⟩,fun b hb=>?_⟩
  rw [yi (fun q=>?_)]
  ·exact (hf b hb).1
  ·have e:b=it:=by simpa using hb
   rw [e] at q
   exact absurd q (Nat.ne_of_lt lI)
 done:=by
  intro X hP hw hK hc i pins s σ H E I hf ⟨ok,ov,st⟩ ⟨hd,hge⟩
  subst hP hw hK
  obtain ⟨f0,f1,f2,f3,f4,f5⟩:=hf it (by simp)
  obtain ⟨eo,_⟩:=(show wj X.prog X.w H s.heap d (.frz o (.dT kvs)) from I.hok d _ hd)
  exact yhh (I.ok.hd hc) st eo ho (by omega) fun h' eb=>⟨rfl,I.turned (t':=s.toks) (fun b o hb e=>eb b o hb e) f0 f1 f3 f4 f5⟩
 self:=fun _ _ _ _ _ ⟨_,_,st⟩ h=>yf5 st h
section
variable {X:Cx}
def yj6 (to:TE):TI:=fun σ H R=>to σ H fun x H1=>∃ d kvs,x=.ref d/\H1 d=some (.dT kvs)/\∀ o,R (Iti o d kvs) (upd H1 d (.frz o (.dT kvs)))
theorem yjk {elts:List Expr} {x1} {tpos:Pos} {o:Expr} {to:TE} {apos cpos:Pos} (ho:PE X o to) (hbase:attributeBase o "items" X.env (eval o X.env)=eval o X.env:=by rfl) (hline:(apos.endLine == cpos.line)=true:=by rfl) :
  PI X (.Tuple elts x1 tpos) (.Call (.Attribute o "items" apos) [] [] cpos) (yj6 to):=by
 intro pins s σ H R I h
 refine wpAny_Call_method0_late hbase hline (thn (ho pins s σ H _ I h) fun v s1 ⟨x,H1,I1,r1,q1⟩=>?_)
 obtain ⟨d,kvs,rfl,hd,q⟩:=q1
 cases r1
 obtain ⟨_,hne,xs,pr,od,es,ep,e0,ex,e1,e2,_⟩:=(show wj X.prog X.w H1 s1.heap d (.dT kvs) from I1.hok d _ hd)
 refine ⟨"dict","dict.items",F.plainAttrs_dict,F.slot_dict_items,F.type_dict_items,⟨od,e0,ex.1⟩,fun a ea=>by cases ea; exact ⟨od,e0,ex.2.1⟩,Calls.callWith_builtin rfl (PySem.evalArgs_none (yff hne e0 ex ?_))⟩
 refine yf3 ⟨_,Heap.get?_push_size _ rfl,rfl,rfl⟩ (Heap.get?_push_of_some _ e0) e1 ?_
 have I2:=I1.freeze hd e0
 have hsz:es.size=kvs.length:=by rw [(wo pr),<- Array.length_toList,e2,List.length_map]
 refine ⟨_,[_],_,_,_,rfl,I2.kept (t':=s1.toks) fun b o e=>Heap.get?_push_of_some _ (Heap.get?_push_of_some _ e),yfo d _ e1 hsz,⟨_,_,Heap.get?_push_size _ rfl⟩,fun b hb=>?_,q od⟩
 have e:b=(s1.heap.push { cls:=.type "dict_items",data:=.fields #[.ref d] }).objs.size:=by simpa using hb
 have hle:s1.heap.objs.size <= b:=by rw [e,Heap.size_push]; omega
 exact I2.fpOk hle (I2.hok.fresh hle)
theorem yjc {to:TE} {σ:St} {H:Hp} {R:It->Hp->Prop} (h:to σ H fun x H1=>∃ d kvs,x=.ref d/\H1 d=some (.dT kvs)/\∀ o,R (Iti o d kvs) (upd H1 d (.frz o (.dT kvs)))):yj6 to σ H R:=h
def ysb (H:Hp) (D:yb6):yb6:={ D with nx:=fun σ' H'=>∃ d o kvs,(∀ o u,H d≠some (.frz o u))/\H' d=some (.frz o (.dT kvs))/\D.nx σ' (upd H' d (.dT kvs)) }
def yse (t:TS):TS:=fun D σ H=>t (ysb H D) σ H
theorem ymr {st:Stmt} {t:TS} (h:PS X st t):PS X st (yse t):=by
 intro pins s σ H D I q
 refine thn (h pins s σ H _ I q) fun f s1 z=>?_
 cases f with
 | next =>
  obtain ⟨σ',H',J,d,o,kvs,n0,hd,k⟩:=z
  exact ⟨σ',_,J.thaw (fun o u e=>n0 o u (I.base.frzs d o u e)) hd,k⟩
 | brk=>exact z
 | cont=>exact z
 | ret u=>exact z
theorem yp3 {t:TS} {D:yb6} {σ:St} {H:Hp} (h:t (ysb H D) σ H):yse t D σ H:=h
end
theorem yg1 {o:Obj} {d:Addr} {kvs:List (List Key × V)} {g:TG} {tb:TS} {D:yb6} {σ:St} {H:Hp} (Pv:Nat->St->Hp->Prop) (h0:Pv 0 σ H) (hl:∀ i σ H,i <= kvs.length->Pv i σ H->H d=some (.frz o (.dT kvs)))
  (hs:∀ i key v σ H t kt,kvs[i]?=some (key,v)->Pv i σ H->H t=none->H kt=some (.tup (key.map kV))->g (.ref t) σ (upd H t (.tup [.ref kt,v])) fun σ2 H2=>tb { D with nx:=Pv (i+1),ct:=Pv (i+1),bk:=D.nx } σ2 H2) (hd:∀ σ H,Pv kvs.length σ H->D.nx σ H) :
  ∃ W:Nat->Nat->St->Hp->Prop,(∃ m,W 0 m σ H)/\∀ i m σ H,W i m σ H ->
   ((Iti o d kvs).stop i H/\D.nx σ H)\/((Iti o d kvs).go i H/\∃ N:St->Hp->Prop,(∀ σ' H',N σ' H'->∃ m',m' < m/\W (i+1) m' σ' H')/\∀ x H',(Iti o d kvs).yld i H x H'->g x σ H' fun σ2 H2=>tb { D with nx:=N,ct:=N,bk:=D.nx } σ2 H2):=by
 refine ⟨fun i m σ H=>m=kvs.length - i/\i <= kvs.length/\Pv i σ H,⟨kvs.length,by simp,Nat.zero_le _,h0⟩,?_⟩
 rintro i m σ H ⟨rfl,hi,p⟩
 have q:=hl i σ H hi p
 by_cases hlt:i < kvs.length
 ·refine .inr ⟨⟨q,hlt⟩,Pv (i+1),fun σ' H' p'=>⟨kvs.length - (i+1),by omega,rfl,hlt,p'⟩,fun x H' y=>?_⟩
  obtain ⟨t,kt,key,v,rfl,ht,rfl,hkv,hkt⟩:=y
  exact hs i key v σ H t kt hkv p ht hkt
 ·have e:i=kvs.length:=by omega
  subst e
  exact .inl ⟨⟨q,Nat.le_refl _⟩,hd σ H p⟩
end L2
namespace MixI
def giv (c b:Int):Int:=if b=1 then c else 16777216 - c
def yjq (x:Int):Nat:=if x == 0 then 0 else x.natAbs.log2+1
def shL (ws cs:List Int) (b:Int):List Int:=List.zipWith (fun w c=>w * giv c b) ws cs
def grL (sh:List Int):List Int:=sh.map fun s=>31 * (sh.length:Int) * s+sh.sum
def tOf (s:Int):Nat:=yjq s - 48
def lrn (ws cs:List Int) (b:Int):List Int:=(grL (shL ws cs b)).map fun v=>v / 2 ^ tOf (grL (shL ws cs b)).sum
def yu2 (ws cs:List Int):Int:=(List.zipWith (fun w c=>w * c) ws cs).sum
def ysm (ws cs:List Int):Int:=yu2 ws cs / ws.sum
structure WOk (k:Nat) (ws:List Int):Prop where
 len:ws.length=k
 one:∀ w∈ws,1 <= w
 top:∀ w∈ws,w < 281474976710656
structure COk (k:Nat) (cs:List Int):Prop where
 len:cs.length=k
 lo:∀ c∈cs,32768 <= c
 hi:∀ c∈cs,c <= 16744448
theorem ypu {c b:Int} (h1:32768 <= c) (h2:c <= 16744448):32768 <= giv c b:=by unfold giv; split <;> omega
theorem yd7 {ws cs:List Int} {b:Int} (h:ws.length=cs.length):(shL ws cs b).length=ws.length:=by
 unfold shL; rw [List.length_zipWith,<- h]; omega
theorem yho {sh:List Int}:(grL sh).length=sh.length:=by unfold grL; rw [List.length_map]
theorem ymo {k:Nat} {ws cs:List Int} {b:Int} (hw:WOk k ws) (hc:COk k cs):(lrn ws cs b).length=k:=by
 unfold lrn; rw [List.length_map,yho,yd7 (by rw [hw.len,hc.len]),hw.len]
theorem yar (m d:Int):∀ sh:List Int,(sh.map fun s=>m * s+d).sum=m * sh.sum+sh.length * d
 | []=>by simp
 | s :: r=>by
  simp only [List.map_cons,List.sum_cons,yar m d r,List.length_cons,Int.natCast_add,Int.natCast_one,Int.mul_add,Int.add_mul]
  omega
theorem yme (sh:List Int):(grL sh).sum=32 * (sh.length:Int) * sh.sum:=by
 unfold grL
 rw [yar,Int.mul_assoc,Int.mul_assoc]
 generalize (sh.length:Int) * sh.sum=x
 omega
theorem yh5:∀ {l:List Int},(∀ x∈l,0 <= x)->0 <= l.sum
 | [],_=>by simp
 | a :: r,h=>by
  have h1:=h a (by simp)
  have h2:=yh5 (l:=r) fun x hx=>h x (by simp [hx])
  rw [List.sum_cons]; omega
theorem yk1:∀ {l:List Int} {y:Int},(∀ x∈l,0 <= x)->y∈l->y <= l.sum
 | a :: r,y,h,hy=>by
  have h1:=h a (by simp)
  have hr:∀ x∈r,0 <= x:=fun x hx=>h x (by simp [hx])
  have h2:=yh5 hr
  rw [List.sum_cons]
  rcases List.mem_cons.mp hy with e | hy
  ·omega
  ·have:=yk1 hr hy; omega
theorem yh8 {c:Int}:∀ {l:List Int},(∀ x∈l,c <= x)->c * l.length <= l.sum
 | [],_=>by simp
 | a :: r,h=>by
  have h1:=h a (by simp)
  have h2:=yh8 (l:=r) fun x hx=>h x (by simp [hx])
  rw [List.sum_cons,List.length_cons,Int.natCast_add,Int.natCast_one,Int.mul_add]; omega
theorem ykb {c:Int}:∀ {l:List Int},(∀ x∈l,x <= c)->l.sum <= c * l.length
 | [],_=>by simp
 | a :: r,h=>by
  have h1:=h a (by simp)
  have h2:=ykb (l:=r) fun x hx=>h x (by simp [hx])
  rw [List.sum_cons,List.length_cons,Int.natCast_add,Int.natCast_one,Int.mul_add]; omega
theorem WOk.pos {k:Nat} {ws:List Int} (h:WOk k ws) (hk:1 <= k):1 <= ws.sum:=by
 have:=yh8 (c:=1) h.one
 rw [h.len] at this; omega
theorem WOk.small {k:Nat} {ws:List Int} (h:WOk k ws) (hk:k <= 6):ws.sum <= 1688849860263936:=by
 have:=ykb (c:=281474976710656) fun x hx=>Int.le_of_lt (h.top x hx)
 rw [h.len] at this; omega
theorem yej (t:Nat):(2:Int) ^ t=((2 ^ t:Nat):Int):=by rw [Int.natCast_pow]; rfl
theorem ylo (t:Nat):(0:Int) < 2 ^ t:=by rw [yej]; exact Int.natCast_pos.mpr (Nat.pow_pos (by decide))
theorem yq9 {s:Int} (h:1 <= s):s < 281474976710656 * 2 ^ tOf s/\(tOf s=0\/140737488355328 * 2 ^ tOf s <= s):=by
 have hn:s.natAbs≠0:=by omega
 have e:(s.natAbs:Int)=s:=by omega
 have a:=Nat.log2_self_le hn
 have b:=@Nat.lt_log2_self s.natAbs
 unfold tOf yjq
 rw [if_neg (by simp; omega)]
 generalize s.natAbs.log2=L at a b ⊢
 rcases Nat.lt_or_ge L 48 with q | q
 ·have z:L+1 - 48=0:=by omega
  rw [z]
  refine ⟨?_,.inl rfl⟩
  have:2 ^ (L+1) <= 2 ^ 48:=Nat.pow_le_pow_right (by decide) (by omega)
  have e48:(2:Nat) ^ 48=281474976710656:=by decide
  rw [e48] at this
  rw [<- e,Int.pow_zero,Int.mul_one]
  omega
 ·obtain ⟨t,rfl⟩:∃ t,L=47+t:=⟨L - 47,by omega⟩
  have z:47+t+1 - 48=t:=by omega
  rw [z,yej]
  have e47:(2:Nat) ^ (47+t)=140737488355328 * 2 ^ t:=by rw [Nat.pow_add]
  have e48:(2:Nat) ^ (47+t+1)=281474976710656 * 2 ^ t:=by rw [show 47+t+1=48+t by omega,Nat.pow_add]
  rw [e47] at a
  rw [e48] at b
  generalize 2 ^ t=T at a b ⊢
  exact ⟨by omega,.inr (by omega)⟩
section
variable {k:Nat} {ws cs:List Int} {b:Int}
theorem ylz (hw:WOk k ws) (hc:COk k cs):∀ s∈shL ws cs b,1 <= s:=by
 intro s hs
 unfold shL at hs
 rw [List.mem_iff_getElem] at hs
 obtain ⟨i,hi,rfl⟩:=hs
 rw [List.length_zipWith] at hi
 rw [List.getElem_zipWith]
 have h1:=hw.one ws[i] (List.getElem_mem _)
 have h2:=ypu (b:=b) (hc.lo cs[i] (List.getElem_mem _)) (hc.hi cs[i] (List.getElem_mem _))
 have:=Int.mul_le_mul h1 h2 (by decide) (by omega)
 omega
theorem yqq {sh:List Int} (h:∀ s∈sh,1 <= s):∀ v∈grL sh,sh.sum <= v/\v <= (grL sh).sum/\0 <= v:=by
 have hs:=yh5 (l:=sh) fun x hx=>by have:=h x hx; omega
 have hv:∀ v∈grL sh,sh.sum <= v:=fun v hv=>by
  unfold grL at hv
  obtain ⟨s,hs',rfl⟩:=List.mem_map.mp hv
  have:=h s hs'
  have:0 <= 31 * (sh.length:Int) * s:=Int.mul_nonneg (Int.mul_nonneg (by decide) (Int.natCast_nonneg _)) (by omega)
  omega
 exact fun v h1=>⟨hv v h1,yk1 (fun x hx=>by have:=hv x hx; omega) h1,by have:=hv v h1; omega⟩
theorem ypt (hk:1 <= k) (hk6:k <= 6) (hw:WOk k ws) (hc:COk k cs):WOk k (lrn ws cs b):=by
 have hl:(shL ws cs b).length=k:=by rw [yd7 (by rw [hw.len,hc.len]),hw.len]
 have hp:=ylz (b:=b) hw hc
 have ha:1 <= (shL ws cs b).sum:=by
  have:=yh8 (c:=1) hp
  rw [hl] at this; omega
 have hg:=yqq hp
 have hs:=yme (shL ws cs b)
 rw [hl] at hs
 have h1:1 <= (grL (shL ws cs b)).sum:=by
  rw [hs]
  have:32 * (k:Int) * 1 <= 32 * (k:Int) * (shL ws cs b).sum:=Int.mul_le_mul_of_nonneg_left ha (by omega)
  omega
 have hsv:(grL (shL ws cs b)).sum <= 192 * (shL ws cs b).sum:=by
  rw [hs]; exact Int.mul_le_mul_of_nonneg_right (by omega) (by omega)
 obtain ⟨t1,t2⟩:=yq9 h1
 have tp:=ylo (tOf (grL (shL ws cs b)).sum)
 refine ⟨ymo hw hc,fun w h=>?_,fun w h=>?_⟩
 ·obtain ⟨v,hv,rfl⟩:=List.mem_map.mp h
  obtain ⟨v1,v2,v3⟩:=hg v hv
  refine (Int.le_ediv_iff_mul_le tp).mpr ?_
  rcases t2 with t2 | t2
  ·rw [t2,Int.pow_zero]; omega
  ·generalize (2:Int) ^ tOf (grL (shL ws cs b)).sum=T at *
   omega
 ·obtain ⟨v,hv,rfl⟩:=List.mem_map.mp h
  obtain ⟨v1,v2,v3⟩:=hg v hv
  exact (Int.ediv_lt_iff_lt_mul tp).mpr (by omega)
theorem yg7 {g:Int->Int->Int} {ws cs:List Int} (h:cs.length=ws.length):(List.range ws.length).map (fun i=>g ((ws[i]?).getD 0) ((cs[i]?).getD 0))=List.zipWith g ws cs:=by
 apply List.ext_getElem
 ·rw [List.length_map,List.length_range,List.length_zipWith]; omega
 ·intro i h1 h2
  rw [List.length_map,List.length_range] at h1
  rw [List.getElem_map,List.getElem_range,List.getElem_zipWith,List.getElem?_eq_getElem h1,List.getElem?_eq_getElem (by omega)]
  rfl
end
end MixI
namespace Law
open PySem L2
local macro_rules | `(tactic| walk_at "side")=>`(tactic| first | exact ⟨by decide,by decide⟩ | (show (0:Int) < _; first | decide | omega) | exact Or.inl ⟨by omega,by omega⟩ | exact Or.inr ⟨by omega,by omega⟩ | exact ⟨by omega,by omega⟩ | exact ⟨by decide,by decide,by decide⟩)
local macro_rules | `(tactic| walk_at "len")=>`(tactic| first | decide | (simp only [List.length_cons,List.length_nil]; decide))
local macro_rules | `(tactic| walk_at "rd1")=>`(tactic| with_reducible first
 | refine ytm ?_
 | (refine' yn2 ?rdv ?_; (case rdv=>with_unfolding_all rfl))
 | refine i_c ?_
 | refine yuv ?_
 | refine yvd ?_
 | refine ypn ?_
 | refine yvf ?_
 | refine yu3 ?_
 | refine yve ?_
 | refine ys9 ?_
 | refine yso ?_
 | refine yqu ?_
 | refine yqj ?_
 | refine yqy ?_
 | refine yl6 ?_
 | refine ybw ?_
 | refine ymc ?_
 | refine ym3 ?_
 | refine i_try ?_
 | refine ypr ?_
 | refine ytj ?_
 | refine yu5 ?_
 | refine ys4 ?_
 | refine i_neI ?_
 | refine ylr ?_
 | refine yre ?_
 | refine i_orV ?_
 | refine yq2 ?_
 | refine yta ?_
 | refine yu0 ?_
 | refine ysq ?_
 | refine yth ?_
 | refine i_retN ?_
 | refine ysr ?_
 | refine ytk ?_
 | refine yaa ?_
 | refine yqo ?_
 | refine i_make0 ?_
 | refine yva ?_
 | refine ytn ?_
 | refine ys1 ?_
 | refine ypd ?_
 | refine yuw ?_
 | refine yi1 ?_
 | refine ypi ?_
 | refine ysz ?_
 | refine yuz ?_
 | refine i_U ?_
 | refine g0 ?_ | refine g1 ?_ | refine g2 ?_ | refine g3 ?_ | refine g4 ?_ | refine g5 ?_ | refine g6 ?_ | refine g7 ?_ | refine g8 ?_ | refine g9 ?_ | refine g10 ?_ | refine g11 ?_ | refine g12 ?_ | refine g13 ?_ | refine g14 ?_ | refine g15 ?_ | refine g16 ?_ | refine g17 ?_ | refine g18 ?_ | refine g19 ?_ | refine g20 ?_ | refine g21 ?_ | refine g22 ?_ | refine g23 ?_
 | refine ylq ?_
 | refine yo8 ?_
 | refine ylb ?_
 | refine yj0 ?_
 | refine ysx ?_
 | refine ytg ?_
 | refine ytf ?_
 | refine ymp ?_
 | refine yrd ?_
 | refine i_iEnum ?_
 | refine ymb ?_
 | refine yl9 ?_
 | refine ymz ?_
 | refine i_iRng3 ?_
 | refine i_iEnumT ?_
 | refine ypf ?_
 | refine ym6 ?_
 | refine i_gSub ?_
 | refine yp3 ?_
 | refine yjc ?_
 | refine ypl ?_
 | refine ymf ?_
 | refine yli ?_
 | refine yqg ?_
 | refine i_dget1 ?_
 | refine i_dget2 ?_
 | refine i_din ?_
 | refine yi2 ?_
 | refine yo1 ?_
 | refine ymh ?_
 | refine yqe ?_
 | refine yl2 ?_
 | (refine' i_shlC ?rdp ?rdq ?_; (case rdp=>with_unfolding_all exact ⟨by decide,by decide,by decide⟩); (case rdq=>with_unfolding_all decide))
 | (refine' yqh ?rdp ?rdq ?_; (case rdp=>with_unfolding_all exact ⟨by decide,by decide,by decide⟩); (case rdq=>with_unfolding_all decide))
 | refine i_nonA ?_
 | (refine i_I ?rdc ?_; (case rdc=>with_unfolding_all walk_at "side")))
local macro_rules | `(tactic| walk_at "rd")=>`(tactic| repeat walk_at "rd1")
def top (i:Nat):Stmt:=PySem.Challenge.pw_foretell_k24_forks_and_askings.main.body.getD i (.Pass ⟨0,0,0,0⟩)
abbrev ytz:Stmt:=top 8
abbrev yub:Stmt:=top 9
abbrev ytt:Stmt:=top 10
abbrev yua:Stmt:=top 11
abbrev yt3:Stmt:=top 12
abbrev ytu:Stmt:=top 13
abbrev yt7:Stmt:=y0 (top 18) 0
abbrev ytr:Stmt:=y0 (top 18) 1
abbrev yt0:Stmt:=y0 (top 18) 2
abbrev yoa:Stmt:=y0 (top 18) 3
abbrev yoo:Stmt:=y0 (top 19) 0
abbrev yoi:Stmt:=y0 (top 19) 1
abbrev ynz:Stmt:=y0 (top 19) 2
abbrev yn8:Stmt:=y0 (top 19) 3
abbrev yob:Stmt:=y0 (top 20) 0
abbrev ynt:Stmt:=y0 (top 20) 1
abbrev yns:Stmt:=y0 (top 20) 2
abbrev yom:Stmt:=y0 (top 20) 3
abbrev yon:Stmt:=top 21
abbrev ynv:Stmt:=top 27
abbrev yoj:Stmt:=top 28
abbrev ynu:Stmt:=top 29
abbrev yoe:Stmt:=top 30
abbrev yn9:Stmt:=top 31
abbrev yof:Stmt:=top 32
abbrev yn5:Stmt:=top 33
abbrev ynm:Stmt:=y0 (top 34) 0
abbrev yn4:Stmt:=y0 (top 34) 2
abbrev yn6:Stmt:=y0 (top 34) 4
abbrev ync:Stmt:=y0 (top 39) 0
abbrev ynx:Stmt:=y0 (top 39) 1
abbrev yod:Stmt:=y0 (top 39) 2
abbrev yn7:Stmt:=y0 (top 39) 3
abbrev yok:Stmt:=y0 (top 39) 4
abbrev yng:Stmt:=y0 (top 42) 0
abbrev yn0:Stmt:=y0 (top 42) 1
abbrev yno:Stmt:=y0 (top 42) 2
abbrev ynp:Stmt:=y0 (top 42) 3
abbrev ynq:Stmt:=y0 (top 42) 4
abbrev ynf:Stmt:=y0 (top 42) 5
abbrev yn1:Stmt:=y0 (top 42) 6
abbrev yny:Stmt:=y0 (top 42) 7
abbrev yni:Stmt:=y0 (top 42) 8
abbrev ynk:Stmt:=y0 (top 42) 9
abbrev ym8:Stmt:=y0 (top 42) 10
abbrev yoh:Stmt:=top 44
abbrev ynd:Stmt:=top 45
abbrev yna:Stmt:=top 46
abbrev ym9:Stmt:=top 47
abbrev ynh:Stmt:=top 48
abbrev ynj:Stmt:=top 49
abbrev yol:Stmt:=top 50
set_option genInjectivity false in
set_option genSizeOfSpec false in
structure Ads where
 f_q1:Addr
 d_q1:FuncData
 f_q2:Addr
 d_q2:FuncData
 f_q3:Addr
 d_q3:FuncData
 f_q4:Addr
 d_q4:FuncData
 f_q5:Addr
 d_q5:FuncData
 f_q6:Addr
 d_q6:FuncData
 f_q7:Addr
 d_q7:FuncData
 f_q8:Addr
 d_q8:FuncData
 f_q9:Addr
 d_q9:FuncData
 f_q10:Addr
 d_q10:FuncData
 f_q11:Addr
 d_q11:FuncData
 f_q12:Addr
 d_q12:FuncData
 f_q13:Addr
 d_q13:FuncData
 f_q14:Addr
 d_q14:FuncData
 f_q15:Addr
 d_q15:FuncData
 f_q16:Addr
 d_q16:FuncData
 f_q17:Addr
 d_q17:FuncData
 f_q18:Addr
 d_q18:FuncData
 f_q19:Addr
 d_q19:FuncData
 f_q20:Addr
 d_q20:FuncData
 f_q21:Addr
 d_q21:FuncData
 f_q22:Addr
 d_q22:FuncData
 f_q23:Addr
 d_q23:FuncData
 f_q24:Addr
 d_q24:FuncData
 f_q25:Addr
 d_q25:FuncData
 f_q26:Addr
 d_q26:FuncData
 f_q27:Addr
 d_q27:FuncData
 f_q28:Addr
 d_q28:FuncData
 f_q29:Addr
 d_q29:FuncData
 f_q30:Addr
 d_q30:FuncData
 f_q31:Addr
 d_q31:FuncData
 f_q32:Addr
 d_q32:FuncData
 f_q33:Addr
 d_q33:FuncData
 f_q34:Addr
 d_q34:FuncData
 f_q35:Addr
 d_q35:FuncData
 f_q36:Addr
 d_q36:FuncData
 f_q37:Addr
 d_q37:FuncData
 f_q38:Addr
 d_q38:FuncData
 f_q39:Addr
 d_q39:FuncData
 f_q40:Addr
 d_q40:FuncData
 f_q41:Addr
 d_q41:FuncData
 f_q42:Addr
 d_q42:FuncData
 f_q43:Addr
 d_q43:FuncData
 f_q44:Addr
 d_q44:FuncData
 f_q45:Addr
 d_q45:FuncData
 f_q46:Addr
 d_q46:FuncData
 f_q47:Addr
 d_q47:FuncData
 f_q48:Addr
 d_q48:FuncData
 f_q49:Addr
 d_q49:FuncData
 f_q50:Addr
 d_q50:FuncData
 f_q51:Addr
 d_q51:FuncData
 f_law:Addr
 d_law:FuncData
 C_Even:Addr
 C_Quick:Addr
 C_Run:Addr
 C_Book:Addr
 C_Mx:Addr
 C_Ft:Addr
 C_NC:Addr
 C_NB:Addr
 C_NL:Addr
 t_LEAST:Tok
 t_ONE:Tok
 t_MOST_COUNTED:Tok
 t_FARTHEST:Tok
 t_MOST_PLACES:Tok
 t_MOST_LOOKS:Tok
 t_NO_SIGN:Tok
 t_FIRST_WEIGHT:Tok
 t_OWN_PARTS:Tok
 t_MOST_FIGURES:Tok
 t_NODES_END:Tok
 W_KINDS:Addr
structure Txt (K:W.Frag) (mg:Str->Option Value) (a:Ads):Prop where
 y_q1:Dff K mg "is_whole" ytz ["thing"] a.f_q1 a.d_q1
 y_q2:Dff K mg "is_bit" yub ["thing"] a.f_q2 a.d_q2
 y_q3:Dff K mg "is_chance" ytt ["thing"] a.f_q3 a.d_q3
 y_q4:Dff K mg "check_chance" yua ["thing"] a.f_q4 a.d_q4
 y_q5:Dff K mg "check_bit" yt3 ["thing"] a.f_q5 a.d_q5
 y_q6:Dff K mg "gives" ytu ["chance","bit"] a.f_q6 a.d_q6
 y_q7:Dfm K a.C_Even "__init__" "Even.__init__" yt7 ["self"] a.f_q7 a.d_q7
 y_q8:Dfm K a.C_Even "chance" "Even.chance" ytr ["self"] a.f_q8 a.d_q8
 y_q9:Dfm K a.C_Even "seen" "Even.seen" yt0 ["self","bit"] a.f_q9 a.d_q9
 y_q10:Dfm K a.C_Even "twin" "Even.twin" yoa ["self"] a.f_q10 a.d_q10
 y_q11:Dfm K a.C_Quick "__init__" "Quick.__init__" yoo ["self"] a.f_q11 a.d_q11
 y_q12:Dfm K a.C_Quick "chance" "Quick.chance" yoi ["self"] a.f_q12 a.d_q12
 y_q13:Dfm K a.C_Quick "seen" "Quick.seen" ynz ["self","bit"] a.f_q13 a.d_q13
 y_q14:Dfm K a.C_Quick "twin" "Quick.twin" yn8 ["self"] a.f_q14 a.d_q14
 y_q15:Dfm K a.C_Run "__init__" "Run.__init__" yob ["self"] a.f_q15 a.d_q15
 y_q16:Dfm K a.C_Run "chance" "Run.chance" ynt ["self"] a.f_q16 a.d_q16
 y_q17:Dfm K a.C_Run "seen" "Run.seen" yns ["self","bit"] a.f_q17 a.d_q17
 y_q18:Dfm K a.C_Run "twin" "Run.twin" yom ["self"] a.f_q18 a.d_q18
 y_q19:Dff K mg "slot_of" yon ["kind"] a.f_q19 a.d_q19
 y_q20:Dff K mg "is_kind" ynv ["thing"] a.f_q20 a.d_q20
 y_q21:Dff K mg "is_place" yoj ["thing"] a.f_q21 a.d_q21
 y_q22:Dff K mg "are_places" ynu ["thing"] a.f_q22 a.d_q22
 y_q23:Dff K mg "is_look" yoe ["thing"] a.f_q23 a.d_q23
 y_q24:Dff K mg "checked_looks" yn9 ["thing"] a.f_q24 a.d_q24
 y_q25:Dff K mg "sign_back" yof ["signs","place"] a.f_q25 a.d_q25
 y_q26:Dff K mg "context_of" yn5 ["look","signs","node"] a.f_q26 a.d_q26
 y_q27:Dfm K a.C_Book "__init__" "Book.__init__" ynm ["self","look"] a.f_q27 a.d_q27
 y_q28:Dfm K a.C_Book "slot_at" "Book.slot_at" yn4 ["self","signs","node"] a.f_q28 a.d_q28
 y_q29:Dfm K a.C_Book "twin" "Book.twin" yn6 ["self"] a.f_q29 a.d_q29
 y_q30:Dfm K a.C_Mx "__init__" "Mixer.__init__" ync ["self","many"] a.f_q30 a.d_q30
 y_q31:Dfm K a.C_Mx "weights" "Mixer.weights" ynx ["self"] a.f_q31 a.d_q31
 y_q32:Dfm K a.C_Mx "mixed" "Mixer.mixed" yod ["self","chances"] a.f_q32 a.d_q32
 y_q33:Dfm K a.C_Mx "learn" "Mixer.learn" yn7 ["self","chances","bit"] a.f_q33 a.d_q33
 y_q34:Dfm K a.C_Mx "twin" "Mixer.twin" yok ["self"] a.f_q34 a.d_q34
 y_q35:Dfm K a.C_Ft "__init__" "Foreteller.__init__" yng ["self","looks"] a.f_q35 a.d_q35
 y_q36:Dfm K a.C_Ft "arrive" "Foreteller.arrive" yn0 ["self"] a.f_q36 a.d_q36
 y_q37:Dfm K a.C_Ft "chances" "Foreteller.chances" yno ["self"] a.f_q37 a.d_q37
 y_q38:Dfm K a.C_Ft "chance" "Foreteller.chance" ynp ["self"] a.f_q38 a.d_q38
 y_q39:Dfm K a.C_Ft "weights" "Foreteller.weights" ynq ["self"] a.f_q39 a.d_q39
 y_q40:Dfm K a.C_Ft "node" "Foreteller.node" ynf ["self"] a.f_q40 a.d_q40
 y_q41:Dfm K a.C_Ft "signs" "Foreteller.signs" yn1 ["self"] a.f_q41 a.d_q41
 y_q42:Dfm K a.C_Ft "see" "Foreteller.see" yny ["self","bit"] a.f_q42 a.d_q42
 y_q43:Dfm K a.C_Ft "step" "Foreteller.step" yni ["self","bit"] a.f_q43 a.d_q43
 y_q44:Dfm K a.C_Ft "step_in_sign" "Foreteller.step_in_sign" ynk ["self","bit"] a.f_q44 a.d_q44
 y_q45:Dfm K a.C_Ft "fork" "Foreteller.fork" ym8 ["self"] a.f_q45 a.d_q45
 y_q46:Dff K mg "_law_cell_at" yoh ["_law_script","_law_k"] a.f_q46 a.d_q46
 y_q47:Dff K mg "_law_look" ynd ["_law_cell"] a.f_q47 a.d_q47
 y_q48:Dff K mg "_law_looks" yna ["_law_script"] a.f_q48 a.d_q48
 y_q49:Dff K mg "_law_told" ym9 ["_law_foreteller"] a.f_q49 a.d_q49
 y_q50:Dff K mg "_law_ask" ynh ["_law_foreteller","_law_cell"] a.f_q50 a.d_q50
 y_q51:Dff K mg "_law_see" ynj ["_law_foreteller","_law_bits"] a.f_q51 a.d_q51
 y_law:Dff K mg "law" yol ["_law_script"] a.f_law a.d_law
 cl_Even:Cls K a.C_Even
 m_Even:mg "Even"=some (.ref a.C_Even)
 k_Even:Mk K a.C_Even a.f_q7
 n_Even_noughts:yq K a.C_Even "noughts"
 n_Even_ones:yq K a.C_Even "ones"
 cl_Quick:Cls K a.C_Quick
 m_Quick:mg "Quick"=some (.ref a.C_Quick)
 k_Quick:Mk K a.C_Quick a.f_q11
 n_Quick_held:yq K a.C_Quick "held"
 cl_Run:Cls K a.C_Run
 m_Run:mg "Run"=some (.ref a.C_Run)
 k_Run:Mk K a.C_Run a.f_q15
 n_Run_last:yq K a.C_Run "last"
 n_Run_length:yq K a.C_Run "length"
 cl_Book:Cls K a.C_Book
 m_Book:mg "Book"=some (.ref a.C_Book)
 k_Book:Mk K a.C_Book a.f_q27
 n_Book_look:yq K a.C_Book "look"
 n_Book_slots:yq K a.C_Book "slots"
 cl_Mx:Cls K a.C_Mx
 m_Mx:mg "Mixer"=some (.ref a.C_Mx)
 k_Mx:Mk K a.C_Mx a.f_q30
 n_Mx_kept:yq K a.C_Mx "kept"
 cl_Ft:Cls K a.C_Ft
 m_Ft:mg "Foreteller"=some (.ref a.C_Ft)
 k_Ft:Mk K a.C_Ft a.f_q35
 n_Ft_looks:yq K a.C_Ft "looks"
 n_Ft_books:yq K a.C_Ft "books"
 n_Ft_mixer:yq K a.C_Ft "mixer"
 n_Ft_ended:yq K a.C_Ft "ended"
 n_Ft_place:yq K a.C_Ft "place"
 n_Ft_present:yq K a.C_Ft "present"
 m_NC:mg "NoChance"=some (.ref a.C_NC)
 m_NB:mg "NoBit"=some (.ref a.C_NB)
 m_NL:mg "NoLooks"=some (.ref a.C_NL)
 x_NC:XCls K a.C_NC
 r_NC:XMk K a.C_NC
 x_NB:XCls K a.C_NB
 r_NB:XMk K a.C_NB
 x_NL:XCls K a.C_NL
 r_NL:XMk K a.C_NL
 igg:W.specialIn K (.builtin "object.__class__") "__get__"=some (some (.builtin "getset_descriptor.__get__"))
 itk:W.takesIn K (.builtin "object.__class__")=some true
 ica_Ft:W.findIn K (.ref a.C_Ft) "__class__"=some (some (.builtin "object.__class__"))
 imo_Ft:W.mroIn K a.C_Ft (.type "object")=some true
 iki_Ft_Ft:W.kitOne K (.ref a.C_Ft) (.ref a.C_Ft)=some true
 z_isinstance:mg "isinstance"=none
 z_int:mg "int"=none
 z_bool:mg "bool"=none
 z_min:mg "min"=none
 z_max:mg "max"=none
 z_str:mg "str"=none
 z_all:mg "all"=none
 z_tuple:mg "tuple"=none
 z_len:mg "len"=none
 z_zip:mg "zip"=none
 z_list:mg "list"=none
 z_sum:mg "sum"=none
 z_range:mg "range"=none
 c_LEAST:mg "LEAST"=some (.int 32768 a.t_LEAST)
 c_ONE:mg "ONE"=some (.int 16777216 a.t_ONE)
 c_MOST_COUNTED:mg "MOST_COUNTED"=some (.int 255 a.t_MOST_COUNTED)
 c_FARTHEST:mg "FARTHEST"=some (.int 8 a.t_FARTHEST)
 c_MOST_PLACES:mg "MOST_PLACES"=some (.int 4 a.t_MOST_PLACES)
 c_MOST_LOOKS:mg "MOST_LOOKS"=some (.int 6 a.t_MOST_LOOKS)
 c_NO_SIGN:mg "NO_SIGN"=some (.int 256 a.t_NO_SIGN)
 c_FIRST_WEIGHT:mg "FIRST_WEIGHT"=some (.int 1099511627776 a.t_FIRST_WEIGHT)
 c_OWN_PARTS:mg "OWN_PARTS"=some (.int 31 a.t_OWN_PARTS)
 c_MOST_FIGURES:mg "MOST_FIGURES"=some (.int 48 a.t_MOST_FIGURES)
 c_NODES_END:mg "NODES_END"=some (.int 256 a.t_NODES_END)
 m_KINDS:mg "KINDS"=some (.ref a.W_KINDS)
 w_KINDS:∀ H,SqT K H a.W_KINDS [V.str "even",V.str "quick",V.str "run"]
section
variable {P:Program} {w:World} {K:W.Frag} {mg:Str->Option Value} {base:Heap} {a:Ads}
def wd (v0 v1:V):List (Str × V):=[("noughts",v0),("ones",v1)]
section
variable {H:Hp} {p dx:Addr} {v0 v1 v:V} {P:V->Prop} {R:Prop} {nx:St->Hp->Prop} {σ:St}
theorem jk (T:Txt K mg a) (hp:H p=some (.ins a.C_Even dx (wd v0 v1))) (h:P v0):∃ a' C dx fs v,V.ref p=.ref a'/\H a'=some (.ins C dx fs)/\Cls K C/\yq K C "noughts"/\fs.lookup ("noughts":Str)=some v/\P v:=⟨p,_,dx,_,_,rfl,hp,T.cl_Even,T.n_Even_noughts,zj,h⟩
theorem jp (T:Txt K mg a) (hp:H p=some (.ins a.C_Even dx (wd v0 v1))) (h:y7 nx σ (upd H p (.ins a.C_Even dx (wd v v1)))):∃ a' C dx fs,V.ref p=.ref a'/\H a'=some (.ins C dx fs)/\Cls K C/\yq K C "noughts"/\fs.length < 1000/\y7 nx σ (upd H a' (.ins C dx (vz "noughts" v fs))):=⟨p,_,dx,wd v0 v1,rfl,hp,T.cl_Even,T.n_Even_noughts,by show 2 < 1000; decide,by rw [show vz "noughts" v (wd v0 v1)=wd v v1 from zz]; exact h⟩
theorem jj (T:Txt K mg a) (hp:H p=some (.ins a.C_Even dx [])) (h:y7 nx σ (upd H p (.ins a.C_Even dx (([("noughts",v)]:List (Str × V)))))):∃ a' C dx fs,V.ref p=.ref a'/\H a'=some (.ins C dx fs)/\Cls K C/\yq K C "noughts"/\fs.length < 1000/\y7 nx σ (upd H a' (.ins C dx (vz "noughts" v fs))):=⟨p,_,dx,[],rfl,hp,T.cl_Even,T.n_Even_noughts,by show 0 < 1000; decide,by rw [show vz "noughts" v []=([("noughts",v)]:List (Str × V)) from xj]; exact h⟩
theorem ych (T:Txt K mg a) (hp:H p=some (.ins a.C_Even dx (wd v0 v1))) (h:P v1):∃ a' C dx fs v,V.ref p=.ref a'/\H a'=some (.ins C dx fs)/\Cls K C/\yq K C "ones"/\fs.lookup ("ones":Str)=some v/\P v:=⟨p,_,dx,_,_,rfl,hp,T.cl_Even,T.n_Even_ones,(yp (by decide +kernel) zj),h⟩
theorem ycm (T:Txt K mg a) (hp:H p=some (.ins a.C_Even dx (wd v0 v1))) (h:y7 nx σ (upd H p (.ins a.C_Even dx (wd v0 v)))):∃ a' C dx fs,V.ref p=.ref a'/\H a'=some (.ins C dx fs)/\Cls K C/\yq K C "ones"/\fs.length < 1000/\y7 nx σ (upd H a' (.ins C dx (vz "ones" v fs))):=⟨p,_,dx,wd v0 v1,rfl,hp,T.cl_Even,T.n_Even_ones,by show 2 < 1000; decide,by rw [show vz "ones" v (wd v0 v1)=wd v0 v from (v8 (by decide +kernel) zz)]; exact h⟩
theorem yce (T:Txt K mg a) (hp:H p=some (.ins a.C_Even dx [("noughts",v0)])) (h:y7 nx σ (upd H p (.ins a.C_Even dx (wd v0 v)))):∃ a' C dx fs,V.ref p=.ref a'/\H a'=some (.ins C dx fs)/\Cls K C/\yq K C "ones"/\fs.length < 1000/\y7 nx σ (upd H a' (.ins C dx (vz "ones" v fs))):=⟨p,_,dx,[("noughts",v0)],rfl,hp,T.cl_Even,T.n_Even_ones,by show 1 < 1000; decide,by rw [show vz "ones" v [("noughts",v0)]=wd v0 v from (v8 (by decide +kernel) xj)]; exact h⟩
theorem yaj:(wd v0 v1).lookup ("chance":Str)=none:=(yp (by decide +kernel) (yp (by decide +kernel) vx))
theorem yck:(wd v0 v1).lookup ("seen":Str)=none:=(yp (by decide +kernel) (yp (by decide +kernel) vx))
theorem yci:(wd v0 v1).lookup ("twin":Str)=none:=(yp (by decide +kernel) (yp (by decide +kernel) vx))
end
local macro_rules | `(tactic| walk_at "rd1")=>`(tactic| first
 | (with_reducible refine' jk (by assumption) ?rdh ?_; (case rdh=>first | assumption | exact ya))
 | (with_reducible refine' jp (by assumption) ?rdh ?_; (case rdh=>first | assumption | exact ya))
 | (with_reducible refine' jj (by assumption) ?rdh ?_; (case rdh=>first | assumption | exact ya))
 | (with_reducible refine' ych (by assumption) ?rdh ?_; (case rdh=>first | assumption | exact ya))
 | (with_reducible refine' ycm (by assumption) ?rdh ?_; (case rdh=>first | assumption | exact ya))
 | (with_reducible refine' yce (by assumption) ?rdh ?_; (case rdh=>first | assumption | exact ya))
 | (with_reducible refine' mt_Even___init__ ?rdh ?_; (case rdh=>first | assumption | exact ya))
 | (with_reducible refine' mt_Even_chance ?rdh ?_; (case rdh=>first | assumption | exact ya))
 | (with_reducible refine' mt_Even_seen ?rdh ?_; (case rdh=>first | assumption | exact ya))
 | (with_reducible refine' mt_Even_twin ?rdh ?_; (case rdh=>first | assumption | exact ya))
)
def wg (v0:V):List (Str × V):=[("held",v0)]
section
variable {H:Hp} {p dx:Addr} {v0 v:V} {P:V->Prop} {R:Prop} {nx:St->Hp->Prop} {σ:St}
theorem ybm (T:Txt K mg a) (hp:H p=some (.ins a.C_Quick dx (wg v0))) (h:P v0):∃ a' C dx fs v,V.ref p=.ref a'/\H a'=some (.ins C dx fs)/\Cls K C/\yq K C "held"/\fs.lookup ("held":Str)=some v/\P v:=⟨p,_,dx,_,_,rfl,hp,T.cl_Quick,T.n_Quick_held,zj,h⟩
theorem ybk (T:Txt K mg a) (hp:H p=some (.ins a.C_Quick dx (wg v0))) (h:y7 nx σ (upd H p (.ins a.C_Quick dx (wg v)))):∃ a' C dx fs,V.ref p=.ref a'/\H a'=some (.ins C dx fs)/\Cls K C/\yq K C "held"/\fs.length < 1000/\y7 nx σ (upd H a' (.ins C dx (vz "held" v fs))):=⟨p,_,dx,wg v0,rfl,hp,T.cl_Quick,T.n_Quick_held,by show 1 < 1000; decide,by rw [show vz "held" v (wg v0)=wg v from zz]; exact h⟩
theorem ybh (T:Txt K mg a) (hp:H p=some (.ins a.C_Quick dx [])) (h:y7 nx σ (upd H p (.ins a.C_Quick dx (wg v)))):∃ a' C dx fs,V.ref p=.ref a'/\H a'=some (.ins C dx fs)/\Cls K C/\yq K C "held"/\fs.length < 1000/\y7 nx σ (upd H a' (.ins C dx (vz "held" v fs))):=⟨p,_,dx,[],rfl,hp,T.cl_Quick,T.n_Quick_held,by show 0 < 1000; decide,by rw [show vz "held" v []=wg v from xj]; exact h⟩
theorem jl:(wg v0).lookup ("chance":Str)=none:=(yp (by decide +kernel) vx)
theorem ybi:(wg v0).lookup ("seen":Str)=none:=(yp (by decide +kernel) vx)
theorem ya4:(wg v0).lookup ("twin":Str)=none:=(yp (by decide +kernel) vx)
end
local macro_rules | `(tactic| walk_at "rd1")=>`(tactic| first
 | (with_reducible refine' ybm (by assumption) ?rdh ?_; (case rdh=>first | assumption | exact ya))
 | (with_reducible refine' ybk (by assumption) ?rdh ?_; (case rdh=>first | assumption | exact ya))
 | (with_reducible refine' ybh (by assumption) ?rdh ?_; (case rdh=>first | assumption | exact ya))
 | (with_reducible refine' mt_Quick___init__ ?rdh ?_; (case rdh=>first | assumption | exact ya))
 | (with_reducible refine' mt_Quick_chance ?rdh ?_; (case rdh=>first | assumption | exact ya))
 | (with_reducible refine' mt_Quick_seen ?rdh ?_; (case rdh=>first | assumption | exact ya))
 | (with_reducible refine' mt_Quick_twin ?rdh ?_; (case rdh=>first | assumption | exact ya))
)
def xf (v0 v1:V):List (Str × V):=[("last",v0),("length",v1)]
section
variable {H:Hp} {p dx:Addr} {v0 v1 v:V} {P:V->Prop} {R:Prop} {nx:St->Hp->Prop} {σ:St}
theorem yds (T:Txt K mg a) (hp:H p=some (.ins a.C_Run dx (xf v0 v1))) (h:P v0):∃ a' C dx fs v,V.ref p=.ref a'/\H a'=some (.ins C dx fs)/\Cls K C/\yq K C "last"/\fs.lookup ("last":Str)=some v/\P v:=⟨p,_,dx,_,_,rfl,hp,T.cl_Run,T.n_Run_last,zj,h⟩
theorem ydt (T:Txt K mg a) (hp:H p=some (.ins a.C_Run dx (xf v0 v1))) (h:y7 nx σ (upd H p (.ins a.C_Run dx (xf v v1)))):∃ a' C dx fs,V.ref p=.ref a'/\H a'=some (.ins C dx fs)/\Cls K C/\yq K C "last"/\fs.length < 1000/\y7 nx σ (upd H a' (.ins C dx (vz "last" v fs))):=⟨p,_,dx,xf v0 v1,rfl,hp,T.cl_Run,T.n_Run_last,by show 2 < 1000; decide,by rw [show vz "last" v (xf v0 v1)=xf v v1 from zz]; exact h⟩
theorem yd4 (T:Txt K mg a) (hp:H p=some (.ins a.C_Run dx [])) (h:y7 nx σ (upd H p (.ins a.C_Run dx (([("last",v)]:List (Str × V)))))):∃ a' C dx fs,V.ref p=.ref a'/\H a'=some (.ins C dx fs)/\Cls K C/\yq K C "last"/\fs.length < 1000/\y7 nx σ (upd H a' (.ins C dx (vz "last" v fs))):=⟨p,_,dx,[],rfl,hp,T.cl_Run,T.n_Run_last,by show 0 < 1000; decide,by rw [show vz "last" v []=([("last",v)]:List (Str × V)) from xj]; exact h⟩
theorem ya1 (T:Txt K mg a) (hp:H p=some (.ins a.C_Run dx (xf v0 v1))) (h:P v1):∃ a' C dx fs v,V.ref p=.ref a'/\H a'=some (.ins C dx fs)/\Cls K C/\yq K C "length"/\fs.lookup ("length":Str)=some v/\P v:=⟨p,_,dx,_,_,rfl,hp,T.cl_Run,T.n_Run_length,(yp (by decide +kernel) zj),h⟩
theorem ybc (T:Txt K mg a) (hp:H p=some (.ins a.C_Run dx (xf v0 v1))) (h:y7 nx σ (upd H p (.ins a.C_Run dx (xf v0 v)))):∃ a' C dx fs,V.ref p=.ref a'/\H a'=some (.ins C dx fs)/\Cls K C/\yq K C "length"/\fs.length < 1000/\y7 nx σ (upd H a' (.ins C dx (vz "length" v fs))):=⟨p,_,dx,xf v0 v1,rfl,hp,T.cl_Run,T.n_Run_length,by show 2 < 1000; decide,by rw [show vz "length" v (xf v0 v1)=xf v0 v from (v8 (by decide +kernel) zz)]; exact h⟩
theorem ya3 (T:Txt K mg a) (hp:H p=some (.ins a.C_Run dx [("last",v0)])) (h:y7 nx σ (upd H p (.ins a.C_Run dx (xf v0 v)))):∃ a' C dx fs,V.ref p=.ref a'/\H a'=some (.ins C dx fs)/\Cls K C/\yq K C "length"/\fs.length < 1000/\y7 nx σ (upd H a' (.ins C dx (vz "length" v fs))):=⟨p,_,dx,[("last",v0)],rfl,hp,T.cl_Run,T.n_Run_length,by show 1 < 1000; decide,by rw [show vz "length" v [("last",v0)]=xf v0 v from (v8 (by decide +kernel) xj)]; exact h⟩
theorem ybn:(xf v0 v1).lookup ("chance":Str)=none:=(yp (by decide +kernel) (yp (by decide +kernel) vx))
theorem ydx:(xf v0 v1).lookup ("seen":Str)=none:=(yp (by decide +kernel) (yp (by decide +kernel) vx))
theorem yd1:(xf v0 v1).lookup ("twin":Str)=none:=(yp (by decide +kernel) (yp (by decide +kernel) vx))
end
local macro_rules | `(tactic| walk_at "rd1")=>`(tactic| first
 | (with_reducible refine' yds (by assumption) ?rdh ?_; (case rdh=>first | assumption | exact ya))
 | (with_reducible refine' ydt (by assumption) ?rdh ?_; (case rdh=>first | assumption | exact ya))
 | (with_reducible refine' yd4 (by assumption) ?rdh ?_; (case rdh=>first | assumption | exact ya))
 | (with_reducible refine' ya1 (by assumption) ?rdh ?_; (case rdh=>first | assumption | exact ya))
 | (with_reducible refine' ybc (by assumption) ?rdh ?_; (case rdh=>first | assumption | exact ya))
 | (with_reducible refine' ya3 (by assumption) ?rdh ?_; (case rdh=>first | assumption | exact ya))
 | (with_reducible refine' mt_Run___init__ ?rdh ?_; (case rdh=>first | assumption | exact ya))
 | (with_reducible refine' mt_Run_chance ?rdh ?_; (case rdh=>first | assumption | exact ya))
 | (with_reducible refine' mt_Run_seen ?rdh ?_; (case rdh=>first | assumption | exact ya))
 | (with_reducible refine' mt_Run_twin ?rdh ?_; (case rdh=>first | assumption | exact ya))
)
def xl (v0 v1:V):List (Str × V):=[("look",v0),("slots",v1)]
section
variable {H:Hp} {p dx:Addr} {v0 v1 v:V} {P:V->Prop} {R:Prop} {nx:St->Hp->Prop} {σ:St}
theorem ycd (T:Txt K mg a) (hp:H p=some (.ins a.C_Book dx (xl v0 v1))) (h:P v0):∃ a' C dx fs v,V.ref p=.ref a'/\H a'=some (.ins C dx fs)/\Cls K C/\yq K C "look"/\fs.lookup ("look":Str)=some v/\P v:=⟨p,_,dx,_,_,rfl,hp,T.cl_Book,T.n_Book_look,zj,h⟩
theorem yb9 (T:Txt K mg a) (hp:H p=some (.ins a.C_Book dx [])) (h:y7 nx σ (upd H p (.ins a.C_Book dx (([("look",v)]:List (Str × V)))))):∃ a' C dx fs,V.ref p=.ref a'/\H a'=some (.ins C dx fs)/\Cls K C/\yq K C "look"/\fs.length < 1000/\y7 nx σ (upd H a' (.ins C dx (vz "look" v fs))):=⟨p,_,dx,[],rfl,hp,T.cl_Book,T.n_Book_look,by show 0 < 1000; decide,by rw [show vz "look" v []=([("look",v)]:List (Str × V)) from xj]; exact h⟩
theorem ybl (T:Txt K mg a) (hp:H p=some (.ins a.C_Book dx (xl v0 v1))) (h:P v1):∃ a' C dx fs v,V.ref p=.ref a'/\H a'=some (.ins C dx fs)/\Cls K C/\yq K C "slots"/\fs.lookup ("slots":Str)=some v/\P v:=⟨p,_,dx,_,_,rfl,hp,T.cl_Book,T.n_Book_slots,(yp (by decide +kernel) zj),h⟩
theorem ybg (T:Txt K mg a) (hp:H p=some (.ins a.C_Book dx (xl v0 v1))) (h:y7 nx σ (upd H p (.ins a.C_Book dx (xl v0 v)))):∃ a' C dx fs,V.ref p=.ref a'/\H a'=some (.ins C dx fs)/\Cls K C/\yq K C "slots"/\fs.length < 1000/\y7 nx σ (upd H a' (.ins C dx (vz "slots" v fs))):=⟨p,_,dx,xl v0 v1,rfl,hp,T.cl_Book,T.n_Book_slots,by show 2 < 1000; decide,by rw [show vz "slots" v (xl v0 v1)=xl v0 v from (v8 (by decide +kernel) zz)]; exact h⟩
theorem ya2 (T:Txt K mg a) (hp:H p=some (.ins a.C_Book dx [("look",v0)])) (h:y7 nx σ (upd H p (.ins a.C_Book dx (xl v0 v)))):∃ a' C dx fs,V.ref p=.ref a'/\H a'=some (.ins C dx fs)/\Cls K C/\yq K C "slots"/\fs.length < 1000/\y7 nx σ (upd H a' (.ins C dx (vz "slots" v fs))):=⟨p,_,dx,[("look",v0)],rfl,hp,T.cl_Book,T.n_Book_slots,by show 1 < 1000; decide,by rw [show vz "slots" v [("look",v0)]=xl v0 v from (v8 (by decide +kernel) xj)]; exact h⟩
theorem jo:(xl v0 v1).lookup ("slot_at":Str)=none:=(yp (by decide +kernel) (yp (by decide +kernel) vx))
theorem jn {C:Addr} (hp:H p=some (.ins C dx (xl v0 v1))) (h:R):∃ a dx fs,V.ref p=.ref a/\H a=some (.ins C dx fs)/\fs.lookup ("slot_at":Str)=none/\R:=⟨p,dx,_,rfl,hp,jo,h⟩
theorem ycb:(xl v0 v1).lookup ("twin":Str)=none:=(yp (by decide +kernel) (yp (by decide +kernel) vx))
theorem ycf {C:Addr} (hp:H p=some (.ins C dx (xl v0 v1))) (h:R):∃ a dx fs,V.ref p=.ref a/\H a=some (.ins C dx fs)/\fs.lookup ("twin":Str)=none/\R:=⟨p,dx,_,rfl,hp,ycb,h⟩
end
local macro_rules | `(tactic| walk_at "rd1")=>`(tactic| first
 | (with_reducible refine' ycd (by assumption) ?rdh ?_; (case rdh=>first | assumption | exact ya))
 | (with_reducible refine' st_Book_look (by assumption) ?rdh ?_; (case rdh=>first | assumption | exact ya))
 | (with_reducible refine' yb9 (by assumption) ?rdh ?_; (case rdh=>first | assumption | exact ya))
 | (with_reducible refine' ybl (by assumption) ?rdh ?_; (case rdh=>first | assumption | exact ya))
 | (with_reducible refine' ybg (by assumption) ?rdh ?_; (case rdh=>first | assumption | exact ya))
 | (with_reducible refine' ya2 (by assumption) ?rdh ?_; (case rdh=>first | assumption | exact ya))
 | (with_reducible refine' mt_Book___init__ ?rdh ?_; (case rdh=>first | assumption | exact ya))
 | (with_reducible refine' jn ?rdh ?_; (case rdh=>first | assumption | exact ya))
 | (with_reducible refine' ycf ?rdh ?_; (case rdh=>first | assumption | exact ya))
)
def yc3 (v0:V):List (Str × V):=[("kept",v0)]
section
variable {H:Hp} {p dx:Addr} {v0 v:V} {P:V->Prop} {R:Prop} {nx:St->Hp->Prop} {σ:St}
theorem yf2 (T:Txt K mg a) (hp:H p=some (.ins a.C_Mx dx (yc3 v0))) (h:P v0):∃ a' C dx fs v,V.ref p=.ref a'/\H a'=some (.ins C dx fs)/\Cls K C/\yq K C "kept"/\fs.lookup ("kept":Str)=some v/\P v:=⟨p,_,dx,_,_,rfl,hp,T.cl_Mx,T.n_Mx_kept,zj,h⟩
theorem yfd (T:Txt K mg a) (hp:H p=some (.ins a.C_Mx dx (yc3 v0))) (h:y7 nx σ (upd H p (.ins a.C_Mx dx (yc3 v)))):∃ a' C dx fs,V.ref p=.ref a'/\H a'=some (.ins C dx fs)/\Cls K C/\yq K C "kept"/\fs.length < 1000/\y7 nx σ (upd H a' (.ins C dx (vz "kept" v fs))):=⟨p,_,dx,yc3 v0,rfl,hp,T.cl_Mx,T.n_Mx_kept,by show 1 < 1000; decide,by rw [show vz "kept" v (yc3 v0)=yc3 v from zz]; exact h⟩
theorem yfg (T:Txt K mg a) (hp:H p=some (.ins a.C_Mx dx [])) (h:y7 nx σ (upd H p (.ins a.C_Mx dx (yc3 v)))):∃ a' C dx fs,V.ref p=.ref a'/\H a'=some (.ins C dx fs)/\Cls K C/\yq K C "kept"/\fs.length < 1000/\y7 nx σ (upd H a' (.ins C dx (vz "kept" v fs))):=⟨p,_,dx,[],rfl,hp,T.cl_Mx,T.n_Mx_kept,by show 0 < 1000; decide,by rw [show vz "kept" v []=yc3 v from xj]; exact h⟩
theorem ya8:(yc3 v0).lookup ("weights":Str)=none:=(yp (by decide +kernel) vx)
theorem ybe {C:Addr} (hp:H p=some (.ins C dx (yc3 v0))) (h:R):∃ a dx fs,V.ref p=.ref a/\H a=some (.ins C dx fs)/\fs.lookup ("weights":Str)=none/\R:=⟨p,dx,_,rfl,hp,ya8,h⟩
theorem ydf:(yc3 v0).lookup ("mixed":Str)=none:=(yp (by decide +kernel) vx)
theorem ydh {C:Addr} (hp:H p=some (.ins C dx (yc3 v0))) (h:R):∃ a dx fs,V.ref p=.ref a/\H a=some (.ins C dx fs)/\fs.lookup ("mixed":Str)=none/\R:=⟨p,dx,_,rfl,hp,ydf,h⟩
theorem ydv:(yc3 v0).lookup ("learn":Str)=none:=(yp (by decide +kernel) vx)
theorem ydl {C:Addr} (hp:H p=some (.ins C dx (yc3 v0))) (h:R):∃ a dx fs,V.ref p=.ref a/\H a=some (.ins C dx fs)/\fs.lookup ("learn":Str)=none/\R:=⟨p,dx,_,rfl,hp,ydv,h⟩
theorem yfz:(yc3 v0).lookup ("twin":Str)=none:=(yp (by decide +kernel) vx)
theorem yfr {C:Addr} (hp:H p=some (.ins C dx (yc3 v0))) (h:R):∃ a dx fs,V.ref p=.ref a/\H a=some (.ins C dx fs)/\fs.lookup ("twin":Str)=none/\R:=⟨p,dx,_,rfl,hp,yfz,h⟩
end
local macro_rules | `(tactic| walk_at "rd1")=>`(tactic| first
 | (with_reducible refine' yf2 (by assumption) ?rdh ?_; (case rdh=>first | assumption | exact ya))
 | (with_reducible refine' yfd (by assumption) ?rdh ?_; (case rdh=>first | assumption | exact ya))
 | (with_reducible refine' yfg (by assumption) ?rdh ?_; (case rdh=>first | assumption | exact ya))
 | (with_reducible refine' mt_Mx___init__ ?rdh ?_; (case rdh=>first | assumption | exact ya))
 | (with_reducible refine' ybe ?rdh ?_; (case rdh=>first | assumption | exact ya))
 | (with_reducible refine' ydh ?rdh ?_; (case rdh=>first | assumption | exact ya))
 | (with_reducible refine' ydl ?rdh ?_; (case rdh=>first | assumption | exact ya))
 | (with_reducible refine' yfr ?rdh ?_; (case rdh=>first | assumption | exact ya))
)
def vk (v0 v1 v2 v3 v4 v5:V):List (Str × V):=[("looks",v0),("books",v1),("mixer",v2),("ended",v3),("place",v4),("present",v5)]
section
variable {H:Hp} {p dx:Addr} {v0 v1 v2 v3 v4 v5 v:V} {P:V->Prop} {R:Prop} {nx:St->Hp->Prop} {σ:St}
theorem ydk (T:Txt K mg a) (hp:H p=some (.ins a.C_Ft dx (vk v0 v1 v2 v3 v4 v5))) (h:P v0):∃ a' C dx fs v,V.ref p=.ref a'/\H a'=some (.ins C dx fs)/\Cls K C/\yq K C "looks"/\fs.lookup ("looks":Str)=some v/\P v:=⟨p,_,dx,_,_,rfl,hp,T.cl_Ft,T.n_Ft_looks,zj,h⟩
theorem ydm (T:Txt K mg a) (hp:H p=some (.ins a.C_Ft dx [])) (h:y7 nx σ (upd H p (.ins a.C_Ft dx (([("looks",v)]:List (Str × V)))))):∃ a' C dx fs,V.ref p=.ref a'/\H a'=some (.ins C dx fs)/\Cls K C/\yq K C "looks"/\fs.length < 1000/\y7 nx σ (upd H a' (.ins C dx (vz "looks" v fs))):=⟨p,_,dx,[],rfl,hp,T.cl_Ft,T.n_Ft_looks,by show 0 < 1000; decide,by rw [show vz "looks" v []=([("looks",v)]:List (Str × V)) from xj]; exact h⟩
theorem yc7 (T:Txt K mg a) (hp:H p=some (.ins a.C_Ft dx (vk v0 v1 v2 v3 v4 v5))) (h:P v1):∃ a' C dx fs v,V.ref p=.ref a'/\H a'=some (.ins C dx fs)/\Cls K C/\yq K C "books"/\fs.lookup ("books":Str)=some v/\P v:=⟨p,_,dx,_,_,rfl,hp,T.cl_Ft,T.n_Ft_books,(yp (by decide +kernel) zj),h⟩
theorem ydn (T:Txt K mg a) (hp:H p=some (.ins a.C_Ft dx (vk v0 v1 v2 v3 v4 v5))) (h:y7 nx σ (upd H p (.ins a.C_Ft dx (vk v0 v v2 v3 v4 v5)))):∃ a' C dx fs,V.ref p=.ref a'/\H a'=some (.ins C dx fs)/\Cls K C/\yq K C "books"/\fs.length < 1000/\y7 nx σ (upd H a' (.ins C dx (vz "books" v fs))):=⟨p,_,dx,vk v0 v1 v2 v3 v4 v5,rfl,hp,T.cl_Ft,T.n_Ft_books,by show 6 < 1000; decide,by rw [show vz "books" v (vk v0 v1 v2 v3 v4 v5)=vk v0 v v2 v3 v4 v5 from (v8 (by decide +kernel) zz)]; exact h⟩
theorem yd0 (T:Txt K mg a) (hp:H p=some (.ins a.C_Ft dx [("looks",v0)])) (h:y7 nx σ (upd H p (.ins a.C_Ft dx (([("looks",v0),("books",v)]:List (Str × V)))))):∃ a' C dx fs,V.ref p=.ref a'/\H a'=some (.ins C dx fs)/\Cls K C/\yq K C "books"/\fs.length < 1000/\y7 nx σ (upd H a' (.ins C dx (vz "books" v fs))):=⟨p,_,dx,[("looks",v0)],rfl,hp,T.cl_Ft,T.n_Ft_books,by show 1 < 1000; decide,by rw [show vz "books" v [("looks",v0)]=([("looks",v0),("books",v)]:List (Str × V)) from (v8 (by decide +kernel) xj)]; exact h⟩
theorem ydp (T:Txt K mg a) (hp:H p=some (.ins a.C_Ft dx (vk v0 v1 v2 v3 v4 v5))) (h:P v2):∃ a' C dx fs v,V.ref p=.ref a'/\H a'=some (.ins C dx fs)/\Cls K C/\yq K C "mixer"/\fs.lookup ("mixer":Str)=some v/\P v:=⟨p,_,dx,_,_,rfl,hp,T.cl_Ft,T.n_Ft_mixer,(yp (by decide +kernel) (yp (by decide +kernel) zj)),h⟩
theorem ydb (T:Txt K mg a) (hp:H p=some (.ins a.C_Ft dx (vk v0 v1 v2 v3 v4 v5))) (h:y7 nx σ (upd H p (.ins a.C_Ft dx (vk v0 v1 v v3 v4 v5)))):∃ a' C dx fs,V.ref p=.ref a'/\H a'=some (.ins C dx fs)/\Cls K C/\yq K C "mixer"/\fs.length < 1000/\y7 nx σ (upd H a' (.ins C dx (vz "mixer" v fs))):=⟨p,_,dx,vk v0 v1 v2 v3 v4 v5,rfl,hp,T.cl_Ft,T.n_Ft_mixer,by show 6 < 1000; decide,by rw [show vz "mixer" v (vk v0 v1 v2 v3 v4 v5)=vk v0 v1 v v3 v4 v5 from (v8 (by decide +kernel) (v8 (by decide +kernel) zz))]; exact h⟩
theorem yc6 (T:Txt K mg a) (hp:H p=some (.ins a.C_Ft dx [("looks",v0),("books",v1)])) (h:y7 nx σ (upd H p (.ins a.C_Ft dx (([("looks",v0),("books",v1),("mixer",v)]:List (Str × V)))))):∃ a' C dx fs,V.ref p=.ref a'/\H a'=some (.ins C dx fs)/\Cls K C/\yq K C "mixer"/\fs.length < 1000/\y7 nx σ (upd H a' (.ins C dx (vz "mixer" v fs))):=⟨p,_,dx,[("looks",v0),("books",v1)],rfl,hp,T.cl_Ft,T.n_Ft_mixer,by show 2 < 1000; decide,by rw [show vz "mixer" v [("looks",v0),("books",v1)]=([("looks",v0),("books",v1),("mixer",v)]:List (Str × V)) from (v8 (by decide +kernel) (v8 (by decide +kernel) xj))]; exact h⟩
theorem yd3 (T:Txt K mg a) (hp:H p=some (.ins a.C_Ft dx (vk v0 v1 v2 v3 v4 v5))) (h:P v3):∃ a' C dx fs v,V.ref p=.ref a'/\H a'=some (.ins C dx fs)/\Cls K C/\yq K C "ended"/\fs.lookup ("ended":Str)=some v/\P v:=⟨p,_,dx,_,_,rfl,hp,T.cl_Ft,T.n_Ft_ended,(yp (by decide +kernel) (yp (by decide +kernel) (yp (by decide +kernel) zj))),h⟩
theorem yc5 (T:Txt K mg a) (hp:H p=some (.ins a.C_Ft dx (vk v0 v1 v2 v3 v4 v5))) (h:y7 nx σ (upd H p (.ins a.C_Ft dx (vk v0 v1 v2 v v4 v5)))):∃ a' C dx fs,V.ref p=.ref a'/\H a'=some (.ins C dx fs)/\Cls K C/\yq K C "ended"/\fs.length < 1000/\y7 nx σ (upd H a' (.ins C dx (vz "ended" v fs))):=⟨p,_,dx,vk v0 v1 v2 v3 v4 v5,rfl,hp,T.cl_Ft,T.n_Ft_ended,by show 6 < 1000; decide,by rw [show vz "ended" v (vk v0 v1 v2 v3 v4 v5)=vk v0 v1 v2 v v4 v5 from (v8 (by decide +kernel) (v8 (by decide +kernel) (v8 (by decide +kernel) zz)))]; exact h⟩
theorem ydr (T:Txt K mg a) (hp:H p=some (.ins a.C_Ft dx [("looks",v0),("books",v1),("mixer",v2)])) (h:y7 nx σ (upd H p (.ins a.C_Ft dx (([("looks",v0),("books",v1),("mixer",v2),("ended",v)]:List (Str × V)))))):∃ a' C dx fs,V.ref p=.ref a'/\H a'=some (.ins C dx fs)/\Cls K C/\yq K C "ended"/\fs.length < 1000/\y7 nx σ (upd H a' (.ins C dx (vz "ended" v fs))):=⟨p,_,dx,[("looks",v0),("books",v1),("mixer",v2)],rfl,hp,T.cl_Ft,T.n_Ft_ended,by show 3 < 1000; decide,by rw [show vz "ended" v [("looks",v0),("books",v1),("mixer",v2)]=([("looks",v0),("books",v1),("mixer",v2),("ended",v)]:List (Str × V)) from (v8 (by decide +kernel) (v8 (by decide +kernel) (v8 (by decide +kernel) xj)))]; exact h⟩
theorem ydc (T:Txt K mg a) (hp:H p=some (.ins a.C_Ft dx (vk v0 v1 v2 v3 v4 v5))) (h:P v4):∃ a' C dx fs v,V.ref p=.ref a'/\H a'=some (.ins C dx fs)/\Cls K C/\yq K C "place"/\fs.lookup ("place":Str)=some v/\P v:=⟨p,_,dx,_,_,rfl,hp,T.cl_Ft,T.n_Ft_place,(yp (by decide +kernel) (yp (by decide +kernel) (yp (by decide +kernel) (yp (by decide +kernel) zj)))),h⟩
theorem ydi (T:Txt K mg a) (hp:H p=some (.ins a.C_Ft dx (vk v0 v1 v2 v3 v4 v5))) (h:y7 nx σ (upd H p (.ins a.C_Ft dx (vk v0 v1 v2 v3 v v5)))):∃ a' C dx fs,V.ref p=.ref a'/\H a'=some (.ins C dx fs)/\Cls K C/\yq K C "place"/\fs.length < 1000/\y7 nx σ (upd H a' (.ins C dx (vz "place" v fs))):=⟨p,_,dx,vk v0 v1 v2 v3 v4 v5,rfl,hp,T.cl_Ft,T.n_Ft_place,by show 6 < 1000; decide,by rw [show vz "place" v (vk v0 v1 v2 v3 v4 v5)=vk v0 v1 v2 v3 v v5 from (v8 (by decide +kernel) (v8 (by decide +kernel) (v8 (by decide +kernel) (v8 (by decide +kernel) zz))))]; exact h⟩
theorem ydd (T:Txt K mg a) (hp:H p=some (.ins a.C_Ft dx [("looks",v0),("books",v1),("mixer",v2),("ended",v3)])) (h:y7 nx σ (upd H p (.ins a.C_Ft dx (([("looks",v0),("books",v1),("mixer",v2),("ended",v3),("place",v)]:List (Str × V)))))):∃ a' C dx fs,V.ref p=.ref a'/\H a'=some (.ins C dx fs)/\Cls K C/\yq K C "place"/\fs.length < 1000/\y7 nx σ (upd H a' (.ins C dx (vz "place" v fs))):=⟨p,_,dx,[("looks",v0),("books",v1),("mixer",v2),("ended",v3)],rfl,hp,T.cl_Ft,T.n_Ft_place,by show 4 < 1000; decide,by rw [show vz "place" v [("looks",v0),("books",v1),("mixer",v2),("ended",v3)]=([("looks",v0),("books",v1),("mixer",v2),("ended",v3),("place",v)]:List (Str × V)) from (v8 (by decide +kernel) (v8 (by decide +kernel) (v8 (by decide +kernel) (v8 (by decide +kernel) xj))))]; exact h⟩
theorem ya6 (T:Txt K mg a) (hp:H p=some (.ins a.C_Ft dx (vk v0 v1 v2 v3 v4 v5))) (h:P v5):∃ a' C dx fs v,V.ref p=.ref a'/\H a'=some (.ins C dx fs)/\Cls K C/\yq K C "present"/\fs.lookup ("present":Str)=some v/\P v:=⟨p,_,dx,_,_,rfl,hp,T.cl_Ft,T.n_Ft_present,(yp (by decide +kernel) (yp (by decide +kernel) (yp (by decide +kernel) (yp (by decide +kernel) (yp (by decide +kernel) zj))))),h⟩
theorem yba (T:Txt K mg a) (hp:H p=some (.ins a.C_Ft dx (vk v0 v1 v2 v3 v4 v5))) (h:y7 nx σ (upd H p (.ins a.C_Ft dx (vk v0 v1 v2 v3 v4 v)))):∃ a' C dx fs,V.ref p=.ref a'/\H a'=some (.ins C dx fs)/\Cls K C/\yq K C "present"/\fs.length < 1000/\y7 nx σ (upd H a' (.ins C dx (vz "present" v fs))):=⟨p,_,dx,vk v0 v1 v2 v3 v4 v5,rfl,hp,T.cl_Ft,T.n_Ft_present,by show 6 < 1000; decide,by rw [show vz "present" v (vk v0 v1 v2 v3 v4 v5)=vk v0 v1 v2 v3 v4 v from (v8 (by decide +kernel) (v8 (by decide +kernel) (v8 (by decide +kernel) (v8 (by decide +kernel) (v8 (by decide +kernel) zz)))))]; exact h⟩
theorem ya7 (T:Txt K mg a) (hp:H p=some (.ins a.C_Ft dx [("looks",v0),("books",v1),("mixer",v2),("ended",v3),("place",v4)])) (h:y7 nx σ (upd H p (.ins a.C_Ft dx (vk v0 v1 v2 v3 v4 v)))):∃ a' C dx fs,V.ref p=.ref a'/\H a'=some (.ins C dx fs)/\Cls K C/\yq K C "present"/\fs.length < 1000/\y7 nx σ (upd H a' (.ins C dx (vz "present" v fs))):=⟨p,_,dx,[("looks",v0),("books",v1),("mixer",v2),("ended",v3),("place",v4)],rfl,hp,T.cl_Ft,T.n_Ft_present,by show 5 < 1000; decide,by rw [show vz "present" v [("looks",v0),("books",v1),("mixer",v2),("ended",v3),("place",v4)]=vk v0 v1 v2 v3 v4 v from (v8 (by decide +kernel) (v8 (by decide +kernel) (v8 (by decide +kernel) (v8 (by decide +kernel) (v8 (by decide +kernel) xj)))))]; exact h⟩
theorem ycg:(vk v0 v1 v2 v3 v4 v5).lookup ("arrive":Str)=none:=(yp (by decide +kernel) (yp (by decide +kernel) (yp (by decide +kernel) (yp (by decide +kernel) (yp (by decide +kernel) (yp (by decide +kernel) vx))))))
theorem yb7 {C:Addr} (hp:H p=some (.ins C dx (vk v0 v1 v2 v3 v4 v5))) (h:R):∃ a dx fs,V.ref p=.ref a/\H a=some (.ins C dx fs)/\fs.lookup ("arrive":Str)=none/\R:=⟨p,dx,_,rfl,hp,ycg,h⟩
theorem ya9:(vk v0 v1 v2 v3 v4 v5).lookup ("chances":Str)=none:=(yp (by decide +kernel) (yp (by decide +kernel) (yp (by decide +kernel) (yp (by decide +kernel) (yp (by decide +kernel) (yp (by decide +kernel) vx))))))
theorem ybf {C:Addr} (hp:H p=some (.ins C dx (vk v0 v1 v2 v3 v4 v5))) (h:R):∃ a dx fs,V.ref p=.ref a/\H a=some (.ins C dx fs)/\fs.lookup ("chances":Str)=none/\R:=⟨p,dx,_,rfl,hp,ya9,h⟩
theorem ycj:(vk v0 v1 v2 v3 v4 v5).lookup ("chance":Str)=none:=(yp (by decide +kernel) (yp (by decide +kernel) (yp (by decide +kernel) (yp (by decide +kernel) (yp (by decide +kernel) (yp (by decide +kernel) vx))))))
theorem yca {C:Addr} (hp:H p=some (.ins C dx (vk v0 v1 v2 v3 v4 v5))) (h:R):∃ a dx fs,V.ref p=.ref a/\H a=some (.ins C dx fs)/\fs.lookup ("chance":Str)=none/\R:=⟨p,dx,_,rfl,hp,ycj,h⟩
theorem ybb:(vk v0 v1 v2 v3 v4 v5).lookup ("weights":Str)=none:=(yp (by decide +kernel) (yp (by decide +kernel) (yp (by decide +kernel) (yp (by decide +kernel) (yp (by decide +kernel) (yp (by decide +kernel) vx))))))
theorem ybj {C:Addr} (hp:H p=some (.ins C dx (vk v0 v1 v2 v3 v4 v5))) (h:R):∃ a dx fs,V.ref p=.ref a/\H a=some (.ins C dx fs)/\fs.lookup ("weights":Str)=none/\R:=⟨p,dx,_,rfl,hp,ybb,h⟩
theorem yfh:(vk v0 v1 v2 v3 v4 v5).lookup ("node":Str)=none:=(yp (by decide +kernel) (yp (by decide +kernel) (yp (by decide +kernel) (yp (by decide +kernel) (yp (by decide +kernel) (yp (by decide +kernel) vx))))))
theorem yfc {C:Addr} (hp:H p=some (.ins C dx (vk v0 v1 v2 v3 v4 v5))) (h:R):∃ a dx fs,V.ref p=.ref a/\H a=some (.ins C dx fs)/\fs.lookup ("node":Str)=none/\R:=⟨p,dx,_,rfl,hp,yfh,h⟩
theorem ydz:(vk v0 v1 v2 v3 v4 v5).lookup ("signs":Str)=none:=(yp (by decide +kernel) (yp (by decide +kernel) (yp (by decide +kernel) (yp (by decide +kernel) (yp (by decide +kernel) (yp (by decide +kernel) vx))))))
theorem yda {C:Addr} (hp:H p=some (.ins C dx (vk v0 v1 v2 v3 v4 v5))) (h:R):∃ a dx fs,V.ref p=.ref a/\H a=some (.ins C dx fs)/\fs.lookup ("signs":Str)=none/\R:=⟨p,dx,_,rfl,hp,ydz,h⟩
theorem ygj:(vk v0 v1 v2 v3 v4 v5).lookup ("see":Str)=none:=(yp (by decide +kernel) (yp (by decide +kernel) (yp (by decide +kernel) (yp (by decide +kernel) (yp (by decide +kernel) (yp (by decide +kernel) vx))))))
theorem ygo {C:Addr} (hp:H p=some (.ins C dx (vk v0 v1 v2 v3 v4 v5))) (h:R):∃ a dx fs,V.ref p=.ref a/\H a=some (.ins C dx fs)/\fs.lookup ("see":Str)=none/\R:=⟨p,dx,_,rfl,hp,ygj,h⟩
theorem yfs:(vk v0 v1 v2 v3 v4 v5).lookup ("step":Str)=none:=(yp (by decide +kernel) (yp (by decide +kernel) (yp (by decide +kernel) (yp (by decide +kernel) (yp (by decide +kernel) (yp (by decide +kernel) vx))))))
theorem yfy {C:Addr} (hp:H p=some (.ins C dx (vk v0 v1 v2 v3 v4 v5))) (h:R):∃ a dx fs,V.ref p=.ref a/\H a=some (.ins C dx fs)/\fs.lookup ("step":Str)=none/\R:=⟨p,dx,_,rfl,hp,yfs,h⟩
theorem u7:(vk v0 v1 v2 v3 v4 v5).lookup ("step_in_sign":Str)=none:=(yp (by decide +kernel) (yp (by decide +kernel) (yp (by decide +kernel) (yp (by decide +kernel) (yp (by decide +kernel) (yp (by decide +kernel) vx))))))
theorem u8 {C:Addr} (hp:H p=some (.ins C dx (vk v0 v1 v2 v3 v4 v5))) (h:R):∃ a dx fs,V.ref p=.ref a/\H a=some (.ins C dx fs)/\fs.lookup ("step_in_sign":Str)=none/\R:=⟨p,dx,_,rfl,hp,u7,h⟩
theorem yfi:(vk v0 v1 v2 v3 v4 v5).lookup ("fork":Str)=none:=(yp (by decide +kernel) (yp (by decide +kernel) (yp (by decide +kernel) (yp (by decide +kernel) (yp (by decide +kernel) (yp (by decide +kernel) vx))))))
theorem yft {C:Addr} (hp:H p=some (.ins C dx (vk v0 v1 v2 v3 v4 v5))) (h:R):∃ a dx fs,V.ref p=.ref a/\H a=some (.ins C dx fs)/\fs.lookup ("fork":Str)=none/\R:=⟨p,dx,_,rfl,hp,yfi,h⟩
theorem ysf (T:Txt K mg a) (hp:H p=some (.ins a.C_Ft dx (vk v0 v1 v2 v3 v4 v5))):xn K H (.ref p) (.ref a.C_Ft):=.ins hp T.cl_Ft T.ica_Ft T.igg T.itk T.imo_Ft
end
local macro_rules | `(tactic| walk_at "rd1")=>`(tactic| first
 | (with_reducible refine' ydk (by assumption) ?rdh ?_; (case rdh=>first | assumption | exact ya))
 | (with_reducible refine' st_Ft_looks (by assumption) ?rdh ?_; (case rdh=>first | assumption | exact ya))
 | (with_reducible refine' ydm (by assumption) ?rdh ?_; (case rdh=>first | assumption | exact ya))
 | (with_reducible refine' yc7 (by assumption) ?rdh ?_; (case rdh=>first | assumption | exact ya))
 | (with_reducible refine' ydn (by assumption) ?rdh ?_; (case rdh=>first | assumption | exact ya))
 | (with_reducible refine' yd0 (by assumption) ?rdh ?_; (case rdh=>first | assumption | exact ya))
 | (with_reducible refine' ydp (by assumption) ?rdh ?_; (case rdh=>first | assumption | exact ya))
 | (with_reducible refine' ydb (by assumption) ?rdh ?_; (case rdh=>first | assumption | exact ya))
 | (with_reducible refine' yc6 (by assumption) ?rdh ?_; (case rdh=>first | assumption | exact ya))
 | (with_reducible refine' yd3 (by assumption) ?rdh ?_; (case rdh=>first | assumption | exact ya))
 | (with_reducible refine' yc5 (by assumption) ?rdh ?_; (case rdh=>first | assumption | exact ya))
 | (with_reducible refine' ydr (by assumption) ?rdh ?_; (case rdh=>first | assumption | exact ya))
 | (with_reducible refine' ydc (by assumption) ?rdh ?_; (case rdh=>first | assumption | exact ya))
 | (with_reducible refine' ydi (by assumption) ?rdh ?_; (case rdh=>first | assumption | exact ya))
 | (with_reducible refine' ydd (by assumption) ?rdh ?_; (case rdh=>first | assumption | exact ya))
 | (with_reducible refine' ya6 (by assumption) ?rdh ?_; (case rdh=>first | assumption | exact ya))
 | (with_reducible refine' yba (by assumption) ?rdh ?_; (case rdh=>first | assumption | exact ya))
 | (with_reducible refine' ya7 (by assumption) ?rdh ?_; (case rdh=>first | assumption | exact ya))
 | (with_reducible refine' mt_Ft___init__ ?rdh ?_; (case rdh=>first | assumption | exact ya))
 | (with_reducible refine' yb7 ?rdh ?_; (case rdh=>first | assumption | exact ya))
 | (with_reducible refine' ybf ?rdh ?_; (case rdh=>first | assumption | exact ya))
 | (with_reducible refine' yca ?rdh ?_; (case rdh=>first | assumption | exact ya))
 | (with_reducible refine' ybj ?rdh ?_; (case rdh=>first | assumption | exact ya))
 | (with_reducible refine' yfc ?rdh ?_; (case rdh=>first | assumption | exact ya))
 | (with_reducible refine' yda ?rdh ?_; (case rdh=>first | assumption | exact ya))
 | (with_reducible refine' ygo ?rdh ?_; (case rdh=>first | assumption | exact ya))
 | (with_reducible refine' yfy ?rdh ?_; (case rdh=>first | assumption | exact ya))
 | (with_reducible refine' u8 ?rdh ?_; (case rdh=>first | assumption | exact ya))
 | (with_reducible refine' yft ?rdh ?_; (case rdh=>first | assumption | exact ya))
)
open SpanMath
def But (p:Addr) (H H':Hp):Prop:=∀ b o,H b=some o->b≠p->H' b=some o
theorem But.of {p:Addr} {H H':Hp} (s:y6 H H'):But p H H':=fun b o h _=>s b o h
theorem But.trans {p:Addr} {H H1 H2:Hp} (x:But p H H1) (y:But p H1 H2):But p H H2:=fun b o h n=>y b o (x b o h n) n
theorem But.upd {p:Addr} {H:Hp} {o:HO}:But p H (L2.upd H p o):=fun b u h n=>by rw [yi n]; exact h
theorem zn {x:V} (h:yac x=true):∃ i,x=.int i:=by
 cases x with
 | int i=>exact ⟨i,rfl⟩
 | _=>cases h
def jf:V->Bool
 | .int i=>decide (0 <= i) && decide (i <= 1)
 | _=>false
def chV:V->Bool
 | .int i=>decide (32768 <= i) && decide (i <= 16744448)
 | _=>false
inductive Slt where
 | ev (n o:Int)
 | qk (h:Int)
 | rn (l n:Int)
def Slt.ok:Slt->Prop
 | .ev n o=>0 <= n/\0 <= o/\n+o <= 255
 | .qk h=>32768 <= h/\h <= 16744448
 | .rn l n=>0 <= l/\l <= 1/\0 <= n/\n <= 255
def zv (n:Int):Int:=(2 * n+1) * 16777216 / (2 * n+2)
def Slt.due:Slt->Int
 | .ev n o=>(2 * o+1) * 16777216 / (2 * (n+o)+2)
 | .qk h=>h
 | .rn l n=>if l=1 then zv n else 16777216 - zv n
def yd9 (n o:Int):Slt:=if 255 < n+o then .ev ((n+1) / 2) ((o+1) / 2) else .ev n o
def ye3 (m:Int):Int:=if 16744448 < (if 32768 > m then 32768 else m) then 16744448 else (if 32768 > m then 32768 else m)
def Slt.see:Slt->Int->Slt
 | .ev n o,b=>if b=1 then yd9 n (o+1) else yd9 (n+1) o
 | .qk h,b=>.qk (ye3 (if b=1 then h+(16777216 - h) / 16 else h - h / 16))
 | .rn l n,b=>if b=l then .rn l (if 255 < n+1 then 255 else n+1) else .rn b 1
def oS (a:Ads) (dx:Addr):Slt->HO
 | .ev n o=>.ins a.C_Even dx (wd (.int n) (.int o))
 | .qk h=>.ins a.C_Quick dx (wg (.int h))
 | .rn l n=>.ins a.C_Run dx (xf (.int l) (.int n))
theorem yeg {n o:Int} (h1:0 <= n) (h2:0 <= o) (h3:n+o <= 256):(yd9 n o).ok:=by
 unfold yd9
 split
 ·exact ⟨by omega,by omega,by omega⟩
 ·exact ⟨h1,h2,by omega⟩
theorem yhk (m:Int):32768 <= ye3 m/\ye3 m <= 16744448:=by
 unfold ye3
 split <;> split <;> omega
theorem Slt.see_ok {s:Slt} {b:Int} (h:s.ok) (b0:0 <= b) (b1:b <= 1):(s.see b).ok:=by
 cases s with
 | ev n o =>
  obtain ⟨h1,h2,h3⟩:=h
  unfold Slt.see
  dsimp only
  split
  ·exact yeg h1 (by omega) (by omega)
  ·exact yeg (by omega) h2 (by omega)
 | qk h0=>exact yhk _
 | rn l n =>
  obtain ⟨h1,h2,h3,h4⟩:=h
  unfold Slt.see
  dsimp only
  split
  ·refine ⟨h1,h2,?_,?_⟩ <;> split <;> omega
  ·exact ⟨b0,b1,by decide,by decide⟩
def kdS:Fin 3->Str
 | 0=>"even"
 | 1=>"quick"
 | 2=>"run"
def kd0:Fin 3->Slt
 | 0=>.ev 0 0
 | 1=>.qk 8388608
 | 2=>.rn 1 0
theorem ypj (k:Fin 3):(kd0 k).ok:=by
 match k with
 | 0=>exact ⟨by decide,by decide,by decide⟩
 | 1=>exact ⟨by decide,by decide⟩
 | 2=>exact ⟨by decide,by decide,by decide,by decide⟩
theorem yo5 {b:Int} (b0:0 <= b) (b1:b <= 1):jf (.int b)=true:=by
 simp only [jf,Bool.and_eq_true,decide_eq_true_eq]
 omega
theorem ye4 {x:V} (h:jf x=true):∃ b:Int,x=.int b/\0 <= b/\b <= 1:=by
 cases x with
 | int i =>
  simp only [jf,Bool.and_eq_true,decide_eq_true_eq] at h
  exact ⟨i,rfl,h.1,h.2⟩
 | _=>cases h
def ybs (C:Addr) (F:List (Str × V)):Sp:=fun vs H Q _=>∃ (p dx:Addr),vs=[.ref p]/\H p=some (.ins C dx [])/\∀ H',H' p=some (.ins C dx F)->But p H H'->Q .non H'
def xa (o:Addr->Slt->HO) (g:Slt->Prop):Sp:=fun vs H Q _=>∃ (p dx:Addr) (s:Slt),vs=[.ref p]/\g s/\s.ok/\H p=some (o dx s)/\Q (.int s.due) H
def uj (K:W.Frag) (o:Addr->Slt->HO) (g:Slt->Prop) (C:Addr):Sp:=fun vs H Q E=>∃ (p dx:Addr) (s:Slt) (x:V) (n:String),vs=[.ref p,x]/\g s/\s.ok/\H p=some (o dx s)/\xn K H x (.type n) /\
 (∀ b:Int,x=.int b->0 <= b->b <= 1->∀ H',H' p=some (o dx (s.see b))->But p H H'->Q .non H')/\(jf x=false->E (.ref C) none H)
def yow:Slt->Prop
 | .ev _ _=>True
 | _=>False
def yos:Slt->Prop
 | .qk _=>True
 | _=>False
def you:Slt->Prop
 | .rn _ _=>True
 | _=>False
theorem yd5 {n:Nat} (h:n <= 16000000):n <= sizeLine:=Nat.le_trans h (by decide)
theorem vf {n:Nat} (h:n <= 16000000):n < sizeLine:=Nat.lt_of_le_of_lt h (by decide)
theorem uo {ns:List Int} {i:Nat} {x:V} (h:(ns.map V.int)[i]?=some x):∃ n,x=.int n/\n∈ns/\ns[i]?=some n/\i < ns.length:=by
 rw [List.getElem?_map] at h
 cases e:ns[i]? with
 | none=>rw [e] at h; cases h
 | some n =>
  rw [e] at h
  have hi:i < ns.length:=by
   rcases Nat.lt_or_ge i ns.length with q | q
   ·exact q
   ·rw [List.getElem?_eq_none q] at e; cases e
  exact ⟨n,(Option.some.inj h).symm,List.mem_of_getElem? e,rfl,hi⟩
theorem yhe (c:Int) (n:Nat):(List.replicate n [V.int c]).flatten=(List.replicate n c).map V.int:=by
 induction n with
 | zero=>rfl
 | succ n ih=>rw [List.replicate_succ,List.flatten_cons,ih,List.replicate_succ]; rfl
def ylc (sg:List Int) (p:Int):Int:=if p <= sg.length then (atI sg (-p)).getD 256 else 256
theorem yl1 {α β:Type} (f:α->β) (xs:List α) (i:Int):atI (xs.map f) i=(atI xs i).map f:=by
 unfold atI
 rw [List.length_map]
 cases ixN xs.length i with
 | none=>rfl
 | some j =>
  show (xs.map f)[j]?=(xs[j]?).map f
  rw [List.getElem?_map]
theorem yiq {sg:List Int} {p:Int} (h1:1 <= p) (h2:p <= sg.length):∃ c,atI sg (-p)=some c/\c∈sg:=by
 unfold atI ixN
 rw [if_neg (by omega)]
 by_cases h:-(sg.length:Int) <= -p
 ·rw [if_pos (by omega)]
  have hj:((-p+(sg.length:Int)).toNat) < sg.length:=by omega
  exact ⟨_,List.getElem?_eq_getElem hj,List.getElem_mem hj⟩
 ·omega
def Slt.kind:Slt->Fin 3
 | .ev _ _=>0
 | .qk _=>1
 | .rn _ _=>2
theorem yjj (s:Slt) (b:Int):(s.see b).kind=s.kind:=by
 cases s with
 | ev n o =>
  unfold Slt.see yd9
  dsimp only
  split <;> split <;> rfl
 | qk h=>rfl
 | rn l n =>
  unfold Slt.see
  dsimp only
  split <;> rfl
theorem yi4 (k:Fin 3):(kd0 k).kind=k:=by
 match k with
 | 0=>rfl
 | 1=>rfl
 | 2=>rfl
theorem zw (a:Ads) (dx:Addr) (s:Slt):∃ C fs,oS a dx s=.ins C dx fs:=by
 cases s <;> exact ⟨_,_,rfl⟩
theorem yla {s:Slt} (h:s.ok):32768 <= s.due/\s.due <= 16744448:=by
 cases s with
 | ev n o =>
  obtain ⟨h1,h2,h3⟩:=h
  unfold Slt.due
  dsimp only
  have hd:(0:Int) < 2 * (n+o)+2:=by omega
  constructor
  ·rw [Int.le_ediv_iff_mul_le hd]
   omega
  ·have:(2 * o+1) * 16777216 / (2 * (n+o)+2) < 16744449:=by
    rw [Int.ediv_lt_iff_lt_mul hd]
    omega
   omega
 | qk h0=>exact h
 | rn l n =>
  obtain ⟨h1,h2,h3,h4⟩:=h
  have hd:(0:Int) < 2 * n+2:=by omega
  have g1:8388608 <= zv n:=by
   unfold zv
   rw [Int.le_ediv_iff_mul_le hd]
   omega
  have g2:zv n < 16744449:=by
   unfold zv
   rw [Int.ediv_lt_iff_lt_mul hd]
   omega
  unfold Slt.due
  dsimp only
  split <;> omega
theorem ygi {p dx:Addr} {s:Slt} {ta:TE} {σ:St} {H:Hp} {Q:VK} {E1 E2 E3:XK} (hta:∀ Q':VK,Q' (.ref p) H->ta σ H Q') (hp:H p=some (oS a dx s)) (ok:s.ok) (h:Q (.int s.due) H) :
  yjx (yam a.C_Even "chance" (xa (oS a) yow) [] E1 ta yil) (yjx (yam a.C_Quick "chance" (xa (oS a) yos) [] E2 ta yil) (yam a.C_Run "chance" (xa (oS a) you) [] E3 ta yil)) σ H Q:=by
 cases s with
 | ev n o=>exact yaw (yaa (hta _ ⟨p,dx,_,rfl,hp,yaj,p,dx,.ev n o,rfl,trivial,ok,hp,h⟩))
 | qk h0=>exact zh (yaw (yaa (hta _ ⟨p,dx,_,rfl,hp,jl,p,dx,.qk h0,rfl,trivial,ok,hp,h⟩)))
 | rn l n=>exact zh (zh (yaa (hta _ ⟨p,dx,_,rfl,hp,ybn,p,dx,.rn l n,rfl,trivial,ok,hp,h⟩)))
theorem ymg {p dx:Addr} {s:Slt} {ta:TE} {t:TA} {σ:St} {H:Hp} {Q:VK} {E1 E2 E3:St->XK} {x:V} {n:String} (hta:∀ Q':VK,Q' (.ref p) H->ta σ H Q') (ht:∀ Q':List V->Hp->Prop,Q' [x] H->t σ H Q') (hp:H p=some (oS a dx s)) (ok:s.ok) (ty:xn K H x (.type n))
  (h:∀ b:Int,x=.int b->0 <= b->b <= 1->∀ H',H' p=some (oS a dx (s.see b))->But p H H'->Q .non H') (h1:jf x=false->E1 σ (.ref a.C_NB) none H) (h2:jf x=false->E2 σ (.ref a.C_NB) none H) (h3:jf x=false->E3 σ (.ref a.C_NB) none H) :
  yjx (ycz a.C_Even "seen" (uj K (oS a) yow a.C_NB) [] E1 ta t) (yjx (ycz a.C_Quick "seen" (uj K (oS a) yos a.C_NB) [] E2 ta t) (ycz a.C_Run "seen" (uj K (oS a) you a.C_NB) [] E3 ta t)) σ H Q:=by
 cases s with
 | ev n o=>exact yaw (ybw (hta _ ⟨p,dx,_,rfl,hp,yck,ht _ ⟨p,dx,.ev n o,x,_,rfl,trivial,ok,hp,ty,h,h1⟩⟩))
 | qk h0=>exact zh (yaw (ybw (hta _ ⟨p,dx,_,rfl,hp,ybi,ht _ ⟨p,dx,.qk h0,x,_,rfl,trivial,ok,hp,ty,h,h2⟩⟩)))
 | rn l n=>exact zh (zh (ybw (hta _ ⟨p,dx,_,rfl,hp,ydx,ht _ ⟨p,dx,.rn l n,x,_,rfl,trivial,ok,hp,ty,h,h3⟩⟩)))
def gvv (c b:Int):Int:=if b=1 then c else 16777216 - c
theorem ylm {x:V} (h:chV x=true):∃ c,x=.int c/\32768 <= c/\c <= 16744448:=by
 cases x with
 | int i =>
  simp only [chV,Bool.and_eq_true,decide_eq_true_eq] at h
  exact ⟨i,rfl,h.1,h.2⟩
 | _=>cases h
theorem yjd {x:V} (h:jf x=true):∃ b,x=.int b/\0 <= b/\b <= 1:=by
 cases x with
 | int i =>
  simp only [jf,Bool.and_eq_true,decide_eq_true_eq] at h
  exact ⟨i,rfl,h.1,h.2⟩
 | _=>cases h
theorem yqr {c:Int} (h:Ch c):chV (.int c)=true:=by
 obtain ⟨h1,h2⟩:=h
 simp only [chV,Bool.and_eq_true,decide_eq_true_eq]
 omega
theorem ylu {b:Int} (h1:0 <= b) (h2:b <= 1):jf (.int b)=true:=by
 simp only [jf,Bool.and_eq_true,decide_eq_true_eq]
 omega
theorem ymm {xs:List V} {i:Int} (h0:0 <= i) (h1:i < xs.length):∃ v,v∈xs/\atI xs i=some v:=by
 obtain ⟨j,rfl⟩:∃ j:Nat,i=(j:Int):=⟨i.toNat,by omega⟩
 have hj:j < xs.length:=by omega
 exact ⟨xs[j],List.getElem_mem hj,ux (List.getElem?_eq_getElem hj)⟩
theorem ya0 {K:W.Frag} {H H':Hp} {v:V} {n:String} (S:y6 H H') (t:xn K H v (.type n)):xn K H' v (.type n):=by
 cases t with
 | non=>exact .non
 | bl b=>exact .bl b
 | int i=>exact .int i
 | str x=>exact .str x
 | flt x=>exact .flt x
 | lst e=>exact .lst (S _ _ e)
 | frz e=>exact .frz (S _ _ e)
 | tup e=>exact .tup (S _ _ e)
 | dK e=>exact .dK (S _ _ e)
 | dT e=>exact .dT (S _ _ e)
def Typed (K:W.Frag) (H:Hp) (xs:List V):Prop:=∀ y∈xs,∃ k:String,xn K H y (.type k)
theorem Typed.same {K:W.Frag} {H H':Hp} {xs:List V} (t:Law.Typed K H xs) (S:y6 H H'):Law.Typed K H' xs:=fun y hy=>let ⟨k,z⟩:=t y hy; ⟨k,ya0 S z⟩
def ji (f:List Int->Option Slt) (k:List Int) (s:Slt):List Int->Option Slt:=fun j=>if j=k then some s else f j
def yot:HO->Bool
 | .ins _ _ _=>true
 | .dT _=>true
 | _=>false
def kI (k:List Int):List Key:=k.map Sum.inl
theorem yrc (k:List Int):(kI k).map kV=k.map V.int:=by
 unfold kI
 rw [List.map_map]
 rfl
theorem yc0 {j k:List Int} (h:kI j=kI k):j=k:=by
 unfold kI at h
 induction j generalizing k with
 | nil =>
  cases k with
  | nil=>rfl
  | cons _ _=>cases h
 | cons x r ih =>
  cases k with
  | nil=>cases h
  | cons y s =>
   injection h with h1 h2
   injection h1 with h1
   rw [h1,ih h2]
def yjy (H:Hp) (d:Addr):Prop:=∀ kvs,H d=some (.dT kvs)->(kvs.map (·.1)).Nodup/\∀ q∈kvs,∃ k,q.1=kI k
theorem yjy.mv {H H':Hp} {d:Addr} {kvs:List (List Key × V)} (h:yjy H d) (h1:H d=some (.dT kvs)) (h2:H' d=some (.dT kvs)):yjy H' d:=fun kvs' e=>by
 rw [h2] at e
 cases e
 exact h kvs h1
theorem yja {kvs:List (List Key × V)} {k:List Key} (h:u6 kvs k=none):k∉kvs.map (·.1):=fun m=>by
 obtain ⟨p,hp,e⟩:=List.mem_map.mp m
 have a:=xy k kvs
 rw [h] at a
 exact List.any_eq_false.mp a p hp (decide_eq_true e)
theorem yjy.snoc {H':Hp} {d:Addr} {kvs:List (List Key × V)} {k:List Int} {v:V} (h:(kvs.map (·.1)).Nodup/\∀ q∈kvs,∃ k,q.1=kI k) (hn:u6 kvs (kI k)=none) (h2:H' d=some (.dT (yb4 kvs (kI k) v))):yjy H' d:=fun kvs' e=>by
 rw [h2,ybt _ hn] at e
 cases e
 rw [List.map_append]
 refine ⟨List.nodup_append.mpr ⟨h.1,List.nodup_cons.mpr ⟨List.not_mem_nil,List.nodup_nil⟩,fun x hx y hy z=>?_⟩,fun q hq=>?_⟩
 ·rw [z,List.mem_singleton.mp hy] at hx
  exact yja hn hx
 ·rcases List.mem_append.mp hq with w | w
  ·exact h.2 q w
  ·rw [List.mem_singleton.mp w]
   exact ⟨k,rfl⟩
structure zk (a:Ads) (H:Hp) (p dx lk d:Addr) (kd:Fin 3) (f:List Int->Option Slt) (O:Addr->Prop) (m:Nat):Prop where
 me:H p=some (.ins a.C_Book dx (xl (.ref lk) (.ref d)))
 own:∀ b,O b->∃ o,H b=some o/\yot o=true
 np:¬ O p
 dO:O d
 ky:yjy H d
 tb:∃ (kvs:List (List Key × V)) (loc:List Int->Addr × Addr),H d=some (.dT kvs)/\kvs.length <= m/\(∀ k,f k=none->u6 kvs (kI k)=none) /\
  (∀ k s,f k=some s->u6 kvs (kI k)=some (.ref (loc k).1)/\H (loc k).1=some (oS a (loc k).2 s)/\s.ok/\s.kind=kd/\O (loc k).1)/\(∀ k j s t,f k=some s->f j=some t->(loc k).1=(loc j).1->k=j)
def yj3 (O:Addr->Prop) (H H':Hp):Prop:=∀ b o,H b=some o->¬ O b->H' b=some o
section
variable {a:Ads} {H H':Hp} {p dx lk d:Addr} {kd:Fin 3} {f:List Int->Option Slt} {O:Addr->Prop} {m:Nat}
theorem zk.frame (h:zk a H p dx lk d kd f O m) {O2:Addr->Prop} (B:yj3 O2 H H') (dj:∀ b,O b->¬ O2 b) (hp:¬ O2 p):zk a H' p dx lk d kd f O m:=by
 obtain ⟨kvs,loc,h1,h2,h3,h4,h5⟩:=h.tb
 refine ⟨B _ _ h.me hp,fun b hb=>?_,h.np,h.dO,h.ky.mv h1 (B _ _ h1 (dj _ h.dO)),kvs,loc,B _ _ h1 (dj _ h.dO),h2,h3,fun k s hk=>?_,h5⟩
 ·obtain ⟨o,ho,hi⟩:=h.own b hb
  exact ⟨o,B _ _ ho (dj b hb),hi⟩
 ·obtain ⟨q1,q2,q3,q4,q5⟩:=h4 k s hk
  exact ⟨q1,B _ _ q2 (dj _ q5),q3,q4,q5⟩
theorem zk.same (h:zk a H p dx lk d kd f O m) (S:y6 H H'):zk a H' p dx lk d kd f O m:=h.frame (O2:=fun _=>False) (fun b o e _=>S b o e) (fun _ _ z=>z) (fun z=>z)
end
def ug (o:Addr->Slt->HO) (g:Slt->Prop):Sp:=fun vs H Q _=>∃ (p dx:Addr) (s:Slt),vs=[.ref p]/\g s/\H p=some (o dx s)/\∀ q dq H',H q=none->H' q=some (o dq s)->y6 H H'->Q (.ref q) H'
theorem ym5 {p dx:Addr} {s:Slt} {ta:TE} {σ:St} {H:Hp} {Q:VK} {E1 E2 E3:XK} (hta:∀ Q':VK,Q' (.ref p) H->ta σ H Q') (hp:H p=some (oS a dx s)) (h:∀ q dq H',H q=none->H' q=some (oS a dq s)->y6 H H'->Q (.ref q) H') :
  yjx (yam a.C_Even "twin" (ug (oS a) yow) [] E1 ta yil) (yjx (yam a.C_Quick "twin" (ug (oS a) yos) [] E2 ta yil) (yam a.C_Run "twin" (ug (oS a) you) [] E3 ta yil)) σ H Q:=by
 cases s with
 | ev n o=>exact yaw (yaa (hta _ ⟨p,dx,_,rfl,hp,yci,p,dx,.ev n o,rfl,trivial,hp,h⟩))
 | qk h0=>exact zh (yaw (yaa (hta _ ⟨p,dx,_,rfl,hp,ya4,p,dx,.qk h0,rfl,trivial,hp,h⟩)))
 | rn l n=>exact zh (zh (yaa (hta _ ⟨p,dx,_,rfl,hp,yd1,p,dx,.rn l n,rfl,trivial,hp,h⟩)))
theorem xo {H H1:Hp} {q dq:Addr} {o o':HO} (nq:H q=none) (nd:H dq=none) (B:But q (upd (upd H dq o) q o') H1):y6 H H1:=fun b u e=>B b u (by rw [yi (yd e nq),yi (yd e nd)]; exact e) (yd e nq)
open MixI
structure ygd (a:Ads) (p dx l:Addr) (ws:List Int) (H:Hp):Prop where
 o:H p=some (.ins a.C_Mx dx (yc3 (.ref l)))
 l:H l=some (.lst (ws.map V.int))
theorem ygd.same {a:Ads} {p dx l:Addr} {ws:List Int} {H H':Hp} (m:ygd a p dx l ws H) (S:y6 H H'):ygd a p dx l ws H':=⟨S _ _ m.o,S _ _ m.l⟩
theorem yp1 {k:Nat} {cs:List Int} (h:COk k cs) {c:Int} (hm:c∈cs):Ch c:=⟨h.lo c hm,h.hi c hm⟩
theorem ykg {g:Int->Int->Int} {ws cs:List Int} (h:cs.length=ws.length):(List.range (ws.map V.int).length).map (fun i=>V.int (g ((ws[i]?).getD 0) ((cs[i]?).getD 0)))=(List.zipWith g ws cs).map V.int:=by
 rw [List.length_map,<- yg7 h,List.map_map]
 rfl
theorem yed {H:Hp} {D:Addr} {xs ys:List V} (h:H D=some (.lst xs)) (e:xs=ys):H D=some (.lst ys):=e ▸ h
def ygt (K:W.Frag) (a:Ads):Sp:=fun vs H Q _=>∃ (p dx l c:Addr) (ws cs:List Int) (k:Nat),vs=[.ref p,.ref c]/\1 <= k/\k <= 6/\WOk k ws/\COk k cs/\ygd a p dx l ws H/\SqL K H c (cs.map V.int)/\∀ H',y6 H H'->Q (.int (ysm ws cs)) H'
def yg2 (K:W.Frag) (a:Ads) (C:Addr):Sp:=fun vs H Q E=>∃ (p dx l c:Addr) (ws cs:List Int) (k:Nat) (x:V) (n:String),vs=[.ref p,.ref c,x]/\1 <= k/\k <= 6/\WOk k ws/\COk k cs/\ygd a p dx l ws H/\SqL K H c (cs.map V.int)/\xn K H x (.type n) /\
 (∀ b:Int,x=.int b->0 <= b->b <= 1->∀ l' H',H l'=none->ygd a p dx l' (lrn ws cs b) H'->But p H H'->Q .non H')/\(jf x=false->E (.ref C) none H)
def ydw (a:Ads):Sp:=fun vs H Q _=>∃ (p dx l:Addr) (ws:List Int),vs=[.ref p]/\ygd a p dx l ws H/\∀ r H',H r=none->H' r=some (.lst (ws.map V.int))->y6 H H'->Q (.ref r) H'
def yix (a:Ads):Sp:=fun vs H Q _=>∃ (p dx:Addr) (k:Nat),vs=[.ref p,.int k]/\1 <= k/\k <= 6/\H p=some (.ins a.C_Mx dx [])/\∀ l H',H l=none->ygd a p dx l (List.replicate k 1099511627776) H'->But p H H'->Q .non H'
def yie:V->Bool
 | .str s=>inV (.str s) [V.str "even",V.str "quick",V.str "run"]
 | _=>false
def plV:V->Bool
 | .int i=>decide (1 <= i) && decide (i <= 8)
 | _=>false
def ltV:V->V->Bool
 | .int i,.int j=>decide (i < j)
 | _,_=>false
def yt2 (xs:List V):Bool:=(List.zipWith ltV xs xs.tail).all id
def x8 (xs:List V):Bool:=decide (xs.length <= 4) && xs.all plV && yt2 xs
def PlB (K:W.Frag) (H:Hp) (x:V) (b:Bool):Prop:=(∃ n,xn K H x (.type n)/\n≠"tuple"/\b=false)\/∃ t xs,x=.ref t/\H t=some (.tup xs)/\xs.length <= 1000/\(∀ y∈xs,∃ n:String,xn K H y (.type n))/\b=x8 xs
def LkB (K:W.Frag) (H:Hp) (x:V) (b:Bool):Prop:=(∃ n,xn K H x (.type n)/\n≠"tuple"/\b=false) \/
 ∃ t xs,x=.ref t/\H t=some (.tup xs)/\((xs.length≠2/\b=false)\/∃ y z n,xs=[y,z]/\xn K H y (.type n)/\((yie y=false/\b=false)\/(yie y=true/\PlB K H z b)))
theorem PlB.same {K:W.Frag} {H H':Hp} {x:V} {b:Bool} (h:PlB K H x b) (S:y6 H H'):PlB K H' x b:=by
 rcases h with ⟨n,t,hn,e⟩ | ⟨t,xs,e,ht,hl,hy,hb⟩
 ·exact .inl ⟨n,ya0 S t,hn,e⟩
 ·exact .inr ⟨t,xs,e,S _ _ ht,hl,fun y hm=>let ⟨n,z⟩:=hy y hm; ⟨n,ya0 S z⟩,hb⟩
theorem LkB.same {K:W.Frag} {H H':Hp} {x:V} {b:Bool} (h:LkB K H x b) (S:y6 H H'):LkB K H' x b:=by
 rcases h with ⟨n,t,hn,e⟩ | ⟨t,xs,e,ht,h⟩
 ·exact .inl ⟨n,ya0 S t,hn,e⟩
 ·refine .inr ⟨t,xs,e,S _ _ ht,?_⟩
  rcases h with h | ⟨y,z,n,e2,ty,h⟩
  ·exact .inl h
  ·refine .inr ⟨y,z,n,e2,ya0 S ty,?_⟩
   rcases h with h | ⟨h1,h2⟩
   ·exact .inl h
   ·exact .inr ⟨h1,h2.same S⟩
theorem z8 {K:W.Frag} {H:Hp} {x:V} {n:String} (ty:xn K H x (.type n)):W.kitOne K (.type n) (.type "tuple")=some (decide (n="tuple")):=by cases ty <;> rfl
theorem yjl {K:W.Frag} {H:Hp} {x:V} {n:String} (ty:xn K H x (.type n)):W.kitOne K (.type n) (.type "str")=some (decide (n="str")):=by cases ty <;> rfl
theorem yel {K:W.Frag} {H:Hp} {x:V} {n:String} (ty:xn K H x (.type n)):W.kitOne K (.type n) (.type "list")=some (decide (n="list")):=by cases ty <;> rfl
theorem ym1 {xs:List V} {i:Nat} {y:V} (h:xs.tail[i]?=some y):xs[i+1]?=some y:=by
 cases xs with
 | nil=>simp at h
 | cons x r=>simpa using h
theorem yhb (xs:List V):(List.range xs.tail.length).map (fun i=>V.bl (ltV ((xs[i]?).getD .non) ((xs.tail[i]?).getD .non)))=(List.zipWith ltV xs xs.tail).map V.bl:=by
 apply List.ext_getElem
 ·rw [List.length_map,List.length_range,List.length_map,List.length_zipWith,List.length_tail]; omega
 ·intro i h1 h2
  rw [List.length_map,List.length_range] at h1
  have hx:i < xs.length:=by rw [List.length_tail] at h1; omega
  rw [List.getElem_map,List.getElem_range,List.getElem_map,List.getElem_zipWith,List.getElem?_eq_getElem h1,List.getElem?_eq_getElem hx]
  rfl
theorem yhm {K:W.Frag} {t u D:Addr} {xs:List V} {te:TE} {fr:St} {R:Hp->Prop} {H1:Hp} (hint:∀ y∈xs,∃ i:Int,y=.int i) (hl:xs.length <= 1000) (ht:SqT K H1 t xs) (hu:SqT K H1 u xs.tail) (hD:H1 D=none)
  (hte:∀ (i j:Int) (σ':St) (H':Hp) (Q':VK),Q' (.bl (decide (i < j))) H'->te (some (.int i) :: some (.int j) :: σ') H' Q') (hR:∀ H,y6 H1 H->H D=some (.lst ((List.zipWith ltV xs xs.tail).map V.bl))->R H) :
  zt (ysi K t u) (yox K 2 (ul (wf 0) (ul (wf 1) yj2))) te 2 fr D R H1:=by
 refine yd2 (m:=xs.tail.length) (fun i=>V.bl (ltV ((xs[i]?).getD .non) ((xs.tail[i]?).getD .non))) ht hu (by rw [List.length_tail]; omega) (Nat.le_refl _) (.inr (Nat.le_refl _)) hD (fun i x y H2 tt pre hi hx hy S2 hD2 htt hpre=>?_) (fun H2 S2 hD2=>?_)
 ·obtain ⟨v1,v2,rfl⟩:=yh1 hpre
  obtain ⟨c,rfl⟩:=hint x (List.mem_of_getElem? hx)
  obtain ⟨d,rfl⟩:=hint y (List.mem_of_getElem? (ym1 hy))
  have S3:=S2.trans (y1 (o:=HO.tup [V.int c,V.int d]) htt)
  have hD3:=x9 (o':=HO.tup [V.int c,V.int d]) htt hD2
  have ht3:upd H2 tt (HO.tup [V.int c,V.int d]) tt=some (.tup [V.int c,V.int d]):=ya
  generalize upd H2 tt (HO.tup [V.int c,V.int d])=H3 at S3 hD3 ht3
  refine ye1 (SqT.of ht3) rfl ?_
  show ul (wf 0) (ul (wf 1) yj2) [V.int c,V.int d] (v1 :: v2 :: fr) H3 _
  walk_at "rd"
  refine ⟨⟨[some (.int c),some (.int d)],rfl,rfl⟩,?_⟩
  refine hte c d fr H3 _ ?_
  refine Mp.doneR hD (vf (by rw [List.length_tail]; omega)) hi S3 hD3 ?_
  rw [hx,hy]
  rfl
 ·exact hR H2 S2 (by rw [<- yhb]; exact hD2)
theorem ymq (xs:List V):yeb xs (some 1) none=xs.tail:=by
 unfold yeb
 have e:HT.sIx xs.length 0 (some 1)=min 1 xs.length:=by
  have:=HT.sIx_nat xs.length 0 1
  simpa using this
 rw [HT.sIx_none,e]
 cases xs with
 | nil=>rfl
 | cons x r=>simp
theorem yjg {n:Nat} (bs:List Bool) (h:n=bs.length):(List.range n).map (fun i=>V.bl ((bs[i]?).getD false))=bs.map V.bl:=by
 subst h
 apply List.ext_getElem
 ·rw [List.length_map,List.length_range,List.length_map]
 ·intro i h1 h2
  rw [List.length_map,List.length_range] at h1
  rw [List.getElem_map,List.getElem_range,List.getElem_map,List.getElem?_eq_getElem h1]
  rfl
def ytx (K:W.Frag) (H:Hp) (xs:List V) (bs:List Bool):Prop:=xs.length=bs.length/\∀ (i:Nat) (y:V) (b:Bool),xs[i]?=some y->bs[i]?=some b->LkB K H y b
def LkG (H:Hp) (v:V) (kd:Fin 3) (tp:Addr) (ps:List Int):Prop:=∃ lk,v=.ref lk/\H lk=some (.tup [.str (kdS kd),.ref tp])/\H tp=some (.tup (ps.map V.int))/\x8 (ps.map V.int)=true
theorem LkG.same {H H':Hp} {v:V} {kd:Fin 3} {tp:Addr} {ps:List Int} (h:LkG H v kd tp ps) (S:y6 H H'):LkG H' v kd tp ps:=by
 obtain ⟨lk,e,h1,h2,h3⟩:=h
 exact ⟨lk,e,S _ _ h1,S _ _ h2,h3⟩
theorem ylp (kd:Fin 3):yie (.str (kdS kd))=true:=by
 match kd with
 | 0=>rfl
 | 1=>rfl
 | 2=>rfl
theorem yfe {xs:List V} (h:x8 xs=true):xs.length <= 4:=by
 unfold x8 at h
 rw [Bool.and_eq_true,Bool.and_eq_true] at h
 exact of_decide_eq_true h.1.1
theorem LkG.tells {K:W.Frag} {H:Hp} {v:V} {kd:Fin 3} {tp:Addr} {ps:List Int} (h:LkG H v kd tp ps):LkB K H v true:=by
 obtain ⟨lk,e,h1,h2,h3⟩:=h
 have:=yfe h3
 refine .inr ⟨lk,_,e,h1,.inr ⟨_,_,"str",rfl,.str _,.inr ⟨ylp kd,.inr ⟨tp,_,rfl,h2,by omega,fun y hy=>?_,h3.symm⟩⟩⟩⟩
 obtain ⟨i,_,rfl⟩:=List.mem_map.mp hy
 exact ⟨_,.int i⟩
theorem ykj:∀ {ps:List Int},ps.Pairwise (· < ·)->yt2 (ps.map V.int)=true
 | [],_=>rfl
 | [_],_=>rfl
 | p :: q :: r,h=>by
  have h1:p < q:=(List.pairwise_cons.mp h).1 q (by simp)
  have ih:=ykj (List.pairwise_cons.mp h).2
  unfold yt2 at ih ⊢
  simp only [List.map_cons,List.tail_cons,List.zipWith_cons_cons,List.all_cons] at ih ⊢
  rw [show ltV (V.int p) (V.int q)=true from decide_eq_true h1]
  simpa using ih
theorem ygl {ps:List Int} (h1:ps.length <= 4) (h2:∀ p∈ps,1 <= p/\p <= 8) (h3:ps.Pairwise (· < ·)):x8 (ps.map V.int)=true:=by
 unfold x8
 rw [List.length_map,decide_eq_true h1,ykj h3,Bool.true_and,Bool.and_true,List.all_eq_true]
 intro y hy
 obtain ⟨i,hi,rfl⟩:=List.mem_map.mp hy
 have:=h2 i hi
 show (decide (1 <= i) && decide (i <= 8))=true
 rw [decide_eq_true this.1,decide_eq_true this.2]
 rfl
def Lks (H:Hp) (xs:List V):Prop:=∀ y∈xs,∃ kd tp ps,LkG H y kd tp ps
theorem Lks.bs {K:W.Frag} {H:Hp} {xs:List V} (h:Lks H xs):ytx K H xs (List.replicate xs.length true):=by
 refine ⟨by rw [List.length_replicate],fun i y b h1 h2=>?_⟩
 have hb:b=true:=List.eq_of_mem_replicate (List.mem_of_getElem? h2)
 obtain ⟨kd,tp,ps,z⟩:=h y (List.mem_of_getElem? h1)
 rw [hb]
 exact z.tells
theorem ymd (n:Nat):(List.replicate n true).all id=true:=by simp
def yu4 (K:W.Frag) (H:Hp) (x:V):Prop:=(∃ n,xn K H x (.type n)/\n≠"list")\/∃ l xs bs,x=.ref l/\H l=some (.lst xs)/\xs.length <= 1000/\ytx K H xs bs/\¬ (1 <= xs.length/\xs.length <= 6/\bs.all id=true)
theorem LkG.upd {H:Hp} {v:V} {kd:Fin 3} {tp l:Addr} {ps:List Int} {xs ys:List V} (h:LkG H v kd tp ps) (hl:H l=some (.lst xs)):LkG (L2.upd H l (.lst ys)) v kd tp ps:=by
 obtain ⟨lk,e,h1,h2,h3⟩:=h
 exact ⟨lk,e,yj (xu h1 hl (by intro z; cases z)) h1,yj (xu h2 hl (by intro z; cases z)) h2,h3⟩
theorem yts {xs:List V} (n:Nat):yeb xs (some (n:Int)) none=xs.drop n:=by
 unfold yeb
 rw [HT.sIx_nat,HT.sIx_none]
 by_cases h:n <= xs.length
 ·rw [Nat.min_eq_left h,List.take_of_length_le (by rw [List.length_drop]; exact Nat.le_refl _)]
 ·rw [Nat.min_eq_right (by omega),List.drop_eq_nil_of_le (Nat.le_refl _),List.drop_eq_nil_of_le (by omega)]
  simp
def upN {α:Type} (g:Nat->α) (n:Nat) (x:α):Nat->α:=fun j=>if j=n then x else g j
theorem wc {α:Type} {g:Nat->α} {n:Nat} {x:α}:upN g n x n=x:=if_pos rfl
theorem v6 {α:Type} {g:Nat->α} {n j:Nat} {x:α} (h:j < n):upN g n x j=g j:=if_neg (by omega)
theorem ymk (c:Int):∃ kk:Fin 3,atI [V.str "even",V.str "quick",V.str "run"] (c % 3)=some (V.str (kdS kk)):=by
 have h0:0 <= c % 3:=Int.emod_nonneg _ (by decide)
 have h1:c % 3 < 3:=Int.emod_lt_of_pos _ (by decide)
 generalize c % 3=z at h0 h1
 obtain rfl | rfl | rfl:z=0\/z=1\/z=2:=by omega
 ·exact ⟨0,rfl⟩
 ·exact ⟨1,rfl⟩
 ·exact ⟨2,rfl⟩
def z0 (H:Hp) (n:Nat) (lk:Nat->Addr) (kd:Nat->Fin 3) (tp:Nat->Addr) (ps:Nat->List Int):Prop:=∀ i,i < n->LkG H (.ref (lk i)) (kd i) (tp i) (ps i)
theorem z0.same {H H':Hp} {n:Nat} {lk:Nat->Addr} {kd:Nat->Fin 3} {tp:Nat->Addr} {ps:Nat->List Int} (h:z0 H n lk kd tp ps) (S:y6 H H'):z0 H' n lk kd tp ps:=fun i hi=>(h i hi).same S
structure Sd (K:W.Frag) (H:Hp) (v:V) (d:PyData) (k:Nat):Prop where
 rd:RdV K H v d
 lay:d.canLay0=true
 dep:d.depth <= k
 eq:PyData.eqv d d=true
structure Sds (K:W.Frag) (H:Hp) (xs:List V) (ds:List PyData) (k:Nat):Prop where
 rd:ygc K H xs ds
 lay:PyData.canLayAll0 ds=true
 dep:PyData.depthAll ds <= k
 eq:PyData.eqvAll ds ds=true
theorem Sd.int {K:W.Frag} {H:Hp} (i:Int) {k:Nat}:Sd K H (.int i) (.int i) k:=⟨.int i,by simp [PyData.canLay0],by simp [PyData.depth],by simp [PyData.eqv]⟩
theorem Sds.nil {K:W.Frag} {H:Hp} {k:Nat}:Sds K H [] [] k:=⟨.nil,rfl,Nat.zero_le _,by simp [PyData.eqvAll]⟩
theorem Sds.cons {K:W.Frag} {H:Hp} {v:V} {d:PyData} {xs:List V} {ds:List PyData} {k:Nat} (h:Sd K H v d k) (r:Sds K H xs ds k):Sds K H (v :: xs) (d :: ds) k:=by
 refine ⟨.cons h.rd r.rd,by simp [PyData.canLayAll0,h.lay,r.lay],?_,by simp [PyData.eqvAll,h.eq,r.eq]⟩
 have h1:=h.dep
 have h2:=r.dep
 simp only [PyData.depthAll]
 omega
theorem Sds.ints {K:W.Frag} {H:Hp} (ns:List Int) {k:Nat}:Sds K H (ns.map V.int) (ns.map PyData.int) k:=⟨ycw ns,jw ns,by rw [yap]; exact Nat.zero_le _,by rw [jz,decide_eq_true rfl]⟩
theorem Sd.lst {K:W.Frag} {H:Hp} {p:Addr} {xs:List V} {ds:List PyData} {k:Nat} (h:SqL K H p xs) (r:Sds K H xs ds k):Sd K H (.ref p) (.list ds) (k+1):=by
 refine ⟨.lst h r.rd,by simp [PyData.canLay0,r.lay],?_,by simp [PyData.eqv,r.eq]⟩
 have h2:=r.dep
 simp only [PyData.depth]
 omega
theorem yan {K:W.Frag} {g:Bool->Bool} {H:Hp} {Q:VK} {x y:V} {d:PyData} {k:Nat} (h1:Sd K H x d k) (h2:Sd K H y d k) (hk:k <= 60) (h:Q (.bl (g true)) H):yt1 K g x y H Q:=by
 have hsh:SeqAt.shaped d=true:=by
  unfold SeqAt.shaped
  rw [Bool.and_eq_true]
  exact ⟨h1.lay,decide_eq_true (by have:=h1.dep; omega)⟩
 exact ⟨d,d,h1.rd,h2.rd,hsh,hsh,by rw [h1.eq]; exact h⟩
theorem ytd:ym ["thing"] ["thing"] (yg ytz):=⟨rfl,rfl,rfl,by decide +kernel,rfl,by decide +kernel,by decide +kernel⟩
def yc8 (K:W.Frag):Sp:=fun vs H Q _=>∃ x n,vs=[x]/\xn K H x (.type n)/\Q (.bl (yac x)) H
theorem ynl (T:Txt K mg a):we P w K mg base CX0 1 a.f_q1 a.d_q1 ["thing"] (yc8 K):=by
 refine T.y_q1.F.ok ytd (fun vs H Q E h=>?_) (fun cdv A outer s H vs Q E hr h=>?_)
 ·obtain ⟨x,n,rfl,_⟩:=h
  rfl
 ·obtain ⟨x,n,rfl,ty,k⟩:=h
  refine ⟨_,(yf (yy (zi (yv vq rfl T.z_isinstance (by decide +kernel) (yc (pv 0) (yc (yad (T:="int") rfl T.z_int (by decide +kernel)) ye (yb rfl)) (yb rfl))) (j9 (yqs (yv vq rfl T.z_isinstance (by decide +kernel) (yc (pv 0) (yc (yad (T:="bool") rfl T.z_bool (by decide +kernel)) ye (yb rfl)) (yb rfl)))))))),?_⟩
  try dsimp only [v7]
  refine yo (σ':=[some _]) rfl ?_
  walk_at "rd"
  refine yb3 ty (ymx ty) ?_
  walk_at "rd"
  cases hx:yka x with
  | false =>
   have e:yac x=false:=by
    cases x <;> first | rfl | cases hx
   rw [e] at k
   exact yj0 k
  | true =>
   have e:yac x=!yhu x:=by
    cases x <;> first | rfl | cases hx
   rw [e] at k
   refine ylb ?_
   walk_at "rd"
   refine yb3 ty (yit ty) ?_
   walk_at "rd"
   exact k
theorem yst:ym ["thing"] ["thing"] (yg yub):=⟨rfl,rfl,rfl,by decide +kernel,rfl,by decide +kernel,by decide +kernel⟩
def yg8 (K:W.Frag):Sp:=fun vs H Q _=>∃ x n,vs=[x]/\xn K H x (.type n)/\Q (.bl (jf x)) H
theorem ysn (T:Txt K mg a):we P w K mg base CX0 2 a.f_q2 a.d_q2 ["thing"] (yg8 K):=by
 refine T.y_q2.F.ok yst (fun vs H Q E h=>?_) (fun cdv A outer s H vs Q E hr h=>?_)
 ·obtain ⟨x,n,rfl,_⟩:=h
  rfl
 ·obtain ⟨x,n,rfl,ty,k⟩:=h
  refine ⟨_,(yf (yy (zi (yw (ynl T) (hr.mono (by decide)) rfl T.y_q1.m T.y_q1.F.kp T.y_q1.B .nil yu (yc (pv 0) ye (yb rfl))) (j9 (ybu yai yai yh (pv 0) yh))))),?_⟩
  try dsimp only [v7]
  refine yo (σ':=[some _]) rfl ?_
  walk_at "rd"
  refine ⟨x,n,rfl,ty,?_⟩
  walk_at "rd"
  cases hx:yac x with
  | false =>
   have e:jf x=false:=by
    cases x <;> first | rfl | cases hx
   rw [e] at k
   exact yj0 k
  | true =>
   obtain ⟨i,rfl⟩:=zn hx
   refine ylb ?_
   walk_at "rd"
   refine z5 (fun h0=>?_) (fun h0=>?_)
   ·walk_at "rd"
    have e:jf (.int i)=decide (i <= 1):=by simp [jf,h0]
    rw [e] at k
    exact k
   ·have e:jf (.int i)=false:=by simp [jf,h0]
    rw [e] at k
    exact k
theorem ysv:ym ["thing"] ["thing"] (yg ytt):=⟨rfl,rfl,rfl,by decide +kernel,rfl,by decide +kernel,by decide +kernel⟩
def yb8 (K:W.Frag):Sp:=fun vs H Q _=>∃ x n,vs=[x]/\xn K H x (.type n)/\Q (.bl (chV x)) H
theorem ys5 (T:Txt K mg a):we P w K mg base CX0 2 a.f_q3 a.d_q3 ["thing"] (yb8 K):=by
 refine T.y_q3.F.ok ysv (fun vs H Q E h=>?_) (fun cdv A outer s H vs Q E hr h=>?_)
 ·obtain ⟨x,n,rfl,_⟩:=h
  rfl
 ·obtain ⟨x,n,rfl,ty,k⟩:=h
  refine ⟨_,(yf (yy (zi (yw (ynl T) (hr.mono (by decide)) rfl T.y_q1.m T.y_q1.F.kp T.y_q1.B .nil yu (yc (pv 0) ye (yb rfl))) (j9 (ybu yai yai (vc rfl T.c_LEAST) (pv 0) (yr uc (vc rfl T.c_ONE) (vc rfl T.c_LEAST))))))),?_⟩
  try dsimp only [v7]
  refine yo (σ':=[some _]) rfl ?_
  walk_at "rd"
  refine ⟨x,n,rfl,ty,?_⟩
  walk_at "rd"
  cases hx:yac x with
  | false =>
   have e:chV x=false:=by
    cases x <;> first | rfl | cases hx
   rw [e] at k
   exact yj0 k
  | true =>
   obtain ⟨i,rfl⟩:=zn hx
   refine ylb ?_
   walk_at "rd"
   refine z5 (fun h0=>?_) (fun h0=>?_)
   ·walk_at "rd"
    have e:chV (.int i)=decide (i <= 16777216 - 32768):=by simp [chV,h0]
    rw [e] at k
    exact k
   ·have e:chV (.int i)=false:=by simp [chV,h0]
    rw [e] at k
    exact k
theorem ys7:ym ["thing"] ["thing"] (yg yua):=⟨rfl,rfl,rfl,by decide +kernel,rfl,by decide +kernel,by decide +kernel⟩
def jq (K:W.Frag) (C:Addr):Sp:=fun vs H Q E=>∃ x n,vs=[x]/\xn K H x (.type n)/\(chV x=true->Q .non H)/\(chV x=false->E (.ref C) none H)
theorem ys6 (T:Txt K mg a):we P w K mg base (CXe P w) 3 a.f_q4 a.d_q4 ["thing"] (jq K a.C_NC):=by
 refine T.y_q4.F.okE ys7 (fun vs H Q E h=>?_) (fun cdv A outer s H vs Q E hr h=>?_)
 ·obtain ⟨x,n,rfl,_⟩:=h
  rfl
 ·obtain ⟨x,n,rfl,ty,k1,k2⟩:=h
  refine ⟨_,(yf (wt (x0 (ur (yw (ys5 T) (hr.mono (by decide)) rfl T.y_q3.m T.y_q3.F.kp T.y_q3.B .nil yu (yc (pv 0) ye (yb rfl))))) (yf (jd rfl T.m_NC T.r_NC (yc uq ye (yb rfl)))) vw)),?_⟩
  try dsimp only [v7]
  refine yo (σ':=[some _]) rfl ?_
  walk_at "rd"
  refine ⟨x,n,rfl,ty,?_⟩
  walk_at "rd"
  cases hx:chV x with
  | false =>
   walk_at "rd"
   exact ⟨by walk_at "len",k2 hx⟩
  | true =>
   walk_at "rd"
   exact k1 hx
theorem ytp:ym ["thing"] ["thing"] (yg yt3):=⟨rfl,rfl,rfl,by decide +kernel,rfl,by decide +kernel,by decide +kernel⟩
def ycl (K:W.Frag) (C:Addr):Sp:=fun vs H Q E=>∃ x n,vs=[x]/\xn K H x (.type n)/\(jf x=true->Q .non H)/\(jf x=false->E (.ref C) none H)
theorem ygb (T:Txt K mg a):we P w K mg base (CXe P w) 3 a.f_q5 a.d_q5 ["thing"] (ycl K a.C_NB):=by
 refine T.y_q5.F.okE ytp (fun vs H Q E h=>?_) (fun cdv A outer s H vs Q E hr h=>?_)
 ·obtain ⟨x,n,rfl,_⟩:=h
  rfl
 ·obtain ⟨x,n,rfl,ty,k1,k2⟩:=h
  refine ⟨_,(yf (wt (x0 (ur (yw (ysn T) (hr.mono (by decide)) rfl T.y_q2.m T.y_q2.F.kp T.y_q2.B .nil yu (yc (pv 0) ye (yb rfl))))) (yf (jd rfl T.m_NB T.r_NB (yc uq ye (yb rfl)))) vw)),?_⟩
  try dsimp only [v7]
  refine yo (σ':=[some _]) rfl ?_
  walk_at "rd"
  refine ⟨x,n,rfl,ty,?_⟩
  walk_at "rd"
  cases hx:jf x with
  | false =>
   walk_at "rd"
   exact ⟨by walk_at "len",k2 hx⟩
  | true =>
   walk_at "rd"
   exact k1 hx
theorem yto:ym ["chance","bit"] ["chance","bit"] (yg ytu):=⟨rfl,rfl,rfl,by decide +kernel,rfl,by decide +kernel,by decide +kernel⟩
def yiv (K:W.Frag) (C D:Addr):Sp:=fun vs H Q E=>∃ x n y m,vs=[x,y]/\xn K H x (.type n)/\xn K H y (.type m)/\(chV x=false->E (.ref C) none H)/\(chV x=true->jf y=false->E (.ref D) none H) /\
 (∀ c b,x=.int c->y=.int b->chV x=true->jf y=true->Q (.int (gvv c b)) H)
theorem ysy (T:Txt K mg a):we P w K mg base (CXe P w) 4 a.f_q6 a.d_q6 ["chance","bit"] (yiv K a.C_NC a.C_NB):=by
 refine T.y_q6.F.okE yto (fun vs H Q E h=>?_) (fun cdv A outer s H vs Q E hr h=>?_)
 ·obtain ⟨x,n,y,m,rfl,_⟩:=h
  rfl
 ·obtain ⟨x,n,y,m,rfl,tx,ty,k1,k2,k3⟩:=h
  refine ⟨_,(yn (y3 (wz (ys6 T) (hr.mono (by decide)) rfl T.y_q4.m T.y_q4.F.kp T.y_q4.B .nil xx (yc (pv 0) ye (yb rfl)))) (yn (y3 (wz (ygb T) (hr.mono (by decide)) rfl T.y_q5.m T.y_q5.F.kp T.y_q5.B .nil xx (yc (pv 1) ye (yb rfl)))) (yf (yy (ybr (yz ud (pv 1) yh (y8 _)) (pv 0) (yr uc (vc rfl T.c_ONE) (pv 0))))))),?_⟩
  try dsimp only [v7]
  refine yo (σ':=[some _,some _]) rfl ?_
  walk_at "rd"
  refine ⟨x,n,rfl,tx,fun hx=>?_,k1⟩
  walk_at "rd"
  refine ⟨y,m,rfl,ty,fun hy=>?_,k2 hx⟩
  obtain ⟨c,rfl,c1,c2⟩:=ylm hx
  obtain ⟨b,rfl,b1,b2⟩:=yjd hy
  walk_at "rd"
  have k:=k3 c b rfl rfl hx hy
  unfold gvv at k
  refine z5 (fun hb=>?_) (fun hb=>?_)
  ·rw [if_pos hb] at k
   walk_at "rd"
   exact k
  ·rw [if_neg hb] at k
   walk_at "rd"
   exact k
theorem ys2:ym ["self"] ["self"] (yg yt7):=⟨rfl,rfl,rfl,by decide +kernel,rfl,by decide +kernel,by decide +kernel⟩
theorem yry (T:Txt K mg a):we P w K mg base CX0 1 a.f_q7 a.d_q7 ["self"] (ybs a.C_Even (wd (.int 0) (.int 0))):=by
 refine T.y_q7.F.ok ys2 (fun vs H Q E h=>?_) (fun cdv A outer s H vs Q E hr h=>?_)
 ·obtain ⟨p,dx,rfl,_⟩:=h
  rfl
 ·obtain ⟨p,dx,rfl,hp,k⟩:=h
  refine ⟨_,(yn (y4 (pv 0) yh rfl) (yf (y4 (pv 0) yh rfl))),?_⟩
  try dsimp only [v7]
  refine yo (σ':=[some _]) rfl ?_
  walk_at "rd"
  exact k _ ya (But.upd.trans But.upd)
theorem ysw:ym ["self"] ["self"] (yg ytr):=⟨rfl,rfl,rfl,by decide +kernel,rfl,by decide +kernel,by decide +kernel⟩
theorem ytb (T:Txt K mg a):we P w K mg base CX0 1 a.f_q8 a.d_q8 ["self"] (xa (oS a) yow):=by
 refine T.y_q8.F.ok ysw (fun vs H Q E h=>?_) (fun cdv A outer s H vs Q E hr h=>?_)
 ·obtain ⟨p,dx,s,rfl,_⟩:=h
  rfl
 ·obtain ⟨p,dx,s',rfl,hg,hs,hp,k⟩:=h
  cases s' with
  | ev n o =>
   obtain ⟨h1,h2,h3⟩:=hs
   have hp:H p=some (.ins a.C_Even dx (wd (.int n) (.int o))):=hp
   refine ⟨_,(yf (yy (yr y9 (yr xt (yr vo (yr xt yh (yt (pv 0) rfl)) yh) (vc rfl T.c_ONE)) (yr vo (yr xt yh (yr vo (yt (pv 0) rfl) (yt (pv 0) rfl))) yh)))),?_⟩
   try dsimp only [v7]
   refine yo (σ':=[some _]) rfl ?_
   walk_at "rd"
   exact k
  | qk _=>exact hg.elim
  | rn _ _=>exact hg.elim
theorem ytl:ym ["self","bit"] ["self","bit"] (yg yt0):=⟨rfl,rfl,rfl,by decide +kernel,rfl,by decide +kernel,by decide +kernel⟩
theorem ys0 (T:Txt K mg a):we P w K mg base (CXe P w) 4 a.f_q9 a.d_q9 ["self","bit"] (uj K (oS a) yow a.C_NB):=by
 refine T.y_q9.F.okE ytl (fun vs H Q E h=>?_) (fun cdv A outer s H vs Q E hr h=>?_)
 ·obtain ⟨p,dx,s,x,n,rfl,_⟩:=h
  rfl
 ·obtain ⟨p,dx,s',x,nm,rfl,hg,hs,hp,ty,k1,k2⟩:=h
  cases s' with
  | ev n o =>
   obtain ⟨h1,h2,h3⟩:=hs
   have hp:H p=some (.ins a.C_Even dx (wd (.int n) (.int o))):=hp
   refine ⟨_,(yn (y3 (wz (ygb T) (hr.mono (by decide)) rfl T.y_q5.m T.y_q5.F.kp T.y_q5.B .nil xx (yc (pv 1) ye (yb rfl)))) (yn (wt (yz ud (pv 1) yh (y8 _)) (yf (y4 (pv 0) (yr vo (yt (pv 0) rfl) yh) rfl)) (yf (y4 (pv 0) (yr vo (yt (pv 0) rfl) yh) rfl))) (yf (wt (yz ynn (yr vo (yt (pv 0) rfl) (yt (pv 0) rfl)) (vc rfl T.c_MOST_COUNTED) (y8 _)) (yn (y4 (pv 0) (yr y9 (yr vo (yt (pv 0) rfl) yh) yh) rfl) (yf (y4 (pv 0) (yr y9 (yr vo (yt (pv 0) rfl) yh) yh) rfl))) vw)))),?_⟩
   try dsimp only [v7]
   refine yo (σ':=[some _,some _]) rfl ?_
   walk_at "rd"
   refine ⟨x,nm,rfl,ty,fun hx=>?_,k2⟩
   obtain ⟨b,rfl,b0,b1⟩:=ye4 hx
   have k:=k1 b rfl b0 b1
   unfold Slt.see at k
   dsimp only at k
   walk_at "rd"
   refine z5 (fun hb=>?_) (fun hb=>?_)
   ·rw [if_pos hb] at k
    unfold yd9 at k
    walk_at "rd"
    refine z5 (fun hz=>?_) (fun hz=>?_)
    ·rw [if_pos hz] at k
     walk_at "rd"
     exact k _ ya ((But.upd.trans But.upd).trans But.upd)
    ·rw [if_neg hz] at k
     walk_at "rd"
     exact k _ ya But.upd
   ·rw [if_neg hb] at k
    unfold yd9 at k
    walk_at "rd"
    refine z5 (fun hz=>?_) (fun hz=>?_)
    ·rw [if_pos hz] at k
     walk_at "rd"
     exact k _ ya ((But.upd.trans But.upd).trans But.upd)
    ·rw [if_neg hz] at k
     walk_at "rd"
     exact k _ ya But.upd
  | qk _=>exact hg.elim
  | rn _ _=>exact hg.elim
theorem yk3:ym ["self","made"] ["self"] (yg yoa):=⟨rfl,rfl,rfl,by decide +kernel,rfl,by decide +kernel,by decide +kernel⟩
theorem yp4 (T:Txt K mg a):we P w K mg base CX0 3 a.f_q10 a.d_q10 ["self"] (ug (oS a) yow):=by
 refine T.y_q10.F.ok yk3 (fun vs H Q E h=>?_) (fun cdv A outer s H vs Q E hr h=>?_)
 ·obtain ⟨p,dx,s,rfl,_⟩:=h
  rfl
 ·obtain ⟨p,dx,s,rfl,hg,hp,k⟩:=h
  cases s with
  | qk _=>exact hg.elim
  | rn _ _=>exact hg.elim
  | ev n o =>
  have hp:H p=some (.ins a.C_Even dx (wd (.int n) (.int o))):=hp
  refine ⟨_,(yn (vj (i:=1) yk3.nd rfl (Or.inl rfl) (uf T.k_Even (yry T) (hr.mono (by decide)) rfl T.m_Even T.y_q7.B .nil yu)) (yn (y4 (pv 1) (yt (pv 0) rfl) rfl) (yn (y4 (pv 1) (yt (pv 0) rfl) rfl) (yf (yy (pv 1)))))),?_⟩
  try dsimp only [v7]
  refine yo (σ':=[some _,none]) rfl ?_
  walk_at "rd"
  intro q dq nq ndq ne
  refine ⟨q,dq,rfl,ya,fun H1 hq1 B1=>⟨rfl,?_⟩⟩
  have S1:=xo nq ndq B1
  have hp1:=S1 _ _ hp
  have npq:p≠q:=yd hp nq
  walk_at "rd"
  have hp2:=yj (o':=HO.ins a.C_Even dq (wd (.int n) (.int 0))) npq hp1
  walk_at "rd"
  exact k q dq _ nq ya fun b u e=>yj (yd e nq) (yj (yd e nq) (S1 _ _ e))
theorem yqw:ym ["self"] ["self"] (yg yoo):=⟨rfl,rfl,rfl,by decide +kernel,rfl,by decide +kernel,by decide +kernel⟩
theorem ykl (T:Txt K mg a):we P w K mg base CX0 1 a.f_q11 a.d_q11 ["self"] (ybs a.C_Quick (wg (.int 8388608))):=by
 refine T.y_q11.F.ok yqw (fun vs H Q E h=>?_) (fun cdv A outer s H vs Q E hr h=>?_)
 ·obtain ⟨p,dx,rfl,_⟩:=h
  rfl
 ·obtain ⟨p,dx,rfl,hp,k⟩:=h
  refine ⟨_,(yf (y4 (pv 0) (yr y9 (vc rfl T.c_ONE) yh) rfl)),?_⟩
  try dsimp only [v7]
  refine yo (σ':=[some _]) rfl ?_
  walk_at "rd"
  exact k _ ya But.upd
theorem yro:ym ["self"] ["self"] (yg yoi):=⟨rfl,rfl,rfl,by decide +kernel,rfl,by decide +kernel,by decide +kernel⟩
theorem yrf (T:Txt K mg a):we P w K mg base CX0 1 a.f_q12 a.d_q12 ["self"] (xa (oS a) yos):=by
 refine T.y_q12.F.ok yro (fun vs H Q E h=>?_) (fun cdv A outer s H vs Q E hr h=>?_)
 ·obtain ⟨p,dx,s,rfl,_⟩:=h
  rfl
 ·obtain ⟨p,dx,s',rfl,hg,hs,hp,k⟩:=h
  cases s' with
  | qk h0 =>
   have hp:H p=some (.ins a.C_Quick dx (wg (.int h0))):=hp
   refine ⟨_,(yf (yy (yt (pv 0) rfl))),?_⟩
   try dsimp only [v7]
   refine yo (σ':=[some _]) rfl ?_
   walk_at "rd"
   exact k
  | ev _ _=>exact hg.elim
  | rn _ _=>exact hg.elim
theorem yh7:ym ["self","bit","moved"] ["self","bit"] (yg ynz):=⟨rfl,rfl,rfl,by decide +kernel,rfl,by decide +kernel,by decide +kernel⟩
theorem yrr (T:Txt K mg a):we P w K mg base (CXe P w) 4 a.f_q13 a.d_q13 ["self","bit"] (uj K (oS a) yos a.C_NB):=by
 refine T.y_q13.F.okE yh7 (fun vs H Q E h=>?_) (fun cdv A outer s H vs Q E hr h=>?_)
 ·obtain ⟨p,dx,s,x,n,rfl,_⟩:=h
  rfl
 ·obtain ⟨p,dx,s',x,nm,rfl,hg,hs,hp,ty,k1,k2⟩:=h
  cases s' with
  | qk h0 =>
   obtain ⟨h1,h2⟩:=hs
   have hp:H p=some (.ins a.C_Quick dx (wg (.int h0))):=hp
   refine ⟨_,(yn (y3 (wz (ygb T) (hr.mono (by decide)) rfl T.y_q5.m T.y_q5.F.kp T.y_q5.B .nil xx (yc (pv 1) ye (yb rfl)))) (yn (wt (yz ud (pv 1) yh (y8 _)) (yf (vj (i:=2) yh7.nd rfl (Or.inl rfl) (yr vo (yt (pv 0) rfl) (yr y9 (yr uc (vc rfl T.c_ONE) (yt (pv 0) rfl)) yh)))) (yf (vj (i:=2) yh7.nd rfl (Or.inl rfl) (yr uc (yt (pv 0) rfl) (yr y9 (yt (pv 0) rfl) yh))))) (yf (y4 (pv 0) (yv (j4 rfl) rfl T.z_min (by decide +kernel) (yc (yv (j5 rfl) rfl T.z_max (by decide +kernel) (yc (pv 2) (yc (vc rfl T.c_LEAST) ye (yb rfl)) (yb rfl))) (yc (yr uc (vc rfl T.c_ONE) (vc rfl T.c_LEAST)) ye (yb rfl)) (yb rfl))) rfl)))),?_⟩
   try dsimp only [v7]
   refine yo (σ':=[some _,some _,none]) rfl ?_
   walk_at "rd"
   refine ⟨x,nm,rfl,ty,fun hx=>?_,k2⟩
   obtain ⟨b,rfl,b0,b1⟩:=ye4 hx
   have k:=k1 b rfl b0 b1
   unfold Slt.see at k
   dsimp only at k
   walk_at "rd"
   refine z5 (fun hb=>?_) (fun hb=>?_)
   ·rw [if_pos hb] at k
    walk_at "rd"
    refine ⟨_,_,rfl,?_⟩
    walk_at "rd"
    refine ⟨_,_,rfl,?_⟩
    walk_at "rd"
    exact k _ ya But.upd
   ·rw [if_neg hb] at k
    walk_at "rd"
    refine ⟨_,_,rfl,?_⟩
    walk_at "rd"
    refine ⟨_,_,rfl,?_⟩
    walk_at "rd"
    exact k _ ya But.upd
  | ev _ _=>exact hg.elim
  | rn _ _=>exact hg.elim
theorem yk0:ym ["self","made"] ["self"] (yg yn8):=⟨rfl,rfl,rfl,by decide +kernel,rfl,by decide +kernel,by decide +kernel⟩
theorem yo3 (T:Txt K mg a):we P w K mg base CX0 3 a.f_q14 a.d_q14 ["self"] (ug (oS a) yos):=by
 refine T.y_q14.F.ok yk0 (fun vs H Q E h=>?_) (fun cdv A outer s H vs Q E hr h=>?_)
 ·obtain ⟨p,dx,s,rfl,_⟩:=h
  rfl
 ·obtain ⟨p,dx,s,rfl,hg,hp,k⟩:=h
  cases s with
  | ev _ _=>exact hg.elim
  | rn _ _=>exact hg.elim
  | qk h0 =>
  have hp:H p=some (.ins a.C_Quick dx (wg (.int h0))):=hp
  refine ⟨_,(yn (vj (i:=1) yk0.nd rfl (Or.inl rfl) (uf T.k_Quick (ykl T) (hr.mono (by decide)) rfl T.m_Quick T.y_q11.B .nil yu)) (yn (y4 (pv 1) (yt (pv 0) rfl) rfl) (yf (yy (pv 1))))),?_⟩
  try dsimp only [v7]
  refine yo (σ':=[some _,none]) rfl ?_
  walk_at "rd"
  intro q dq nq ndq ne
  refine ⟨q,dq,rfl,ya,fun H1 hq1 B1=>⟨rfl,?_⟩⟩
  have S1:=xo nq ndq B1
  have hp1:=S1 _ _ hp
  walk_at "rd"
  exact k q dq _ nq ya fun b u e=>yj (yd e nq) (S1 _ _ e)
theorem ypa:ym ["self"] ["self"] (yg yob):=⟨rfl,rfl,rfl,by decide +kernel,rfl,by decide +kernel,by decide +kernel⟩
theorem ykc (T:Txt K mg a):we P w K mg base CX0 1 a.f_q15 a.d_q15 ["self"] (ybs a.C_Run (xf (.int 1) (.int 0))):=by
 refine T.y_q15.F.ok ypa (fun vs H Q E h=>?_) (fun cdv A outer s H vs Q E hr h=>?_)
 ·obtain ⟨p,dx,rfl,_⟩:=h
  rfl
 ·obtain ⟨p,dx,rfl,hp,k⟩:=h
  refine ⟨_,(yn (y4 (pv 0) yh rfl) (yf (y4 (pv 0) yh rfl))),?_⟩
  try dsimp only [v7]
  refine yo (σ':=[some _]) rfl ?_
  walk_at "rd"
  exact k _ ya (But.upd.trans But.upd)
theorem ykm:ym ["self","given"] ["self"] (yg ynt):=⟨rfl,rfl,rfl,by decide +kernel,rfl,by decide +kernel,by decide +kernel⟩
theorem yrh (T:Txt K mg a):we P w K mg base CX0 1 a.f_q16 a.d_q16 ["self"] (xa (oS a) you):=by
 refine T.y_q16.F.ok ykm (fun vs H Q E h=>?_) (fun cdv A outer s H vs Q E hr h=>?_)
 ·obtain ⟨p,dx,s,rfl,_⟩:=h
  rfl
 ·obtain ⟨p,dx,s',rfl,hg,hs,hp,k⟩:=h
  cases s' with
  | rn l n =>
   obtain ⟨h1,h2,h3,h4⟩:=hs
   have hp:H p=some (.ins a.C_Run dx (xf (.int l) (.int n))):=hp
   refine ⟨_,(yn (vj (i:=1) ykm.nd rfl (Or.inl rfl) (yr y9 (yr xt (yr vo (yr xt yh (yt (pv 0) rfl)) yh) (vc rfl T.c_ONE)) (yr vo (yr xt yh (yt (pv 0) rfl)) yh))) (yf (yy (ybr (yz ud (yt (pv 0) rfl) yh (y8 _)) (pv 1) (yr uc (vc rfl T.c_ONE) (pv 1)))))),?_⟩
   try dsimp only [v7]
   refine yo (σ':=[some _,none]) rfl ?_
   walk_at "rd"
   have k:Q (.int (if l=1 then zv n else 16777216 - zv n)) H:=k
   refine z5 (fun hb=>?_) (fun hb=>?_)
   ·rw [if_pos hb] at k
    walk_at "rd"
    exact k
   ·rw [if_neg hb] at k
    walk_at "rd"
    exact k
  | ev _ _=>exact hg.elim
  | qk _=>exact hg.elim
theorem yrm:ym ["self","bit"] ["self","bit"] (yg yns):=⟨rfl,rfl,rfl,by decide +kernel,rfl,by decide +kernel,by decide +kernel⟩
theorem yrl (T:Txt K mg a):we P w K mg base (CXe P w) 4 a.f_q17 a.d_q17 ["self","bit"] (uj K (oS a) you a.C_NB):=by
 refine T.y_q17.F.okE yrm (fun vs H Q E h=>?_) (fun cdv A outer s H vs Q E hr h=>?_)
 ·obtain ⟨p,dx,s,x,n,rfl,_⟩:=h
  rfl
 ·obtain ⟨p,dx,s',x,nm,rfl,hg,hs,hp,ty,k1,k2⟩:=h
  cases s' with
  | rn l n =>
   obtain ⟨h1,h2,h3,h4⟩:=hs
   have hp:H p=some (.ins a.C_Run dx (xf (.int l) (.int n))):=hp
   refine ⟨_,(yn (y3 (wz (ygb T) (hr.mono (by decide)) rfl T.y_q5.m T.y_q5.F.kp T.y_q5.B .nil xx (yc (pv 1) ye (yb rfl)))) (yf (wt (yz ud (pv 1) (yt (pv 0) rfl) (y8 _)) (yf (y4 (pv 0) (yv (j4 rfl) rfl T.z_min (by decide +kernel) (yc (yr vo (yt (pv 0) rfl) yh) (yc (vc rfl T.c_MOST_COUNTED) ye (yb rfl)) (yb rfl))) rfl)) (yn (y4 (pv 0) (pv 1) rfl) (yf (y4 (pv 0) yh rfl)))))),?_⟩
   try dsimp only [v7]
   refine yo (σ':=[some _,some _]) rfl ?_
   walk_at "rd"
   refine ⟨x,nm,rfl,ty,fun hx=>?_,k2⟩
   obtain ⟨b,rfl,b0,b1⟩:=ye4 hx
   have k:=k1 b rfl b0 b1
   unfold Slt.see at k
   dsimp only at k
   walk_at "rd"
   refine z5 (fun hb=>?_) (fun hb=>?_)
   ·rw [if_pos hb] at k
    walk_at "rd"
    refine ⟨_,_,rfl,?_⟩
    walk_at "rd"
    exact k _ ya But.upd
   ·rw [if_neg hb] at k
    walk_at "rd"
    exact k _ ya (But.upd.trans But.upd)
  | ev _ _=>exact hg.elim
  | qk _=>exact hg.elim
theorem yj7:ym ["self","made"] ["self"] (yg yom):=⟨rfl,rfl,rfl,by decide +kernel,rfl,by decide +kernel,by decide +kernel⟩
theorem yql (T:Txt K mg a):we P w K mg base CX0 3 a.f_q18 a.d_q18 ["self"] (ug (oS a) you):=by
 refine T.y_q18.F.ok yj7 (fun vs H Q E h=>?_) (fun cdv A outer s H vs Q E hr h=>?_)
 ·obtain ⟨p,dx,s,rfl,_⟩:=h
  rfl
 ·obtain ⟨p,dx,s,rfl,hg,hp,k⟩:=h
  cases s with
  | ev _ _=>exact hg.elim
  | qk _=>exact hg.elim
  | rn l n =>
  have hp:H p=some (.ins a.C_Run dx (xf (.int l) (.int n))):=hp
  refine ⟨_,(yn (vj (i:=1) yj7.nd rfl (Or.inl rfl) (uf T.k_Run (ykc T) (hr.mono (by decide)) rfl T.m_Run T.y_q15.B .nil yu)) (yn (y4 (pv 1) (yt (pv 0) rfl) rfl) (yn (y4 (pv 1) (yt (pv 0) rfl) rfl) (yf (yy (pv 1)))))),?_⟩
  try dsimp only [v7]
  refine yo (σ':=[some _,none]) rfl ?_
  walk_at "rd"
  intro q dq nq ndq ne
  refine ⟨q,dq,rfl,ya,fun H1 hq1 B1=>⟨rfl,?_⟩⟩
  have S1:=xo nq ndq B1
  have hp1:=S1 _ _ hp
  have npq:p≠q:=yd hp nq
  walk_at "rd"
  have hp2:=yj (o':=HO.ins a.C_Run dq (xf (.int l) (.int 0))) npq hp1
  walk_at "rd"
  exact k q dq _ nq ya fun b u e=>yj (yd e nq) (yj (yd e nq) (S1 _ _ e))
theorem yqd:ym ["kind"] ["kind"] (yg yon):=⟨rfl,rfl,rfl,by decide +kernel,rfl,by decide +kernel,by decide +kernel⟩
def yf4 (a:Ads):Sp:=fun vs H Q _=>∃ k:Fin 3,vs=[.str (kdS k)]/\∀ p dx H',H p=none->H' p=some (oS a dx (kd0 k))->y6 H H'->Q (.ref p) H'
theorem yra (T:Txt K mg a):we P w K mg base CX0 3 a.f_q19 a.d_q19 ["kind"] (yf4 a):=by
 refine T.y_q19.F.ok yqd (fun vs H Q E h=>?_) (fun cdv A outer s H vs Q E hr h=>?_)
 ·obtain ⟨k,rfl,_⟩:=h
  rfl
 ·obtain ⟨kk,rfl,k⟩:=h
  refine ⟨_,(yn (wt (yz ud (pv 0) uq (y8 _)) (yf (yy (uf T.k_Even (yry T) (hr.mono (by decide)) rfl T.m_Even T.y_q7.B .nil yu))) vw) (yn (wt (yz ud (pv 0) uq (y8 _)) (yf (yy (uf T.k_Quick (ykl T) (hr.mono (by decide)) rfl T.m_Quick T.y_q11.B .nil yu))) vw) (yn (wt (yz ud (pv 0) uq (y8 _)) (yf (yy (uf T.k_Run (ykc T) (hr.mono (by decide)) rfl T.m_Run T.y_q15.B .nil yu))) vw) (yf yjb)))),?_⟩
  try dsimp only [v7]
  refine yo (σ':=[some _]) rfl ?_
  walk_at "rd"
  refine ⟨rfl,?_⟩
  match kk with
  | 0 =>
   refine ⟨_,rfl,yig rfl ?_⟩
   walk_at "rd"
   intro p dx np ndx ne
   refine ⟨p,dx,rfl,ya,fun H1 hp1 B1=>⟨rfl,?_⟩⟩
   exact k p dx H1 np hp1 fun b o e=>B1 b o (by rw [yi (yd e np),yi (yd e ndx)]; exact e) (yd e np)
  | 1 =>
   refine ⟨_,rfl,ym7 (by intro z; injection z with z; revert z; decide +kernel) ?_⟩
   walk_at "rd"
   refine ⟨rfl,?_⟩
   refine ⟨_,rfl,yig rfl ?_⟩
   walk_at "rd"
   intro p dx np ndx ne
   refine ⟨p,dx,rfl,ya,fun H1 hp1 B1=>⟨rfl,?_⟩⟩
   exact k p dx H1 np hp1 fun b o e=>B1 b o (by rw [yi (yd e np),yi (yd e ndx)]; exact e) (yd e np)
  | 2 =>
   refine ⟨_,rfl,ym7 (by intro z; injection z with z; revert z; decide +kernel) ?_⟩
   walk_at "rd"
   refine ⟨rfl,?_⟩
   refine ⟨_,rfl,ym7 (by intro z; injection z with z; revert z; decide +kernel) ?_⟩
   walk_at "rd"
   refine ⟨rfl,?_⟩
   refine ⟨_,rfl,yig rfl ?_⟩
   walk_at "rd"
   intro p dx np ndx ne
   refine ⟨p,dx,rfl,ya,fun H1 hp1 B1=>⟨rfl,?_⟩⟩
   exact k p dx H1 np hp1 fun b o e=>B1 b o (by rw [yi (yd e np),yi (yd e ndx)]; exact e) (yd e np)
theorem yq7:ym ["thing"] ["thing"] (yg ynv):=⟨rfl,rfl,rfl,by decide +kernel,rfl,by decide +kernel,by decide +kernel⟩
def ye9 (K:W.Frag):Sp:=fun vs H Q _=>∃ x n,vs=[x]/\xn K H x (.type n)/\Q (.bl (yie x)) H
theorem yqc (T:Txt K mg a):we P w K mg base CX0 1 a.f_q20 a.d_q20 ["thing"] (ye9 K):=by
 refine T.y_q20.F.ok yq7 (fun vs H Q E h=>?_) (fun cdv A outer s H vs Q E hr h=>?_)
 ·obtain ⟨x,n,rfl,_⟩:=h
  rfl
 ·obtain ⟨x,n,rfl,ty,k⟩:=h
  refine ⟨_,(yf (yy (zi (yv vq rfl T.z_isinstance (by decide +kernel) (yc (pv 0) (yc (yad (T:="str") rfl T.z_str (by decide +kernel)) ye (yb rfl)) (yb rfl))) (j9 (j7 ygh (pv 0) (yd6 rfl T.m_KINDS) (by with_unfolding_all rfl)))))),?_⟩
  try dsimp only [v7]
  refine yo (σ':=[some _]) rfl ?_
  walk_at "rd"
  refine yb3 ty (yjl ty) ?_
  walk_at "rd"
  by_cases hn:n="str"
  ·obtain ⟨s',rfl⟩:∃ s',x=.str s':=by
    cases ty with
    | str s'=>exact ⟨s',rfl⟩
    | _=>exact absurd hn (by decide)
   rw [decide_eq_true hn]
   refine ylb ?_
   walk_at "rd"
   exact ⟨a.W_KINDS,_,rfl,.inr (T.w_KINDS H),rfl,rfl,k⟩
  ·have e:yie x=false:=by
    cases ty with
    | str s'=>exact absurd rfl hn
    | _=>rfl
   rw [decide_eq_false hn]
   rw [e] at k
   exact yj0 k
theorem yp6:ym ["thing"] ["thing"] (yg yoj):=⟨rfl,rfl,rfl,by decide +kernel,rfl,by decide +kernel,by decide +kernel⟩
def yc9 (K:W.Frag):Sp:=fun vs H Q _=>∃ x n,vs=[x]/\xn K H x (.type n)/\Q (.bl (plV x)) H
theorem yo2 (T:Txt K mg a):we P w K mg base CX0 2 a.f_q21 a.d_q21 ["thing"] (yc9 K):=by
 refine T.y_q21.F.ok yp6 (fun vs H Q E h=>?_) (fun cdv A outer s H vs Q E hr h=>?_)
 ·obtain ⟨x,n,rfl,_⟩:=h
  rfl
 ·obtain ⟨x,n,rfl,ty,k⟩:=h
  refine ⟨_,(yf (yy (zi (yw (ynl T) (hr.mono (by decide)) rfl T.y_q1.m T.y_q1.F.kp T.y_q1.B .nil yu (yc (pv 0) ye (yb rfl))) (j9 (ybu yai yai yh (pv 0) (vc rfl T.c_FARTHEST)))))),?_⟩
  try dsimp only [v7]
  refine yo (σ':=[some _]) rfl ?_
  walk_at "rd"
  refine ⟨x,n,rfl,ty,?_⟩
  walk_at "rd"
  cases hx:yac x with
  | false =>
   have e:plV x=false:=by
    cases x <;> first | rfl | cases hx
   rw [e] at k
   exact yj0 k
  | true =>
   obtain ⟨i,rfl⟩:=zn hx
   refine ylb ?_
   walk_at "rd"
   refine z5 (fun h0=>?_) (fun h0=>?_)
   ·walk_at "rd"
    have e:plV (.int i)=decide (i <= 8):=by simp [plV,h0]
    rw [e] at k
    exact k
   ·have e:plV (.int i)=false:=by simp [plV,h0]
    rw [e] at k
    exact k
theorem yrk:ym ["thing"] ["thing"] (yg ynu):=⟨rfl,rfl,rfl,by decide +kernel,rfl,by decide +kernel,by decide +kernel⟩
def ybd (K:W.Frag):Sp:=fun vs H Q _=>∃ x b,vs=[x]/\PlB K H x b/\∀ H',y6 H H'->Q (.bl b) H'
theorem ypv (T:Txt K mg a):we P w K mg base CX0 3 a.f_q22 a.d_q22 ["thing"] (ybd K):=by
 refine T.y_q22.F.ok yrk (fun vs H Q E h=>?_) (fun cdv A outer s H vs Q E hr h=>?_)
 ·obtain ⟨x,b,rfl,_⟩:=h
  rfl
 ·obtain ⟨x,b,rfl,hb,k⟩:=h
  refine ⟨_,(yn (wt (PW.pt (yag (x0 (ur (yv vq rfl T.z_isinstance (by decide +kernel) (yc (pv 0) (yc (yad (T:="tuple") rfl T.z_tuple (by decide +kernel)) ye (yb rfl)) (yb rfl))))) (yag (yz ynn (yv ve rfl T.z_len (by decide +kernel) (yc (pv 0) ye (yb rfl))) (vc rfl T.c_MOST_PLACES) (y8 _)) (j8 (x0 (ur (yv (je rfl) rfl T.z_all (by decide +kernel) (yc (ua rfl (ykr (pv 0)) (fun C s2 H2 fp=>(yw (yo2 T) (hr.mono (by decide)) rfl T.y_q21.m T.y_q21.F.kp T.y_q21.B .nil yu (yc (pv 0) ye (yb rfl))))) ye (yb rfl))))))))) (yf (yy yf9)) vw) (yf (yy (yv (je rfl) rfl T.z_all (by decide +kernel) (yc (yek (js:=[]) (ys:=[]) (xs:=["near","far"]) (g:=yox K 2 (ul (wf 0) (ul (wf 1) yj2))) rfl (yl8 rfl T.z_zip (yc (pv 0) (yc (xw (yq0.or yml) (pv 0) (uw yh) uy) ye (yb rfl)) (yb rfl))) (fun C s2 H2 fp=>(j7 yne (pv 0) (pv 1) (y8 _))) rfl (fun C s2 H2 fp=>ye2 rfl (xh (wu (i:=0) (show List.Nodup ((["near","far"]:List Str)++([]:List Str)) by decide +kernel) rfl (Or.inl rfl)) (xh (wu (i:=1) (show List.Nodup ((["near","far"]:List Str)++([]:List Str)) by decide +kernel) rfl (Or.inl rfl)) yb2))) rfl (hyc:=vn) (hrel:=vn)) ye (yb rfl)))))),?_⟩
  try dsimp only [v7]
  refine yo (σ':=[some _]) rfl ?_
  rcases hb with ⟨n,ty,hn,rfl⟩ | ⟨t,xs,rfl,ht,hl,hy,rfl⟩
  ·walk_at "rd"
   refine yb3 ty (z8 ty) ?_
   walk_at "rd"
   refine ynw hn ?_
   walk_at "rd"
   exact k _ (y6.refl _)
  ·walk_at "rd"
   refine yb3 (.tup ht) (z8 (.tup ht)) ?_
   walk_at "rd"
   refine yog rfl ?_
   walk_at "rd"
   refine yku (SqT.of ht) ?_
   walk_at "rd"
   unfold x8 at k
   refine z5 (fun h4=>?_) (fun h4=>?_)
   ·rw [decide_eq_false (by omega),Bool.false_and,Bool.false_and] at k
    walk_at "rd"
    exact k _ (y6.refl _)
   ·rw [decide_eq_true (by omega),Bool.true_and] at k
    walk_at "rd"
    refine ⟨t,rfl,⟨_,SqT.of ht⟩,fun D hD=>?_⟩
    refine yhd (xs:=xs) (fun v=>.bl (plV v)) (SqT.of ht) hD (fun i y H2 hy2 S2 hD2=>?_) (fun H2 S2 hD2=>?_)
    ·obtain ⟨n,tyy⟩:=hy y (List.mem_of_getElem? hy2)
     walk_at "rd"
     refine ⟨y,n,rfl,ya0 S2 tyy,?_⟩
     exact Mp.done hD (vf (by omega)) hy2 S2 hD2 rfl
    have e:xs.map (fun v=>V.bl (plV v))=(xs.map plV).map V.bl:=by rw [List.map_map]; rfl
    rw [e] at hD2
    walk_at "rd"
    refine ⟨D,_,rfl,SqL.of hD2,?_⟩
    rw [List.all_map]
    have ea:xs.all (id ∘ plV)=xs.all plV:=rfl
    rw [ea]
    have ht2:=S2 _ _ ht
    cases hp:xs.all plV with
    | false =>
     rw [hp,Bool.false_and] at k
     walk_at "rd"
     exact k _ S2
    | true =>
     rw [hp,Bool.true_and] at k
     have hint:∀ y∈xs,∃ i:Int,y=.int i:=fun y hm=>by
      have:=List.all_eq_true.mp hp y hm
      cases y with
      | int i=>exact ⟨i,rfl⟩
      | _=>cases this
     walk_at "rd"
     by_cases hx0:xs=[]
     ·refine .inr ⟨t,xs,rfl,SqT.of ht2,?_,?_⟩
      ·subst hx0
       exact ⟨rfl,rfl⟩
      ·refine ⟨t,t,rfl,⟨_,_,SqT.of ht2,SqT.of ht2⟩,fun D2 hD2'=>?_⟩
       refine yhm (xs:=xs) hint (by omega) (SqT.of ht2) (by subst hx0; exact SqT.of ht2) hD2' (fun i j σ' H' Q' h=>?_) (fun H4 S4 hD4=>?_)
       ·walk_at "rd"
        exact h
       ·walk_at "rd"
        exact ⟨D2,_,rfl,SqL.of hD4,k _ (S2.trans S4)⟩
     ·refine .inl ⟨t,xs,rfl,SqT.of ht2,?_,fun u hu=>?_⟩
      ·rintro ⟨z,_⟩
       have e1:HT.sIx xs.length 0 (some 1)=min 1 xs.length:=by
        have:=HT.sIx_nat xs.length 0 1
        simpa using this
       rw [e1] at z
       cases xs with
       | nil=>exact hx0 rfl
       | cons x r=>simp at z
      ·rw [ymq]
       have S3:=y1 (o:=(HO.tup xs.tail)) hu
       have hu3:upd H2 u (HO.tup xs.tail) u=some (HO.tup xs.tail):=ya
       generalize upd H2 u (HO.tup xs.tail)=H3 at S3 hu3 ⊢
       refine ⟨t,u,rfl,⟨_,_,SqT.of (S3 _ _ ht2),SqT.of hu3⟩,fun D2 hD2'=>?_⟩
       refine yhm (xs:=xs) hint (by omega) (SqT.of (S3 _ _ ht2)) (SqT.of hu3) hD2' (fun i j σ' H' Q' h=>?_) (fun H4 S4 hD4=>?_)
       ·walk_at "rd"
        exact h
       ·walk_at "rd"
        exact ⟨D2,_,rfl,SqL.of hD4,k _ (S2.trans (S3.trans S4))⟩
theorem yoz:ym ["thing"] ["thing"] (yg yoe):=⟨rfl,rfl,rfl,by decide +kernel,rfl,by decide +kernel,by decide +kernel⟩
def yfp (K:W.Frag):Sp:=fun vs H Q _=>∃ x b,vs=[x]/\LkB K H x b/\∀ H',y6 H H'->Q (.bl b) H'
theorem yki (T:Txt K mg a):we P w K mg base CX0 4 a.f_q23 a.d_q23 ["thing"] (yfp K):=by
 refine T.y_q23.F.ok yoz (fun vs H Q E h=>?_) (fun cdv A outer s H vs Q E hr h=>?_)
 ·obtain ⟨x,b,rfl,_⟩:=h
  rfl
 ·obtain ⟨x,b,rfl,hb,k⟩:=h
  refine ⟨_,(yf (yy (zi (yv vq rfl T.z_isinstance (by decide +kernel) (yc (pv 0) (yc (yad (T:="tuple") rfl T.z_tuple (by decide +kernel)) ye (yb rfl)) (yb rfl))) (zi (j7 ud (yv ve rfl T.z_len (by decide +kernel) (yc (pv 0) ye (yb rfl))) yh (y8 _)) (zi (yw (yqc T) (hr.mono (by decide)) rfl T.y_q20.m T.y_q20.F.kp T.y_q20.B .nil yu (yc (yal ye6 (pv 0) yh (fun _ _=>rfl)) ye (yb rfl))) (j9 (yw (ypv T) (hr.mono (by decide)) rfl T.y_q22.m T.y_q22.F.kp T.y_q22.B .nil yu (yc (yal ye6 (pv 0) yh (fun _ _=>rfl)) ye (yb rfl))))))))),?_⟩
  try dsimp only [v7]
  refine yo (σ':=[some _]) rfl ?_
  rcases hb with ⟨n,ty,hn,rfl⟩ | ⟨t,xs,rfl,ht,hb⟩
  ·walk_at "rd"
   refine yb3 ty (z8 ty) ?_
   walk_at "rd"
   rw [decide_eq_false hn]
   exact yj0 (k _ (y6.refl _))
  ·walk_at "rd"
   refine yb3 (.tup ht) (z8 (.tup ht)) ?_
   walk_at "rd"
   refine yig rfl ?_
   walk_at "rd"
   refine yku (SqT.of ht) ?_
   walk_at "rd"
   rcases hb with ⟨h2,rfl⟩ | ⟨y,z,n,rfl,ty,hb⟩
   ·rw [decide_eq_false (show ¬ ((xs.length:Int)=2) by omega)]
    exact yj0 (k _ (y6.refl _))
   ·refine yig rfl ?_
    walk_at "rd"
    refine yjt (SqT.of ht) (ux (j:=0) rfl) ?_
    walk_at "rd"
    refine ⟨y,n,rfl,ty,?_⟩
    rcases hb with ⟨hk,rfl⟩ | ⟨hk,hp⟩
    ·rw [hk]
     walk_at "rd"
     exact k _ (y6.refl _)
    ·rw [hk]
     walk_at "rd"
     refine yjt (SqT.of ht) (ux (j:=1) rfl) ?_
     walk_at "rd"
     exact ⟨z,b,rfl,hp,k⟩
theorem yqt:ym ["thing"] ["thing"] (yg yn9):=⟨rfl,rfl,rfl,by decide +kernel,rfl,by decide +kernel,by decide +kernel⟩
def yha (K:W.Frag) (C:Addr):Sp:=fun vs H Q E=>(∃ x n,vs=[x]/\xn K H x (.type n)/\n≠"list"/\E (.ref C) none H) \/
 ∃ (l:Addr) (xs:List V) (bs:List Bool),vs=[.ref l]/\H l=some (.lst xs)/\xs.length <= 1000/\ytx K H xs bs /\
  ((1 <= xs.length/\xs.length <= 6/\bs.all id=true)->∀ r H',H r=none->H' r=some (.lst xs)->y6 H H'->Q (.ref r) H') /\
  (¬ (1 <= xs.length/\xs.length <= 6/\bs.all id=true)->∀ H',y6 H H'->E (.ref C) none H')
theorem yo6 (T:Txt K mg a):we P w K mg base (CXe P w) 5 a.f_q24 a.d_q24 ["thing"] (yha K a.C_NL):=by
 refine T.y_q24.F.okE yqt (fun vs H Q E h=>?_) (fun cdv A outer s H vs Q E hr h=>?_)
 ·rcases h with ⟨x,n,rfl,_⟩ | ⟨l,xs,f,rfl,_⟩
  ·rfl
  ·rfl
 ·rcases h with ⟨x,n,rfl,ty,hn,k⟩ | ⟨l,xs,bs,rfl,hl,hz,hy,k1,k2⟩
  ·refine ⟨_,(yn (wt (PW.pt (yag (x0 (ur (yv vq rfl T.z_isinstance (by decide +kernel) (yc (pv 0) (yc (yad (T:="list") rfl T.z_list (by decide +kernel)) ye (yb rfl)) (yb rfl))))) (yag (x0 (yet yai yai yh (yv ve rfl T.z_len (by decide +kernel) (yc (pv 0) ye (yb rfl))) (vc rfl T.c_MOST_LOOKS))) (j8 (x0 (ur (yv (je rfl) rfl T.z_all (by decide +kernel) (yc (ua rfl (wx (pv 0)) (fun C s2 H2 fp=>(yw (yki T) (hr.mono (by decide)) rfl T.y_q23.m T.y_q23.F.kp T.y_q23.B .nil yu (yc (pv 0) ye (yb rfl))))) ye (yb rfl))))))))) (yf (jd rfl T.m_NL T.r_NL (yc uq ye (yb rfl)))) vw) (yf (yy (v9 vi rfl T.z_list (by decide +kernel) (yc (pv 0) ye (yb rfl)))))),?_⟩
   refine yo (σ':=[some _]) rfl ?_
   walk_at "rd"
   refine yb3 ty (yel ty) ?_
   walk_at "rd"
   refine ynw hn ?_
   walk_at "rd"
   exact ⟨by walk_at "len",k⟩
  ·refine ⟨_,(yn (wt (PW.pt (yag (x0 (ur (yv vq rfl T.z_isinstance (by decide +kernel) (yc (pv 0) (yc (yad (T:="list") rfl T.z_list (by decide +kernel)) ye (yb rfl)) (yb rfl))))) (yag (x0 (yet yai yai yh (yv ve rfl T.z_len (by decide +kernel) (yc (pv 0) ye (yb rfl))) (vc rfl T.c_MOST_LOOKS))) (j8 (x0 (ur (yv (je rfl) rfl T.z_all (by decide +kernel) (yc (ua rfl (wx (pv 0)) (fun C s2 H2 fp=>(yw (yki T) (hr.mono (by decide)) rfl T.y_q23.m T.y_q23.F.kp T.y_q23.B .nil yu (yc (pv 0) ye (yb rfl))))) ye (yb rfl))))))))) (yf (jd rfl T.m_NL T.r_NL (yc uq ye (yb rfl)))) vw) (yf (yy (v9 vi rfl T.z_list (by decide +kernel) (yc (pv 0) ye (yb rfl)))))),?_⟩
   refine yo (σ':=[some _]) rfl ?_
   walk_at "rd"
   refine yb3 (.lst hl) (yel (.lst hl)) ?_
   walk_at "rd"
   refine yog rfl ?_
   walk_at "rd"
   refine yea (SqL.of hl) ?_
   walk_at "rd"
   refine z5 (fun h1=>?_) (fun h1=>?_)
   ·walk_at "rd"
    refine yu7 (fun h6=>?_) (fun h6=>?_)
    ·walk_at "rd"
     refine ⟨l,rfl,⟨_,SqL.of hl⟩,fun D hD=>?_⟩
     refine x6 (K:=K) (xs:=xs) (Mp H D (fun i=>V.bl ((bs[i]?).getD false))) (Mp.zero hD) (fun _ _ _ p=>p.1.seq (SqL.of hl)) (fun i y H2 hy2 hi p=>?_) (fun H2 p=>?_)
     ·obtain ⟨S2,hD2⟩:=p
      have hib:i < bs.length:=by rw [<- hy.1]; exact hi
      walk_at "rd"
      refine ⟨y,bs[i],rfl,(hy.2 i y _ hy2 (List.getElem?_eq_getElem hib)).same S2,fun H3 S3=>?_⟩
      refine Mp.doneR hD (vf (by omega)) hi (S2.trans S3) (S3 _ _ hD2) ?_
      rw [List.getElem?_eq_getElem hib]
      rfl
     obtain ⟨S2,hD2⟩:=p
     rw [yjg bs hy.1] at hD2
     walk_at "rd"
     refine ⟨D,_,rfl,SqL.of hD2,?_⟩
     have hl2:=S2 _ _ hl
     cases hp:bs.all id with
     | false =>
      walk_at "rd"
      exact ⟨by walk_at "len",k2 (by rw [hp]; rintro ⟨_,_,z⟩; cases z) _ S2⟩
     | true =>
      walk_at "rd"
      refine xi (SqL.of hl2) fun r hr0=>?_
      exact k1 ⟨by omega,by omega,hp⟩ r _ (S2.free hr0) ya (S2.trans (y1 hr0))
    ·walk_at "rd"
     exact ⟨by walk_at "len",k2 (by omega) _ (y6.refl _)⟩
   ·walk_at "rd"
    exact ⟨by walk_at "len",k2 (by omega) _ (y6.refl _)⟩
theorem ypp:ym ["signs","place"] ["signs","place"] (yg yof):=⟨rfl,rfl,rfl,by decide +kernel,rfl,by decide +kernel,by decide +kernel⟩
def yjh (K:W.Frag):Sp:=fun vs H Q _=>∃ (l:Addr) (sg:List Int) (p:Int),vs=[.ref l,.int p]/\SqL K H l (sg.map V.int)/\1 <= p/\Q (.int (ylc sg p)) H
theorem yo9 (T:Txt K mg a):we P w K mg base CX0 1 a.f_q25 a.d_q25 ["signs","place"] (yjh K):=by
 refine T.y_q25.F.ok ypp (fun vs H Q E h=>?_) (fun cdv A outer s H vs Q E hr h=>?_)
 ·obtain ⟨l,sg,p,rfl,_⟩:=h
  rfl
 ·obtain ⟨l,sg,p,rfl,hl,hp,k⟩:=h
  refine ⟨_,(yf (yy (ybr (yz yai (pv 1) (yv ve rfl T.z_len (by decide +kernel) (yc (pv 0) ye (yb rfl))) (y8 _)) (yal zr (pv 0) (ysu ypo (pv 1)) (fun _ _=>rfl)) (vc rfl T.c_NO_SIGN)))),?_⟩
  try dsimp only [v7]
  refine yo (σ':=[some _,some _]) rfl ?_
  walk_at "rd"
  refine yea hl ?_
  rw [List.length_map]
  walk_at "rd"
  unfold ylc at k
  refine z5 (fun hb=>?_) (fun hb=>?_)
  ·rw [if_pos hb] at k
   obtain ⟨c,hc,_⟩:=yiq hp hb
   rw [hc] at k
   walk_at "rd"
   exact yif hl (by rw [yl1,hc]; rfl) k
  ·rw [if_neg hb] at k
   walk_at "rd"
   exact k
theorem ypy:ym ["look","signs","node"] ["look","signs","node"] (yg yn5):=⟨rfl,rfl,rfl,by decide +kernel,rfl,by decide +kernel,by decide +kernel⟩
def xr (K:W.Frag) (H:Hp) (k:Addr) (x:V) (ps:List Int):Prop:=∃ t,SqT K H k [x,.ref t]/\SqT K H t (ps.map V.int)/\(∀ p∈ps,1 <= p/\p <= 8)/\ps.length <= 4
theorem xr.same {K:W.Frag} {H H':Hp} {k:Addr} {x:V} {ps:List Int} (S:y6 H H') (h:xr K H k x ps):xr K H' k x ps:=by
 obtain ⟨t,h1,h2,h3,h4⟩:=h
 exact ⟨t,S.tup h1,S.tup h2,h3,h4⟩
def ctx (ps sg:List Int) (nd:Int):List Int:=ps.map (ylc sg)++[nd]
def bkV (sg:List Int):V->V
 | .int p=>.int (ylc sg p)
 | _=>.non
theorem yl4 (sg ps:List Int):(ps.map V.int).map (bkV sg)=(ps.map (ylc sg)).map V.int:=by
 rw [List.map_map,List.map_map]
 rfl
def yfq (K:W.Frag):Sp:=fun vs H Q _=>∃ (k l:Addr) (x:V) (ps sg:List Int) (nd:Int),vs=[.ref k,.ref l,.int nd]/\xr K H k x ps/\SqL K H l (sg.map V.int) /\
 ∀ r H',H r=none->H' r=some (.tup ((ctx ps sg nd).map V.int))->y6 H H'->Q (.ref r) H'
theorem yrp (T:Txt K mg a):we P w K mg base CX0 2 a.f_q26 a.d_q26 ["look","signs","node"] (yfq K):=by
 refine T.y_q26.F.ok ypy (fun vs H Q E h=>?_) (fun cdv A outer s H vs Q E hr h=>?_)
 ·obtain ⟨k,l,x,ps,sg,nd,rfl,_⟩:=h
  rfl
 ·obtain ⟨ka,l,x,ps,sg,nd,rfl,⟨t,hk,ht,hps,hpl⟩,hl,k⟩:=h
  refine ⟨_,(yf (yy (v9 u9 rfl T.z_tuple (by decide +kernel) (yc (yr yk5 (jc (js:=[1]) (ys:=["signs"]) rfl (ykr (yal ye6 (pv 0) yh (fun _ _=>rfl))) (fun C s2 H2 fp=>(yw (yo9 T) (hr.mono (by decide)) rfl T.y_q25.m T.y_q25.F.kp T.y_q25.B .nil yu (yc (pv 1) (yc (pv 0) ye (yb rfl)) (yb rfl)))) rfl rfl (hyc:=(all_cons rfl vn)) (hrel:=(all_cons rfl vn))) (zx (yc (pv 2) ye (yb rfl)))) ye (yb rfl))))),?_⟩
  try dsimp only [v7]
  refine yo (σ':=[some _,some _,some _]) rfl ?_
  walk_at "rd"
  refine yjt hk (ux (j:=1) rfl) ?_
  refine ⟨t,rfl,⟨_,ht⟩,fun D hD=>?_⟩
  have hpz:(ps.map V.int).length < sizeLine:=vf (by rw [List.length_map]; omega)
  refine yf6 (xs:=ps.map V.int) (bkV sg) ht hD (fun i y H2 hy S2 hD2=>?_) (fun H2 S2 hD2=>?_)
  ·obtain ⟨p,rfl,hpm,_,_⟩:=uo hy
   walk_at "rd"
   refine ⟨l,sg,p,rfl,S2.seq hl,(hps p hpm).1,?_⟩
   exact Mp.done hD hpz hy S2 hD2 rfl
  ·rw [yl4] at hD2
   walk_at "rd"
   refine ⟨by walk_at "len",fun n hn=>?_⟩
   with_reducible first | refine vg hn fun H3 S3 hn3=>?_ | refine vy hn fun H3 S3 hn3=>?_
   refine ⟨D,n,_,_,rfl,rfl,S3 _ _ hD2,hn3,yd5 (by rw [List.length_map,List.length_map]; show _+1 <= _; omega),fun c hc=>?_⟩
   with_reducible first | refine vg hc fun H4 S4 hc4=>?_ | refine vy hc fun H4 S4 hc4=>?_
   refine ⟨c,_,rfl,.inl ⟨SqL.of hc4,fun r hr0=>?_⟩⟩
   have S:=S2.trans (S3.trans S4)
   refine k r _ (S.free hr0) (ya.trans ?_) (S.trans (y1 hr0))
   unfold ctx
   rw [List.map_append]
   rfl
theorem ypq:ym ["self","look"] ["self","look"] (yg ynm):=⟨rfl,rfl,rfl,by decide +kernel,rfl,by decide +kernel,by decide +kernel⟩
def ygy (a:Ads):Sp:=fun vs H Q _=>∃ (p dx lk:Addr) (kd:Fin 3),vs=[.ref p,.ref lk]/\H p=some (.ins a.C_Book dx [])/\∀ d H',H d=none->zk a H' p dx lk d kd (fun _=>none) (fun b=>b=d) 0->But p H H'->Q .non H'
theorem ykk (T:Txt K mg a):we P w K mg base CX0 1 a.f_q27 a.d_q27 ["self","look"] (ygy a):=by
 refine T.y_q27.F.ok ypq (fun vs H Q E h=>?_) (fun cdv A outer s H vs Q E hr h=>?_)
 ·obtain ⟨p,dx,lk,kd,rfl,_⟩:=h
  rfl
 ·obtain ⟨p,dx,lk,kd,rfl,hp,k⟩:=h
  refine ⟨_,(yn (y4 (pv 0) (pv 1) rfl) (yf (y4 (pv 0) yeu rfl))),?_⟩
  try dsimp only [v7]
  refine yo (σ':=[some _,some _]) rfl ?_
  walk_at "rd"
  intro d hd
  have hd0:H d=none:=by
   cases e:H d with
   | none=>rfl
   | some o =>
    by_cases z:d=p
    ·rw [z,ya] at hd; cases hd
    ·rw [yi z,e] at hd; cases hd
  have ndp:d≠p:=fun z=>by rw [z,hp] at hd0; cases hd0
  have hp2:=x9 (o':=HO.dT []) hd (show upd H p (HO.ins a.C_Book dx ([("look",V.ref lk)]:List (Str × V))) p=some (HO.ins a.C_Book dx ([("look",V.ref lk)]:List (Str × V))) from ya)
  have hd2:upd (upd H p (HO.ins a.C_Book dx ([("look",V.ref lk)]:List (Str × V)))) d (.dT []) d=some (.dT []):=ya
  have B2:But p H (upd (upd H p (HO.ins a.C_Book dx ([("look",V.ref lk)]:List (Str × V)))) d (.dT [])):=fun b o e n=>by rw [yi (yd e hd0),yi n]; exact e
  generalize upd (upd H p (HO.ins a.C_Book dx ([("look",V.ref lk)]:List (Str × V)))) d (.dT [])=H2 at hp2 hd2 B2 ⊢
  walk_at "rd"
  refine k d _ hd0 ⟨ya,fun b hb=>⟨HO.dT [],by cases hb; exact yj ndp hd2,rfl⟩,fun z=>ndp z.symm,rfl,fun kvs e=>(by cases (yj ndp hd2).symm.trans e; exact ⟨List.nodup_nil,fun _ z=>(nomatch z)⟩),[],fun _=>(0,0),yj ndp hd2,Nat.le_refl _,fun _ _=>rfl,fun _ _ z=>(nomatch z),fun _ _ _ _ z=>(nomatch z)⟩ (B2.trans But.upd)
theorem yky:ym ["self","signs","node","context"] ["self","signs","node"] (yg yn4):=⟨rfl,rfl,rfl,by decide +kernel,rfl,by decide +kernel,by decide +kernel⟩
def ygs (K:W.Frag) (a:Ads):Sp:=fun vs H Q _=>∃ (p dx lk d sl:Addr) (kd:Fin 3) (f:List Int->Option Slt) (O:Addr->Prop) (m:Nat) (ps sg:List Int) (nd:Int),vs=[.ref p,.ref sl,.int nd]/\zk a H p dx lk d kd f O m/\m < 1000000/\xr K H lk (.str (kdS kd)) ps/\SqL K H sl (sg.map V.int) /\
 ∀ (q:Addr) (O':Addr->Prop) (H':Hp),zk a H' p dx lk d kd (ji f (ctx ps sg nd) ((f (ctx ps sg nd)).getD (kd0 kd))) O' (m+1)->(∀ kvs,H' d=some (.dT kvs)->u6 kvs (kI (ctx ps sg nd))=some (.ref q))->(∀ c,O' c->O c\/H c=none)->(∀ c,O c->O' c)->yj3 O H H'->Q (.ref q) H'
theorem ype (T:Txt K mg a):we P w K mg base CX0 4 a.f_q28 a.d_q28 ["self","signs","node"] (ygs K a):=by
 refine T.y_q28.F.ok yky (fun vs H Q E h=>?_) (fun cdv A outer s H vs Q E hr h=>?_)
 ·obtain ⟨p,dx,lk,d,sl,kd,f,O,m,ps,sg,nd,rfl,_⟩:=h
  rfl
 ·obtain ⟨p,dx,lk,d,sl,kd,f,O,m,ps,sg,nd,rfl,hb,hm,hl,hs,k⟩:=h
  have hme:=hb.me
  refine ⟨_,(yn (vj (i:=3) yky.nd rfl (Or.inl rfl) (yw (yrp T) (hr.mono (by decide)) rfl T.y_q26.m T.y_q26.F.kp T.y_q26.B .nil yu (yc (yt (pv 0) rfl) (yc (pv 1) (yc (pv 2) ye (yb rfl)) (yb rfl)) (yb rfl)))) (yn (ye7 (wt (yrg (ygr (yjr hr) (pv 3) (yt (pv 0) rfl))) (yf (yhw (yjr hr) (yt (pv 0) rfl) (pv 3) (yw (yra T) (hr.mono (by decide)) rfl T.y_q19.m T.y_q19.F.kp T.y_q19.B .nil yu (yc (yal ye6 (yt (pv 0) rfl) yh (fun _ _=>rfl)) ye (yb rfl))) rfl)) vw)) (yf (yy (ymv (yjr hr) (yt (pv 0) rfl) (pv 3) (fun _ _=>rfl)))))),?_⟩
  try dsimp only [v7]
  refine yo (σ':=[some _,some _,some _,none]) rfl ?_
  walk_at "rd"
  refine ⟨lk,sl,_,ps,sg,nd,rfl,hl,hs,fun r H1 hr0 hr1 S1=>?_⟩
  have hr1':H1 r=some (.tup ((kI (ctx ps sg nd)).map kV)):=by rw [yrc]; exact hr1
  generalize ctx ps sg nd=key at hr1' k
  have hb1:=hb.same S1
  have hme1:=hb1.me
  walk_at "rd"
  refine yjw (fun σ' H'=>σ'=[some (.ref p),some (.ref sl),some (.int nd),some (.ref r)]/\∃ O',zk a H' p dx lk d kd (ji f key ((f key).getD (kd0 kd))) O' (m+1)/\(∀ c,O' c->O c\/H c=none)/\(∀ c,O c->O' c)/\yj3 O H H'/\H' r=some (.tup ((kI key).map kV))) ?_ ?_
  ·obtain ⟨kvs,loc,h1,h2,h3,h4,h5⟩:=hb1.tb
   walk_at "rd"
   refine ⟨d,_,rfl,yih.t h1 hr1',?_⟩
   cases hf:f key with
   | none =>
    rw [h3 key hf]
    walk_at "rd"
    refine ylb ?_
    walk_at "rd"
    obtain ⟨t,ht1,ht2,_,_⟩:=hl
    refine yjt (S1.tup ht1) (ux (j:=0) rfl) ?_
    walk_at "rd"
    refine ⟨kd,rfl,fun q dq H2 hq0 hq2 S2=>?_⟩
    walk_at "rd"
    have hme2:=S2 _ _ hme1
    walk_at "rd"
    refine ⟨d,_,rfl,yoq.t (S2 _ _ h1) (S2 _ _ hr1') (vf (by omega)),?_⟩
    have S12:=S1.trans S2
    have nqd:q≠d:=fun z=>by rw [z,h1] at hq0; cases hq0
    have ndp:p≠d:=fun z=>hb1.np (z ▸ hb1.dO)
    walk_at "rd"
    refine ⟨rfl,fun c=>O c\/c=q,⟨yj ndp hme2,fun c hc=>?_,fun z=>?_,.inl hb1.dO,yjy.snoc (hb1.ky kvs h1) (h3 key hf) ya,yb4 kvs (kI key) (.ref q),fun j=>if j=key then (q,dq) else loc j,ya,?_,fun j hj=>?_,fun j s' hj=>?_,fun j1 j2 s1 s2 e1 e2 el=>?_⟩,fun c hc=>?_,fun c hc=>.inl hc,fun c o e no=>?_,yj (xu (S2 _ _ hr1') (S2 _ _ h1) (by intro z; cases z)) (S2 _ _ hr1')⟩
    ·rcases hc with hc | rfl
     ·obtain ⟨o,ho,hi⟩:=hb1.own c hc
      by_cases z:c=d
      ·rw [z]
       exact ⟨_,ya,rfl⟩
      ·exact ⟨o,yj z (S2 _ _ ho),hi⟩
     ·obtain ⟨C,fs,eo⟩:=zw a dq (kd0 kd)
      exact ⟨_,yj nqd hq2,by rw [eo]; rfl⟩
    ·rcases z with z | z
     ·exact hb1.np z
     ·rw [z] at hme1
      rw [hme1] at hq0
      cases hq0
    ·rw [ybt _ (h3 key hf),List.length_append]
     show _+1 <= m+1
     omega
    ·unfold ji at hj
     split at hj
     ·cases hj
     ·rename_i hne
      rw [uh,if_neg fun z=>hne (yc0 z)]
      exact h3 j hj
    ·unfold ji at hj
     split at hj
     ·rename_i he
      subst he
      cases hj
      dsimp only
      rw [if_pos rfl,uh,if_pos rfl]
      exact ⟨rfl,yj nqd hq2,ypj kd,yi4 kd,.inr rfl⟩
     ·rename_i hne
      obtain ⟨q1,q2,q3,q4,q5⟩:=h4 j s' hj
      dsimp only
      rw [if_neg hne,uh,if_neg fun z=>hne (yc0 z)]
      have nd2:(loc j).1≠d:=by
       obtain ⟨C,fs,eo⟩:=zw a (loc j).2 s'
       rw [eo] at q2
       exact xu q2 h1 (by intro z; cases z)
      exact ⟨q1,yj nd2 (S2 _ _ q2),q3,q4,.inl q5⟩
    ·unfold ji at e1 e2
     dsimp only at el
     by_cases z1:j1=key
     ·by_cases z2:j2=key
      ·rw [z1,z2]
      ·rw [if_neg z2] at e2
       rw [if_pos z1,if_neg z2] at el
       obtain ⟨_,q2,_⟩:=h4 j2 s2 e2
       have el:q=(loc j2).1:=el
       rw [<- el,hq0] at q2
       cases q2
     ·rw [if_neg z1] at e1
      by_cases z2:j2=key
      ·rw [if_neg z1,if_pos z2] at el
       obtain ⟨_,q2,_⟩:=h4 j1 s1 e1
       have el:(loc j1).1=q:=el
       rw [el,hq0] at q2
       cases q2
      ·rw [if_neg z2] at e2
       rw [if_neg z1,if_neg z2] at el
       exact h5 j1 j2 s1 s2 e1 e2 el
    ·rcases hc with hc | rfl
     ·exact .inl hc
     ·exact .inr (S1.free hq0)
    ·exact yj (fun z=>no (z ▸ hb1.dO)) (S12 _ _ e)
   | some s' =>
    obtain ⟨q1,q2,q3,q4,q5⟩:=h4 key s' hf
    rw [q1]
    walk_at "rd"
    refine ⟨rfl,O,?_,fun c hc=>.inl hc,fun c hc=>hc,fun c o e _=>S1 _ _ e,hr1'⟩
    have ef:ji f key ((some s').getD (kd0 kd))=f:=by
     funext j
     unfold ji
     split
     ·rename_i z
      rw [z,hf]
      rfl
     ·rfl
    rw [ef]
    exact ⟨hb1.me,hb1.own,hb1.np,hb1.dO,hb1.ky,kvs,loc,h1,Nat.le_succ_of_le h2,h3,h4,h5⟩
  ·rintro σ' H2 ⟨rfl,O',hb2,hO,hM,B2,hr2⟩
   have hme2:=hb2.me
   obtain ⟨kvs,loc,h1,h2,h3,h4,h5⟩:=id hb2.tb
   have hk0:ji f key ((f key).getD (kd0 kd)) key=some ((f key).getD (kd0 kd)):=by unfold ji; rw [if_pos rfl]
   obtain ⟨q1,q2,q3,q4,q5⟩:=h4 key _ hk0
   walk_at "rd"
   refine ⟨d,_,rfl,by rw [<- q1]; exact yih.t h1 hr2,?_⟩
   exact k (loc key).1 O' H2 hb2 (fun kvs' e=>by rw [h1] at e; cases e; exact q1) hO hM B2
structure yle (a:Ads) (H:Hp) (d:Addr) (kd:Fin 3) (f:List Int->Option Slt) (O:Addr->Prop) (m:Nat):Prop where
 own:∀ b,O b->∃ o,H b=some o/\yot o=true
 dO:O d
 ky:yjy H d
 tb:∃ (kvs:List (List Key × V)) (loc:List Int->Addr × Addr),H d=some (.dT kvs)/\kvs.length <= m/\(∀ k,f k=none->u6 kvs (kI k)=none) /\
  (∀ k s,f k=some s->u6 kvs (kI k)=some (.ref (loc k).1)/\H (loc k).1=some (oS a (loc k).2 s)/\s.ok/\s.kind=kd/\O (loc k).1)/\(∀ k j s t,f k=some s->f j=some t->(loc k).1=(loc j).1->k=j)
theorem yle.same {a:Ads} {H H':Hp} {d:Addr} {kd:Fin 3} {f:List Int->Option Slt} {O:Addr->Prop} {m:Nat} (h:yle a H d kd f O m) (S:y6 H H'):yle a H' d kd f O m:=by
 obtain ⟨kvs,loc,h1,h2,h3,h4,h5⟩:=h.tb
 refine ⟨fun b hb=>?_,h.dO,h.ky.mv h1 (S _ _ h1),kvs,loc,S _ _ h1,h2,h3,fun k s hk=>?_,h5⟩
 ·obtain ⟨o,ho,hi⟩:=h.own b hb
  exact ⟨o,S _ _ ho,hi⟩
 ·obtain ⟨q1,q2,q3⟩:=h4 k s hk
  exact ⟨q1,S _ _ q2,q3⟩
theorem yle.put {a:Ads} {H H2:Hp} {d q dq:Addr} {kd:Fin 3} {f:List Int->Option Slt} {O:Addr->Prop} {m:Nat} {key:List Int} {s:Slt} (h:yle a H d kd f O m) (S:y6 H H2) (nq:H q=none) (hq:H2 q=some (oS a dq s)) (ok:s.ok) (hk:s.kind=kd) (hf:f key=none) {kvs:List (List Key × V)} (hd:H2 d=some (.dT kvs)) :
  yle a (upd H2 d (.dT (yb4 kvs (kI key) (.ref q)))) d kd (ji f key s) (fun c=>O c\/c=q) (m+1):=by
 obtain ⟨kvs',loc,h1,h2,h3,h4,h5⟩:=h.tb
 have e:=S _ _ h1
 rw [hd] at e
 cases e
 have nqd:q≠d:=fun z=>by rw [z,h1] at nq; cases nq
 have hky:=h.ky kvs h1
 refine ⟨fun c hc=>?_,.inl h.dO,yjy.snoc hky (h3 key hf) ya,yb4 kvs (kI key) (.ref q),fun j=>if j=key then (q,dq) else loc j,ya,?_,fun j hj=>?_,fun j s' hj=>?_,fun j1 j2 s1 s2 e1 e2 el=>?_⟩
 ·rcases hc with hc | rfl
  ·obtain ⟨o,ho,hi⟩:=h.own c hc
   by_cases z:c=d
   ·rw [z]
    exact ⟨_,ya,rfl⟩
   ·exact ⟨o,yj z (S _ _ ho),hi⟩
  ·obtain ⟨C,fs,eo⟩:=zw a dq s
   exact ⟨_,yj nqd hq,by rw [eo]; rfl⟩
 ·rw [ybt _ (h3 key hf),List.length_append]
  show _+1 <= m+1
  omega
 ·unfold ji at hj
  split at hj
  ·cases hj
  ·rename_i hne
   rw [uh,if_neg fun z=>hne (yc0 z)]
   exact h3 j hj
 ·unfold ji at hj
  split at hj
  ·rename_i he
   subst he
   cases hj
   dsimp only
   rw [if_pos rfl,uh,if_pos rfl]
   exact ⟨rfl,yj nqd hq,ok,hk,.inr rfl⟩
  ·rename_i hne
   obtain ⟨q1,q2,q3,q4,q5⟩:=h4 j s' hj
   dsimp only
   rw [if_neg hne,uh,if_neg fun z=>hne (yc0 z)]
   have nd2:(loc j).1≠d:=by
    obtain ⟨C,fs,eo⟩:=zw a (loc j).2 s'
    rw [eo] at q2
    exact xu q2 h1 (by intro z; cases z)
   exact ⟨q1,yj nd2 (S _ _ q2),q3,q4,.inl q5⟩
 ·unfold ji at e1 e2
  dsimp only at el
  by_cases z1:j1=key
  ·by_cases z2:j2=key
   ·rw [z1,z2]
   ·rw [if_neg z2] at e2
    rw [if_pos z1,if_neg z2] at el
    obtain ⟨_,q2,_⟩:=h4 j2 s2 e2
    have el:q=(loc j2).1:=el
    rw [<- el,nq] at q2
    cases q2
  ·rw [if_neg z1] at e1
   by_cases z2:j2=key
   ·rw [if_neg z1,if_pos z2] at el
    obtain ⟨_,q2,_⟩:=h4 j1 s1 e1
    have el:(loc j1).1=q:=el
    rw [el,nq] at q2
    cases q2
   ·rw [if_neg z2] at e2
    rw [if_neg z1,if_neg z2] at el
    exact h5 j1 j2 s1 s2 e1 e2 el
theorem yir {kvs:List (List Key × V)} {k:List Key} {v:V} (h:(kvs.map (·.1)).Nodup) (hm:(k,v)∈kvs):u6 kvs k=some v:=by
 induction kvs with
 | nil=>cases hm
 | cons p r ih =>
  rw [List.map_cons,List.nodup_cons] at h
  rcases List.mem_cons.mp hm with e | hm
  ·subst e
   exact wl (p:=(k,v)) rfl
  ·have ne:¬ p.1=k:=fun z=>h.1 (by rw [z]; exact List.mem_map.mpr ⟨_,hm,rfl⟩)
   rw [wk ne]
   exact ih h.2 hm
theorem ybp {kvs:List (List Key × V)} {i:Nat} {k j:List Key} {v:V} (h:kvs[i]?=some (k,v)):j∈(kvs.take (i+1)).map (·.1) ↔ (j=k\/j∈(kvs.take i).map (·.1)):=by
 rw [List.take_add_one,h,List.map_append,List.mem_append]
 show _\/j∈[k] ↔ _
 rw [List.mem_singleton,or_comm]
theorem ylx {kvs:List (List Key × V)} {i:Nat} {k:List Key} {v:V} (hn:(kvs.map (·.1)).Nodup) (h:kvs[i]?=some (k,v)):k∉(kvs.take i).map (·.1):=fun m=>by
 have hi:i < kvs.length:=(List.getElem?_eq_some_iff.mp h).1
 rw [<- List.take_append_drop i kvs,List.map_append,List.nodup_append] at hn
 refine hn.2.2 _ m k ?_ rfl
 rw [List.drop_eq_getElem_cons hi,List.map_cons,(List.getElem?_eq_some_iff.mp h).2]
 exact List.mem_cons_self
theorem ycx:ym ["self","slots","context","slot","made"] ["self"] (yg yn6):=⟨rfl,rfl,rfl,by decide +kernel,rfl,by decide +kernel,by decide +kernel⟩
def ygz (a:Ads):Sp:=fun vs H Q _=>∃ (p dx lk d:Addr) (kd:Fin 3) (f:List Int->Option Slt) (O:Addr->Prop) (m:Nat),vs=[.ref p]/\zk a H p dx lk d kd f O m/\m < 1000000 /\
 ∀ q dq d' O' H',H q=none->zk a H' q dq lk d' kd f O' m->(∀ c,O' c->H c=none)->y6 H H'->Q (.ref q) H'
theorem yqm (T:Txt K mg a):we P w K mg base CX0 4 a.f_q29 a.d_q29 ["self"] (ygz a):=by
 refine T.y_q29.F.ok ycx (fun vs H Q E h=>?_) (fun cdv A outer s H vs Q E hr h=>?_)
 ·obtain ⟨p,dx,lk,d,kd,f,O,m,rfl,_⟩:=h
  rfl
 ·obtain ⟨p,dx,lk,d,kd,f,O,m,rfl,hb,hm,k⟩:=h
  have hme:=hb.me
  obtain ⟨kvs,loc,h1,h2,h3,h4,h5⟩:=hb.tb
  obtain ⟨hnd,hks⟩:=hb.ky kvs h1
  refine yk (vj (i:=1) ycx.nd rfl (Or.inl rfl) yeu) ?_
  refine yk (ymr (yaz PassesOwn.never rfl (yjk (yt (pv 0) rfl)) (ye2 rfl (xh (wu (i:=2) ycx.nd rfl (Or.inl rfl)) (xh (wu (i:=3) ycx.nd rfl (Or.inl rfl)) yb2))) (yf (yhw (yjr hr) (pv 1) (pv 2) (yay (yx (pv 3) T.cl_Even T.y_q10.m (yp4 T) (hr.mono (by decide)) T.y_q10.B .nil yu) (yay (yx (pv 3) T.cl_Quick T.y_q14.m (yo3 T) (hr.mono (by decide)) T.y_q14.B .nil yu) (yx (pv 3) T.cl_Run T.y_q18.m (yql T) (hr.mono (by decide)) T.y_q18.B .nil yu))) rfl)))) ?_
  refine yk (vj (i:=4) ycx.nd rfl (Or.inl rfl) (yb1 T.k_Book (ykk T) (hr.mono (by decide)) rfl T.m_Book T.y_q27.B .nil yu (yc (yt (pv 0) rfl) ye (yb rfl)))) ?_
  refine yk (y4 (pv 4) (pv 1) rfl) ?_
  refine ⟨_,(yf (yy (pv 4))),?_⟩
  try dsimp only [v7]
  refine yo (σ':=[some _,none,none,none,none]) rfl ?_
  walk_at "rd"
  intro e ge
  have S1:=y1 (o:=(HO.dT [])) ge
  have he1:upd H e (HO.dT []) e=some (HO.dT []):=ya
  generalize upd H e (HO.dT [])=H1 at S1 he1 ⊢
  have hme1:=S1 _ _ hme
  have hd1:=S1 _ _ h1
  have npd:p≠d:=fun z=>hb.np (z ▸ hb.dO)
  have ned:e≠d:=fun z=>by rw [z,h1] at ge; cases ge
  walk_at "rd"
  refine ⟨d,kvs,rfl,hd1,fun ob=>?_⟩
  have hdF:upd H1 d (.frz ob (.dT kvs)) d=some (.frz ob (.dT kvs)):=ya
  have BF:But d H1 (upd H1 d (.frz ob (.dT kvs))):=But.upd
  generalize upd H1 d (.frz ob (.dT kvs))=HF at hdF BF ⊢
  refine yg1 (fun i σ2 G=>∃ (v2 v3:Option V) (fi:List Int->Option Slt) (Oi:Addr->Prop),σ2=[some (.ref p),some (.ref e),v2,v3,none]/\yle a G e kd fi Oi i/\(∀ j,(kI j∈(kvs.take i).map (·.1)->fi j=f j)/\(kI j∉(kvs.take i).map (·.1)->fi j=none))/\(∀ c,Oi c->H c=none)/\G d=some (.frz ob (.dT kvs))/\But d H G)
   ⟨none,none,fun _=>none,fun c=>c=e,rfl,⟨fun b hb'=>⟨.dT [],by cases hb'; exact BF _ _ he1 ned,rfl⟩,rfl,fun kvs' e'=>(by cases (BF _ _ he1 ned).symm.trans e'; exact ⟨List.nodup_nil,fun _ z=>(nomatch z)⟩),[],fun _=>(0,0),BF _ _ he1 ned,Nat.zero_le _,fun _ _=>rfl,fun _ _ z=>(nomatch z),fun _ _ _ _ z=>(nomatch z)⟩,fun j=>⟨fun z=>(by rw [List.take_zero] at z; cases z),fun _=>rfl⟩,fun c z=>by cases z; exact ge,hdF,fun b o e' ne=>BF _ _ (S1 _ _ e') ne⟩
   (fun i σ2 G _ ⟨_,_,_,_,_,_,_,_,w,_⟩=>w) ?_ ?_
  ·rintro i key v σ2 G t kt hkv ⟨v2,v3,fi,Oi,rfl,gT,gf,gO,gd,gB⟩ gt gkt
   obtain ⟨ky,eky⟩:=hks _ (List.mem_of_getElem? hkv)
   have eky:key=kI ky:=eky
   subst eky
   have hval:=yir hnd (List.mem_of_getElem? hkv)
   obtain ⟨s',hs'⟩:∃ s',f ky=some s':=by
    cases z:f ky with
    | none=>rw [h3 ky z] at hval; cases hval
    | some s'=>exact ⟨s',rfl⟩
   obtain ⟨q1,q2,q3,q4,q5⟩:=h4 ky s' hs'
   rw [hval] at q1
   injection q1 with q1
   subst q1
   have nld:(loc ky).1≠d:=by
    obtain ⟨C,fs,eo⟩:=zw a (loc ky).2 s'
    rw [eo] at q2
    exact xu q2 h1 (by intro z; cases z)
   have T1:=y1 (o:=(HO.tup [V.ref kt,V.ref (loc ky).1])) gt
   have et1:upd G t (HO.tup [V.ref kt,V.ref (loc ky).1]) t=some (HO.tup [V.ref kt,V.ref (loc ky).1]):=ya
   generalize upd G t (HO.tup [V.ref kt,V.ref (loc ky).1])=G1 at T1 et1 ⊢
   refine ye1 (SqT.of et1) rfl ?_
   walk_at "rd"
   refine ym5 (fun Q' h=>yn2 rfl h) (T1 _ _ (gB _ _ q2 nld)) fun q dq G2 hq0 hq2 T2=>?_
   have S2:=T1.trans T2
   obtain ⟨kvs',loc',w1,w2,w3,w4,w5⟩:=id gT.tb
   have hnone:fi ky=none:=(gf ky).2 (ylx hnd hkv)
   have gd2:=S2 _ _ gd
   walk_at "rd"
   refine ⟨e,_,rfl,yoq.t (S2 _ _ w1) (S2 _ _ gkt) (vf (by have:=(List.getElem?_eq_some_iff.mp hkv).1; omega)),?_⟩
   walk_at "rd"
   refine ⟨_,_,_,_,rfl,gT.put S2 (T1.free hq0) hq2 q3 q4 hnone (S2 _ _ w1),fun j=>?_,fun c hc=>?_,yj ned.symm gd2,fun b o e' ne=>yj (yd e' ge) (S2 _ _ (gB _ _ e' ne))⟩
   ·unfold ji
    by_cases z:j=ky
    ·rw [if_pos z,z]
     exact ⟨fun _=>hs'.symm,fun w=>absurd ((ybp hkv).mpr (.inl rfl)) w⟩
    ·rw [if_neg z]
     exact ⟨fun w=>(gf j).1 (((ybp hkv).mp w).resolve_left fun y=>z (yc0 y)),fun w=>(gf j).2 fun y=>w ((ybp hkv).mpr (.inr y))⟩
   ·rcases hc with hc | rfl
    ·exact gO c hc
    ·cases z:H c with
     | none=>rfl
     | some o =>
      by_cases y:c=d
      ·rw [y] at hq0
       rw [T1 _ _ gd] at hq0
       cases hq0
      ·rw [T1 _ _ (gB _ _ z y)] at hq0
       cases hq0
  ·rintro σ2 G ⟨v2,v3,fi,Oi,rfl,gT,gf,gO,gd,gB⟩
   have efi:fi=f:=by
    funext j
    have gj:=gf j
    rw [List.take_length] at gj
    by_cases w:kI j∈kvs.map (·.1)
    ·exact gj.1 w
    ·rw [gj.2 w]
     cases z:f j with
     | none=>rfl
     | some s' =>
      have q1:=(h4 j s' z).1
      have a1:=xy (kI j) kvs
      rw [q1] at a1
      obtain ⟨pr,hpr,e'⟩:=List.any_eq_true.mp a1
      exact absurd (List.mem_map.mpr ⟨pr,hpr,of_decide_eq_true e'⟩) w
   subst efi
   refine ⟨d,ob,kvs,fun o u z=>(by rw [hd1] at z; cases z),gd,?_⟩
   have ST:y6 H (upd G d (.dT kvs)):=fun b o e'=>by
    by_cases y:b=d
    ·rw [y,ya]
     rw [y,h1] at e'
     exact e'
    ·rw [yi y]
     exact gB _ _ e' y
   have gTT:yle a (upd G d (.dT kvs)) e kd fi Oi kvs.length:=by
    obtain ⟨kvs',loc',w1,w2,w3,w4,w5⟩:=gT.tb
    have nO:∀ c,Oi c->c≠d:=fun c hc z=>by
     have:=gO c hc
     rw [z,h1] at this
     cases this
    refine ⟨fun b hb'=>?_,gT.dO,gT.ky.mv w1 (yj ned w1),kvs',loc',yj ned w1,w2,w3,fun k s hk=>?_,w5⟩
    ·obtain ⟨o,ho,hi⟩:=gT.own b hb'
     exact ⟨o,yj (nO b hb') ho,hi⟩
    ·obtain ⟨q1,q2,q3,q4,q5⟩:=w4 k s hk
     exact ⟨q1,yj (nO _ q5) q2,q3,q4,q5⟩
   generalize upd G d (.dT kvs)=GT at ST gTT ⊢
   have hmeT:=ST _ _ hme
   walk_at "rd"
   intro q dq nq ndq neq
   refine ⟨q,dq,lk,kd,rfl,ya,fun d2 G2 hd20 hb2 B2=>⟨rfl,?_⟩⟩
   have S3:=xo nq ndq B2
   have hq2:=hb2.me
   have gT2:=gTT.same S3
   walk_at "rd"
   have nOq:¬ Oi q:=fun w=>by
    obtain ⟨o,ho,_⟩:=gTT.own q w
    rw [nq] at ho
    cases ho
   obtain ⟨kvs',loc',w1,w2,w3,w4,w5⟩:=gT2.tb
   have neq':e≠q:=fun z=>nOq (z ▸ gT2.dO)
   refine k q dq e Oi _ (ST.free nq) ⟨ya,fun b hb'=>?_,nOq,gT2.dO,gT2.ky.mv w1 (yj neq' w1),kvs',loc',yj neq' w1,by omega,w3,fun k s hk=>?_,w5⟩ gO (fun b o e'=>yj (fun z=>by rw [z] at e'; rw [ST _ _ e'] at nq; cases nq) (S3 _ _ (ST _ _ e')))
   ·obtain ⟨o,ho,hi⟩:=gT2.own b hb'
    exact ⟨o,yj (fun z=>nOq (z ▸ hb')) ho,hi⟩
   ·obtain ⟨q1,q2,q3,q4,q5⟩:=w4 k s hk
    exact ⟨q1,yj (fun z=>nOq (z ▸ q5)) q2,q3,q4,q5⟩
theorem yqa:ym ["self","many"] ["self","many"] (yg ync):=⟨rfl,rfl,rfl,by decide +kernel,rfl,by decide +kernel,by decide +kernel⟩
theorem yk2 (T:Txt K mg a):we P w K mg base CX0 1 a.f_q30 a.d_q30 ["self","many"] (yix a):=by
 refine T.y_q30.F.ok yqa (fun vs H Q E h=>?_) (fun cdv A outer s H vs Q E hr h=>?_)
 ·obtain ⟨p,dx,n,rfl,_⟩:=h
  rfl
 ·obtain ⟨p,dx,n,rfl,n1,n6,hp,k⟩:=h
  refine ⟨_,(yf (y4 (pv 0) (yr yq8 (zx (yc (vc rfl T.c_FIRST_WEIGHT) ye (yb rfl))) (pv 1)) rfl)),?_⟩
  try dsimp only [v7]
  refine yo (σ':=[some _,some _]) rfl ?_
  walk_at "rd"
  refine ⟨by walk_at "len",fun r hr0=>?_⟩
  with_reducible first | refine vg hr0 fun H1 S1 e1=>?_ | refine vy hr0 fun H1 S1 e1=>?_
  walk_at "rd"
  refine ⟨r,n,_,rfl,rfl,e1,by omega,by omega,yd5 (by show 1 * (n:Int).toNat <= 16000000; omega),fun l hl=>?_⟩
  rw [yhe]
  with_reducible first | refine vg hl fun H2 S2 e2=>?_ | refine vy hl fun H2 S2 e2=>?_
  have S12:=S1.trans S2
  have hp2:=S12 _ _ hp
  walk_at "rd"
  have npl:l≠p:=fun z=>by rw [z,S1 _ _ hp] at hl; cases hl
  exact k l _ (S1.free hl) ⟨ya,yj npl e2⟩ ((But.of S12).trans But.upd)
theorem yq1:ym ["self"] ["self"] (yg ynx):=⟨rfl,rfl,rfl,by decide +kernel,rfl,by decide +kernel,by decide +kernel⟩
theorem yph (T:Txt K mg a):we P w K mg base CX0 1 a.f_q31 a.d_q31 ["self"] (ydw a):=by
 refine T.y_q31.F.ok yq1 (fun vs H Q E h=>?_) (fun cdv A outer s H vs Q E hr h=>?_)
 ·obtain ⟨p,dx,l,ws,rfl,_⟩:=h
  rfl
 ·obtain ⟨p,dx,l,ws,rfl,⟨hp,hl⟩,k⟩:=h
  refine ⟨_,(yf (yy (v9 vi rfl T.z_list (by decide +kernel) (yc (yt (pv 0) rfl) ye (yb rfl))))),?_⟩
  try dsimp only [v7]
  refine yo (σ':=[some _]) rfl ?_
  walk_at "rd"
  refine xi (SqL.of hl) fun r hr0=>?_
  exact k r _ hr0 ya (y1 hr0)
theorem yq6:ym ["self","chances"] ["self","chances"] (yg yod):=⟨rfl,rfl,rfl,by decide +kernel,rfl,by decide +kernel,by decide +kernel⟩
theorem yqx (T:Txt K mg a):we P w K mg base CX0 1 a.f_q32 a.d_q32 ["self","chances"] (ygt K a):=by
 refine T.y_q32.F.ok yq6 (fun vs H Q E h=>?_) (fun cdv A outer s H vs Q E hr h=>?_)
 ·obtain ⟨p,dx,l,c,ws,cs,n,rfl,_⟩:=h
  rfl
 ·obtain ⟨p,dx,l,c,ws,cs,n,rfl,n1,n6,hw,hc,⟨hp,hl⟩,hq,k⟩:=h
  refine ⟨_,(yf (yy (yr y9 (yv (z9 rfl) rfl T.z_sum (by decide +kernel) (yc (yek (js:=[]) (ys:=[]) (xs:=["weight","chance"]) (g:=yox K 2 (ul (wf 0) (ul (wf 1) yj2))) rfl (ykv rfl T.z_zip (yc (yt (pv 0) rfl) (yc (pv 1) ye (yb rfl)) (yb rfl))) (fun C s2 H2 fp=>(yr xt (pv 0) (pv 1))) rfl (fun C s2 H2 fp=>ye2 rfl (xh (wu (i:=0) (show List.Nodup ((["weight","chance"]:List Str)++([]:List Str)) by decide +kernel) rfl (Or.inl rfl)) (xh (wu (i:=1) (show List.Nodup ((["weight","chance"]:List Str)++([]:List Str)) by decide +kernel) rfl (Or.inl rfl)) yb2))) rfl (hyc:=vn) (hrel:=vn)) ye (yb rfl))) (yv (z9 rfl) rfl T.z_sum (by decide +kernel) (yc (yt (pv 0) rfl) ye (yb rfl)))))),?_⟩
  try dsimp only [v7]
  refine yo (σ':=[some _,some _]) rfl ?_
  have hlen:cs.length=ws.length:=by rw [hw.len,hc.len]
  walk_at "rd"
  refine ⟨l,c,rfl,⟨_,_,SqL.of hl,hq⟩,fun D hD=>?_⟩
  refine yau (fun i=>V.int ((ws[i]?).getD 0 * (cs[i]?).getD 0)) (SqL.of hl) hq (by rw [List.length_map,List.length_map,hlen]) hD (fun i x y H2 tt pre hx hy S2 hD2 htt hpre=>?_) (fun H2 S2 hD2=>?_)
  ·obtain ⟨v1,v2,rfl⟩:=yh1 hpre
   obtain ⟨w,rfl,wm,wi,il⟩:=uo hx
   obtain ⟨u,rfl,um,ui,_⟩:=uo hy
   have w1:=hw.one w wm
   have w2:=hw.top w wm
   have S3:=S2.trans (y1 (o:=HO.tup [V.int w,V.int u]) htt)
   have hD3:=x9 (o':=HO.tup [V.int w,V.int u]) htt hD2
   have ht3:upd H2 tt (HO.tup [V.int w,V.int u]) tt=some (.tup [V.int w,V.int u]):=ya
   generalize upd H2 tt (HO.tup [V.int w,V.int u])=H3 at S3 hD3 ht3
   refine ye1 (SqT.of ht3) rfl ?_
   show ul (wf 0) (ul (wf 1) yj2) [V.int w,V.int u] (v1 :: v2 :: vd [] [some (V.ref p),some (V.ref c)]) H3 _
   walk_at "rd"
   refine ⟨⟨[some (.int w),some (.int u)],rfl,rfl⟩,?_⟩
   walk_at "rd"
   refine Mp.doneR hD (vf (by rw [List.length_map,hw.len]; omega)) (by rw [List.length_map]; exact il) S3 hD3 ?_
   rw [wi,ui]
   rfl
  ·have hD2:=yed hD2 (ykg (g:=fun w c=>w * c) hlen)
   have hp2:=S2 _ _ hp
   have hl2:=S2 _ _ hl
   have p1:=hw.pos n1
   have p2:=hw.small n6
   walk_at "rd"
   refine ⟨D,_,rfl,SqL.of hD2,?_⟩
   walk_at "rd"
   refine ⟨l,_,rfl,SqL.of hl2,?_⟩
   walk_at "rd"
   exact k _ S2
theorem yax:ym ["self","chances","bit","shares","whole","own","grown","dropped"] ["self","chances","bit"] (yg yn7):=⟨rfl,rfl,rfl,by decide +kernel,rfl,by decide +kernel,by decide +kernel⟩
theorem ypz (T:Txt K mg a):we P w K mg base (CXe P w) 5 a.f_q33 a.d_q33 ["self","chances","bit"] (yg2 K a a.C_NB):=by
 refine T.y_q33.F.okE yax (fun vs H Q E h=>?_) (fun cdv A outer s H vs Q E hr h=>?_)
 ·obtain ⟨p,dx,l,c,ws,cs,n,x,m,rfl,_⟩:=h
  rfl
 ·obtain ⟨p,dx,l,c,ws,cs,n,x,m,rfl,n1,n6,hw,hc,⟨hp,hl⟩,hq,ty,k1,k2⟩:=h
  refine yk (y3 (wz (ygb T) (hr.mono (by decide)) rfl T.y_q5.m T.y_q5.F.kp T.y_q5.B .nil xx (yc (pv 2) ye (yb rfl)))) ?_
  refine yk (yjf (i:=3) (js:=[2]) (ys:=["bit"]) (xs:=["weight","chance"]) (g:=yox K 2 (ul (wf 0) (ul (wf 1) yj2))) yax.nd rfl rfl rfl (ykv rfl T.z_zip (yc (yt (pv 0) rfl) (yc (pv 1) ye (yb rfl)) (yb rfl))) (fun C s2 H2 fp=>(yr xt (pv 0) (wz (ysy T) (hr.mono (by decide)) rfl T.y_q6.m T.y_q6.F.kp T.y_q6.B .nil wv (yc (pv 1) (yc (pv 2) ye (yb rfl)) (yb rfl))))) rfl (fun C s2 H2 fp=>ye2 rfl (xh (wu (i:=0) (show List.Nodup ((["weight","chance"]:List Str)++(["bit"]:List Str)) by decide +kernel) rfl (Or.inl rfl)) (xh (wu (i:=1) (show List.Nodup ((["weight","chance"]:List Str)++(["bit"]:List Str)) by decide +kernel) rfl (Or.inl rfl)) yb2))) rfl (hyc:=(all_cons rfl vn)) (hrel:=(all_cons rfl vn))) ?_
  refine yk (vj (i:=4) yax.nd rfl (Or.inr rfl) (yv (z9 rfl) rfl T.z_sum (by decide +kernel) (yc (pv 3) ye (yb rfl)))) ?_
  refine yk (vj (i:=5) yax.nd rfl (Or.inr rfl) (yr xt (vc rfl T.c_OWN_PARTS) (yv ve rfl T.z_len (by decide +kernel) (yc (pv 3) ye (yb rfl))))) ?_
  refine yk (yer (i:=6) (js:=[4,5]) (ys:=["whole","own"]) yax.nd rfl rfl rfl (wx (pv 3)) (fun C s2 H2 fp=>(yr vo (yr xt (pv 2) (pv 0)) (pv 1))) rfl rfl (hyc:=(all_cons rfl (all_cons rfl vn))) (hrel:=(all_cons rfl (all_cons rfl vn)))) ?_
  refine yk (vj (i:=7) yax.nd rfl (Or.inr rfl) (yv (j5 rfl) rfl T.z_max (by decide +kernel) (yc (yr uc (yp9 PySem.F.plainAttrs_int PySem.F.slot_int_bit_length PySem.F.type_int_bit_length ylh (yv (z9 rfl) rfl T.z_sum (by decide +kernel) (yc (pv 6) ye (yb rfl)))) (vc rfl T.c_MOST_FIGURES)) (yc yh ye (yb rfl)) (yb rfl)))) ?_
  refine ⟨_,(yf (y4 (pv 0) (jc (js:=[7]) (ys:=["dropped"]) rfl (wx (pv 6)) (fun C s2 H2 fp=>(yr yks (pv 0) (pv 1))) rfl rfl (hyc:=(all_cons rfl vn)) (hrel:=(all_cons rfl vn))) rfl)),?_⟩
  try dsimp only [v7]
  refine yo (σ':=[some _,some _,some _,none,none,none,none,none]) rfl ?_
  have hlen:cs.length=ws.length:=by rw [hw.len,hc.len]
  walk_at "rd"
  refine ⟨x,m,rfl,ty,fun hx=>?_,k2⟩
  obtain ⟨b,rfl,b0,b1⟩:=ye4 hx
  have k:=k1 b rfl b0 b1
  walk_at "rd"
  refine ⟨l,c,rfl,⟨_,_,SqL.of hl,hq⟩,fun D hD=>?_⟩
  refine yau (fun i=>V.int ((ws[i]?).getD 0 * giv ((cs[i]?).getD 0) b)) (SqL.of hl) hq (by rw [List.length_map,List.length_map,hlen]) hD (fun i x y H2 tt pre hx hy S2 hD2 htt hpre=>?_) (fun H2 S2 hD2=>?_)
  ·obtain ⟨v1,v2,rfl⟩:=yh1 hpre
   obtain ⟨w,rfl,wm,wi,il⟩:=uo hx
   obtain ⟨u,rfl,um,ui,_⟩:=uo hy
   have w1:=hw.one w wm
   have w2:=hw.top w wm
   have hcu:=yqr (yp1 hc um)
   have hbu:=ylu b0 b1
   have S3:=S2.trans (y1 (o:=HO.tup [V.int w,V.int u]) htt)
   have hD3:=x9 (o':=HO.tup [V.int w,V.int u]) htt hD2
   have ht3:upd H2 tt (HO.tup [V.int w,V.int u]) tt=some (.tup [V.int w,V.int u]):=ya
   generalize upd H2 tt (HO.tup [V.int w,V.int u])=H3 at S3 hD3 ht3
   refine ye1 (SqT.of ht3) rfl ?_
   show ul (wf 0) (ul (wf 1) yj2) [V.int w,V.int u] (v1 :: v2 :: vd [2] [some (V.ref p),some (V.ref c),some (V.int b),none,none,none,none,none]) H3 _
   walk_at "rd"
   refine ⟨⟨[some (.int w),some (.int u)],rfl,rfl⟩,?_⟩
   walk_at "rd"
   refine ⟨.int u,_,.int b,_,rfl,.int u,.int b,fun z=>(by rw [hcu] at z; cases z),fun _ z=>(by rw [hbu] at z; cases z),fun c' b' ec eb _ _=>?_⟩
   cases ec
   cases eb
   walk_at "rd"
   refine Mp.doneR hD (vf (by rw [List.length_map,hw.len]; omega)) (by rw [List.length_map]; exact il) S3 hD3 ?_
   rw [wi,ui]
   rfl
  ·have hD2:H2 D=some (.lst ((shL ws cs b).map V.int)):=yed hD2 (ykg (g:=fun w c=>w * giv c b) hlen)
   have shl:(shL ws cs b).length=n:=by rw [yd7 hlen.symm,hw.len]
   have hp2:=S2 _ _ hp
   have ek:lrn ws cs b=(grL (shL ws cs b)).map fun v=>v / 2 ^ tOf (grL (shL ws cs b)).sum:=rfl
   rw [ek] at k
   generalize shL ws cs b=sh at hD2 shl k
   have eg:grL sh=sh.map fun s=>31 * (n:Int) * s+sh.sum:=by rw [<- shl]; rfl
   walk_at "rd"
   refine ⟨D,_,rfl,SqL.of hD2,?_⟩
   walk_at "rd"
   refine yea (SqL.of hD2) ?_
   rw [List.length_map,shl]
   walk_at "rd"
   refine ⟨D,rfl,⟨_,SqL.of hD2⟩,fun G hG=>?_⟩
   refine ju (onI fun s=>31 * (n:Int) * s+sh.sum) (SqL.of hD2) hG (fun i y H3 hy S3 hG3=>?_) (fun H3 S3 hG3=>?_)
   ·obtain ⟨s',rfl,_,_,il⟩:=uo hy
    show tOp _ _ _ (some (V.int s') :: vd [4,5] [some (V.ref p),some (V.ref c),some (V.int b),some (V.ref D),some (V.int sh.sum),some (V.int (31 * (n:Int))),none,none]) H3 _
    walk_at "rd"
    exact Mp.done hG (vf (by rw [List.length_map,shl]; omega)) hy S3 hG3 rfl
   ·rw [yby,<- eg] at hG3
    have grl:(grL sh).length=n:=by rw [yho,shl]
    generalize grL sh=gr at hG3 k grl
    have hp3:=S3 _ _ hp2
    walk_at "rd"
    refine ⟨G,_,rfl,SqL.of hG3,?_⟩
    walk_at "rd"
    refine ⟨_,_,rfl,?_⟩
    have et:(if (0:Int) > ((Builtin.Int.intBits gr.sum:Nat):Int) - 48 then (0:Int) else ((Builtin.Int.intBits gr.sum:Nat):Int) - 48)=((tOf gr.sum:Nat):Int):=by
     show _=(((yjq gr.sum) - 48:Nat):Int)
     have e:Builtin.Int.intBits gr.sum=yjq gr.sum:=rfl
     rw [e]
     split <;> omega
    rw [et]
    generalize tOf gr.sum=t at k
    walk_at "rd"
    refine ⟨G,rfl,⟨_,SqL.of hG3⟩,fun Z hZ=>?_⟩
    refine ju (onI fun v=>v / 2 ^ t) (SqL.of hG3) hZ (fun i y H4 hy S4 hZ4=>?_) (fun H4 S4 hZ4=>?_)
    ·obtain ⟨s',rfl,_,_,il⟩:=uo hy
     show tOp _ _ _ (some (V.int s') :: vd [7] [some (V.ref p),some (V.ref c),some (V.int b),some (V.ref D),some (V.int sh.sum),some (V.int (31 * (n:Int))),some (V.ref G),some (V.int (t:Int))]) H4 _
     walk_at "rd"
     refine i_I (Int.natCast_nonneg t) ?_
     exact Mp.done hZ (vf (by rw [List.length_map,grl]; omega)) hy S4 hZ4 rfl
    ·rw [yby] at hZ4
     have hp4:=S4 _ _ hp3
     walk_at "rd"
     have nz:Z≠p:=fun z=>by rw [z,hp3] at hZ; cases hZ
     have S24:=S2.trans (S3.trans S4)
     exact k Z _ ((S2.trans S3).free hZ) ⟨ya,yj nz hZ4⟩ ((But.of S24).trans But.upd)
theorem yko:ym ["self","made"] ["self"] (yg yok):=⟨rfl,rfl,rfl,by decide +kernel,rfl,by decide +kernel,by decide +kernel⟩
def yjm (a:Ads):Sp:=fun vs H Q _=>∃ (p dx l:Addr) (ws:List Int),vs=[.ref p]/\ygd a p dx l ws H/\1 <= ws.length/\ws.length <= 6/\∀ q dq l' H',H q=none->H l'=none->ygd a q dq l' ws H'->y6 H H'->Q (.ref q) H'
theorem yqz (T:Txt K mg a):we P w K mg base CX0 3 a.f_q34 a.d_q34 ["self"] (yjm a):=by
 refine T.y_q34.F.ok yko (fun vs H Q E h=>?_) (fun cdv A outer s H vs Q E hr h=>?_)
 ·obtain ⟨p,dx,l,ws,rfl,_⟩:=h
  rfl
 ·obtain ⟨p,dx,l,ws,rfl,⟨hp,hl⟩,n1,n6,k⟩:=h
  refine ⟨_,(yn (vj (i:=1) yko.nd rfl (Or.inl rfl) (yb1 T.k_Mx (yk2 T) (hr.mono (by decide)) rfl T.m_Mx T.y_q30.B .nil yu (yc (yv ve rfl T.z_len (by decide +kernel) (yc (yt (pv 0) rfl) ye (yb rfl))) ye (yb rfl)))) (yn (y4 (pv 1) (v9 vi rfl T.z_list (by decide +kernel) (yc (yt (pv 0) rfl) ye (yb rfl))) rfl) (yf (yy (pv 1))))),?_⟩
  try dsimp only [v7]
  refine yo (σ':=[some _,none]) rfl ?_
  walk_at "rd"
  refine yea (SqL.of hl) ?_
  rw [List.length_map]
  walk_at "rd"
  intro q dq nq ndq neq
  refine ⟨q,dq,ws.length,rfl,n1,n6,ya,fun l1 H1 hl10 M1 B1=>⟨rfl,?_⟩⟩
  have S1:=xo nq ndq B1
  have hq1:=M1.o
  have hp1:=S1 _ _ hp
  walk_at "rd"
  refine xi (SqL.of (S1 _ _ hl)) fun r hr0=>?_
  with_reducible first | refine vg hr0 fun H2 S2 er=>?_ | refine vy hr0 fun H2 S2 er=>?_
  have hq2:=S2 _ _ hq1
  walk_at "rd"
  have nrq:r≠q:=fun z=>by rw [z,hq1] at hr0; cases hr0
  exact k q dq r _ nq (S1.free hr0) ⟨ya,yj nrq er⟩ fun b o e=>yj (yd e nq) (S2 _ _ (S1 _ _ e))
theorem yqf:ym ["self"] ["self"] (yg yn0):=⟨rfl,rfl,rfl,by decide +kernel,rfl,by decide +kernel,by decide +kernel⟩
theorem zk.sqt {K:W.Frag} {a:Ads} {H H':Hp} {p dx lk d:Addr} {kd:Fin 3} {f:List Int->Option Slt} {O:Addr->Prop} {m:Nat} (h:zk a H p dx lk d kd f O m) (B:yj3 O H H') {t:Addr} {xs:List V} (e:SqT K H t xs):SqT K H' t xs:=by
 have no:∀ o:HO,H t=some o->yot o=false->H' t=some o:=fun o ho hi=>B _ _ ho fun z=>by
  obtain ⟨o',ho',hi'⟩:=h.own t z
  rw [ho] at ho'
  cases ho'
  rw [hi] at hi'
  cases hi'
 rcases e with (e | ⟨o,e⟩) | e
 ·exact .inl (.inl (no _ e rfl))
 ·exact .inl (.inr ⟨o,no _ e rfl⟩)
 ·exact .inr e
theorem zk.up {a:Ads} {H:Hp} {p dx lk d:Addr} {kd:Fin 3} {f:List Int->Option Slt} {O:Addr->Prop} {m m':Nat} (h:zk a H p dx lk d kd f O m) (hm:m <= m'):zk a H p dx lk d kd f O m':=by
 obtain ⟨kvs,loc,h1,h2,h3⟩:=h.tb
 exact ⟨h.me,h.own,h.np,h.dO,h.ky,kvs,loc,h1,Nat.le_trans h2 hm,h3⟩
theorem xr.mvT {K:W.Frag} {H H':Hp} {k:Addr} {x:V} {ps:List Int} (h:xr K H k x ps) (h1:∀ t xs,SqT K H t xs->SqT K H' t xs):xr K H' k x ps:=by
 obtain ⟨t,q1,q2,q3,q4⟩:=h
 exact ⟨t,h1 _ _ q1,h1 _ _ q2,q3,q4⟩
def xg (g:Nat->Addr) (n:Nat):List V:=(List.range n).map fun i=>V.ref (g i)
theorem vv (g:Nat->Addr) (n:Nat):(xg g n).length=n:=by unfold xg; rw [List.length_map,List.length_range]
theorem zf {g:Nat->Addr} {n i:Nat} {x:V} (h:(xg g n)[i]?=some x):x=.ref (g i)/\i < n:=by
 have hi:i < n:=by
  have:=(List.getElem?_eq_some_iff.mp h).1
  rw [vv] at this
  exact this
 unfold xg at h
 rw [List.getElem?_map,List.getElem?_range hi] at h
 exact ⟨(Option.some.inj h).symm,hi⟩
theorem zb (g:Nat->Addr) (n:Nat):xg g (n+1)=xg g n++[.ref (g n)]:=by
 unfold xg
 rw [List.range_succ,List.map_append]
 rfl
theorem ue {g h:Nat->Addr} {n:Nat} (e:∀ i,i < n->g i=h i):xg g n=xg h n:=by
 unfold xg
 exact List.map_congr_left fun i hi=>by rw [e i (List.mem_range.mp hi)]
structure Bks (K:W.Frag) (a:Ads) (H:Hp) (n:Nat) (bk dx lk dd:Nat->Addr) (kd:Nat->Fin 3) (ps:Nat->List Int) (f:Nat->List Int->Option Slt) (O:Nat->Addr->Prop) (m:Nat):Prop where
 look:∀ i,i < n->xr K H (lk i) (.str (kdS (kd i))) (ps i)
 b:∀ i,i < n->zk a H (bk i) (dx i) (lk i) (dd i) (kd i) (f i) (O i) m
 dj:∀ i j c,i < n->j < n->i≠j->O i c->¬ O j c
 nb:∀ i j,i < n->j < n->¬ O i (bk j)
def AtS (H:Hp) (d:Addr) (k:List Int) (q:Addr):Prop:=∀ kvs,H d=some (.dT kvs)->u6 kvs (kI k)=some (.ref q)
theorem zk.slot {a:Ads} {H:Hp} {p dx lk d q:Addr} {kd:Fin 3} {f:List Int->Option Slt} {O:Addr->Prop} {m:Nat} {k:List Int} {s:Slt} (h:zk a H p dx lk d kd f O m) (hf:f k=some s) (hq:AtS H d k q):∃ dq,H q=some (oS a dq s)/\s.ok/\s.kind=kd/\O q:=by
 obtain ⟨kvs,loc,h1,h2,h3,h4,h5⟩:=h.tb
 obtain ⟨q1,q2,q3,q4,q5⟩:=h4 k s hf
 have e:=hq kvs h1
 rw [q1] at e
 injection e with e
 injection e with e
 subst e
 exact ⟨_,q2,q3,q4,q5⟩
theorem zk.told {a:Ads} {H H':Hp} {p dx lk d q dq:Addr} {kd:Fin 3} {f:List Int->Option Slt} {O:Addr->Prop} {m:Nat} {k:List Int} {s:Slt} {b:Int} (h:zk a H p dx lk d kd f O m) (hf:f k=some s) (hq:AtS H d k q) (b0:0 <= b) (b1:b <= 1)
  (h3:H' q=some (oS a dq (s.see b))) (B:But q H H'):zk a H' p dx lk d kd (ji f k (s.see b)) O m:=by
 have hme:=h.me
 obtain ⟨kvs,loc,h1,h2,h3',h4,h5⟩:=id h.tb
 obtain ⟨q1,q2,q3,q4,q5⟩:=h4 k s hf
 have e:=hq kvs h1
 rw [q1] at e
 injection e with e
 injection e with e
 have npl:p≠q:=fun z=>h.np (by rw [z,<- e]; exact q5)
 have ndl:d≠q:=fun z=>by
  obtain ⟨C,fs,eo⟩:=zw a (loc k).2 s
  rw [e,<- z,h1,eo] at q2
  cases q2
 refine ⟨B _ _ hme npl,fun c hc=>?_,h.np,h.dO,h.ky.mv h1 (B _ _ h1 ndl),kvs,fun j=>if j=k then (q,dq) else loc j,B _ _ h1 ndl,h2,fun j hj=>?_,fun j s' hj=>?_,fun j1 j2 s1 s2 e1 e2 el=>?_⟩
 ·obtain ⟨o,ho,hi⟩:=h.own c hc
  by_cases z:c=q
  ·rw [z]
   obtain ⟨C,fs,eo⟩:=zw a dq (s.see b)
   exact ⟨_,h3,by rw [eo]; rfl⟩
  ·exact ⟨o,B _ _ ho z,hi⟩
 ·refine h3' j ?_
  unfold ji at hj
  split at hj
  ·cases hj
  ·exact hj
 ·unfold ji at hj
  by_cases z:j=k
  ·rw [if_pos z] at hj
   cases hj
   subst z
   dsimp only
   rw [if_pos rfl]
   exact ⟨by rw [q1,e],h3,Slt.see_ok q3 b0 b1,(yjj s b).trans q4,e ▸ q5⟩
  ·rw [if_neg z] at hj
   obtain ⟨p1,p2,p3,p4,p5⟩:=h4 j s' hj
   dsimp only
   rw [if_neg z]
   exact ⟨p1,B _ _ p2 (fun w=>z (h5 j k s' s hj hf (w.trans e.symm))),p3,p4,p5⟩
 ·have some_of:∀ j s',ji f k (s.see b) j=some s'->∃ t,f j=some t:=fun j s' h=>by
   unfold ji at h
   by_cases z:j=k
   ·exact ⟨s,by rw [z]; exact hf⟩
   ·rw [if_neg z] at h
    exact ⟨s',h⟩
  obtain ⟨t1,f1⟩:=some_of j1 s1 e1
  obtain ⟨t2,f2⟩:=some_of j2 s2 e2
  refine h5 j1 j2 t1 t2 f1 f2 ?_
  have ylc:∀ j,(if j=k then ((q,dq):Addr × Addr) else loc j).1=(loc j).1:=fun j=>by
   by_cases z:j=k
   ·rw [if_pos z,z]
    exact e.symm
   ·rw [if_neg z]
  rw [<- ylc j1,<- ylc j2]
  exact el
theorem AtS.told {a:Ads} {H H':Hp} {p dx lk d q:Addr} {kd:Fin 3} {f:List Int->Option Slt} {O:Addr->Prop} {m:Nat} {k:List Int} (h:zk a H p dx lk d kd f O m) {r:Addr} (hd:d≠r) (B:But r H H') (hq:AtS H d k q):AtS H' d k q:=fun kvs e=>by
 obtain ⟨kvs0,loc,h1,_⟩:=h.tb
 rw [B _ _ h1 hd] at e
 cases e
 exact hq _ h1
section
variable {K:W.Frag} {a:Ads} {H H':Hp} {n m:Nat} {bk dx lk dd:Nat->Addr} {kd:Nat->Fin 3} {ps:Nat->List Int} {f:Nat->List Int->Option Slt} {O:Nat->Addr->Prop}
theorem Bks.frame (h:Bks K a H n bk dx lk dd kd ps f O m) {O2:Addr->Prop} (B:yj3 O2 H H') (dj:∀ i b,i < n->O i b->¬ O2 b) (hp:∀ i,i < n->¬ O2 (bk i)) (ht:∀ t xs,SqT K H t xs->SqT K H' t xs):Bks K a H' n bk dx lk dd kd ps f O m :=
 ⟨fun i hi=>(h.look i hi).mvT ht,fun i hi=>(h.b i hi).frame B (fun b hb=>dj i b hi hb) (hp i hi),h.dj,h.nb⟩
theorem Bks.same (h:Bks K a H n bk dx lk dd kd ps f O m) (S:y6 H H'):Bks K a H' n bk dx lk dd kd ps f O m :=
 h.frame (O2:=fun _=>False) (fun b o e _=>S b o e) (fun _ _ _ _ z=>z) (fun _ _ z=>z) fun _ _ e=>S.tup e
theorem Bks.move (h:Bks K a H n bk dx lk dd kd ps f O m) {j m':Nat} (hj:j < n) {f':List Int->Option Slt} {O':Addr->Prop} (hm:m <= m') (hb:zk a H' (bk j) (dx j) (lk j) (dd j) (kd j) f' O' m') (hO:∀ c,O' c->O j c\/H c=none) (B:yj3 (O j) H H') :
  Bks K a H' n bk dx lk dd kd ps (fun i=>if i=j then f' else f i) (fun i=>if i=j then O' else O i) m':=by
 have hbj:=h.b j hj
 have live:∀ q c,q < n->q≠j->O q c->¬ O' c:=fun q c hq hqj w w'=>by
  rcases hO c w' with v | v
  ·exact h.dj q j c hq hj hqj w v
  ·obtain ⟨o,ho,_⟩:=(h.b q hq).own c w
   rw [v] at ho
   cases ho
 refine ⟨fun i hi=>(h.look i hi).mvT fun t xs e=>hbj.sqt B e,fun i hi=>?_,fun i l c hi hl hil e1 e2=>?_,fun i l hi hl e=>?_⟩
 ·try dsimp only
  by_cases z:i=j
  ·subst z
   rw [if_pos rfl,if_pos rfl]
   exact hb
  ·rw [if_neg z,if_neg z]
   exact ((h.b i hi).frame B (fun b hb'=>h.dj i j b hi hj z hb') (h.nb j i hj hi)).up hm
 ·try dsimp only at e1 e2
  by_cases z1:i=j
  ·rw [if_pos z1] at e1
   have z2:l≠j:=fun w=>hil (z1.trans w.symm)
   rw [if_neg z2] at e2
   exact live l c hl z2 e2 e1
  ·rw [if_neg z1] at e1
   by_cases z2:l=j
   ·rw [if_pos z2] at e2
    exact live i c hi z1 e1 e2
   ·rw [if_neg z2] at e2
    exact h.dj i l c hi hl hil e1 e2
 ·try dsimp only at e
  by_cases z:i=j
  ·rw [if_pos z] at e
   rcases hO _ e with v | v
   ·exact h.nb j l hj hl v
   ·rw [(h.b l hl).me] at v
    cases v
  ·rw [if_neg z] at e
   exact h.nb i l hi hl e
theorem AtS.move (h:Bks K a H n bk dx lk dd kd ps f O m) {i j:Nat} (hi:i < n) (hj:j < n) (hij:i≠j) (B:yj3 (O j) H H') {k:List Int} {q:Addr} (hq:AtS H (dd i) k q):AtS H' (dd i) k q:=fun kvs e=>by
 obtain ⟨kvs0,loc,h1,_⟩:=(h.b i hi).tb
 rw [B _ _ h1 (h.dj i j _ hi hj hij (h.b i hi).dO)] at e
 cases e
 exact hq _ h1
theorem Bks.nlst (h:Bks K a H n bk dx lk dd kd ps f O m) {l:Addr} {xs:List V} (hl:H l=some (.lst xs)):∀ i,i < n->¬ O i l:=fun i hi z=>by
 obtain ⟨o,ho,hi'⟩:=(h.b i hi).own l z
 rw [hl] at ho
 cases ho
 cases hi'
end
def yik (n:Nat) (kd:Nat->Fin 3) (f:Nat->List Int->Option Slt) (g:Nat->List Int->Slt):Prop:=∀ i,i < n->∀ k,(f i k).getD (kd0 (kd i))=g i k
theorem yik.put {n:Nat} {kd:Nat->Fin 3} {f:Nat->List Int->Option Slt} {g:Nat->List Int->Slt} (h:yik n kd f g) (j:Nat) (hj:j < n) (k:List Int):yik n kd (fun i=>if i=j then ji (f j) k ((f j k).getD (kd0 (kd j))) else f i) g:=fun i hi k'=>by
 dsimp only
 by_cases z:i=j
 ·subst z
  rw [if_pos rfl]
  unfold ji
  by_cases w:k'=k
  ·rw [if_pos w,w]
   exact h i hi k
  ·rw [if_neg w]
   exact h i hi k'
 ·rw [if_neg z]
  exact h i hi k'
def yfx (K:W.Frag) (a:Ads):Sp:=fun vs H Q _=>∃ (p dp ll bl mp el pl0:Addr) (nd:Int) (sg:List Int) (n m:Nat) (bk dx lk dd:Nat->Addr) (kd:Nat->Fin 3) (ps:Nat->List Int) (f:Nat->List Int->Option Slt) (O:Nat->Addr->Prop) (g:Nat->List Int->Slt),vs=[.ref p] /\
 H p=some (.ins a.C_Ft dp (vk (.ref ll) (.ref bl) (.ref mp) (.ref el) (.int nd) (.ref pl0)))/\H bl=some (.lst (xg bk n))/\H el=some (.lst (sg.map V.int))/\Bks K a H n bk dx lk dd kd ps f O m/\yik n kd f g/\n <= 6/\m+10 < 1000000/\(∀ i,i < n->¬ O i p) /\
 ∀ (pl:Addr) (sl:Nat->Addr) (f':Nat->List Int->Option Slt) (O':Nat->Addr->Prop) (H':Hp),H' p=some (.ins a.C_Ft dp (vk (.ref ll) (.ref bl) (.ref mp) (.ref el) (.int nd) (.ref pl)))->H' pl=some (.lst (xg sl n))->H pl=none ->
  Bks K a H' n bk dx lk dd kd ps f' O' (m+n)->yik n kd f' g->(∀ j,j < n->(∃ s,f' j (ctx (ps j) sg nd)=some s)/\AtS H' (dd j) (ctx (ps j) sg nd) (sl j))->(∀ j c,j < n->O' j c->O j c\/H c=none) ->
  (∀ c o,H c=some o->c≠p->(∀ j,j < n->¬ O j c)->H' c=some o)->(∀ c o,H c=some o->∃ o',H' c=some o')->Q .non H'
theorem yh2 (T:Txt K mg a):we P w K mg base CX0 5 a.f_q36 a.d_q36 ["self"] (yfx K a):=by
 refine T.y_q36.F.ok yqf (fun vs H Q E h=>?_) (fun cdv A outer s H vs Q E hr h=>?_)
 ·obtain ⟨p,dp,ll,bl,mp,el,pl0,nd,sg,n,m,bk,dx,lk,dd,kd,ps,f,O,g,rfl,_⟩:=h
  rfl
 ·obtain ⟨p,dp,ll,bl,mp,el,pl0,nd,sg,n,m,bk,dx,lk,dd,kd,ps,f,O,g,rfl,hp,hbl,hel,hB,hA,n6,hm,np,k⟩:=h
  refine ⟨_,(yf (y4 (pv 0) (jc (js:=[0]) (ys:=["self"]) rfl (wx (yt (pv 0) rfl)) (fun C s2 H2 fp=>(uv (pv 0) T.cl_Book T.y_q28.m (ype T) (hr.mono (by decide)) T.y_q28.B .nil yu (yc (yhs (K:=K) rfl (pv 1) rfl) (yc (yhs (K:=K) rfl (pv 1) rfl) ye (yb rfl)) (yb rfl)))) rfl rfl (hyc:=(all_cons rfl vn)) (hrel:=(all_cons rfl vn))) rfl)),?_⟩
  try dsimp only [v7]
  refine yo (σ':=[some _]) rfl ?_
  walk_at "rd"
  refine ⟨bl,rfl,⟨_,SqL.of hbl⟩,fun D hD=>?_⟩
  have nbl:=hB.nlst hbl
  have nel:=hB.nlst hel
  refine yav (K:=K) (xs:=xg bk n) (fun i G=>∃ (sl:Nat->Addr) (f':Nat->List Int->Option Slt) (O':Nat->Addr->Prop),G D=some (.lst (xg sl i))/\Bks K a G n bk dx lk dd kd ps f' O' (m+i)/\yik n kd f' g/\(∀ j,j < i->(∃ s,f' j (ctx (ps j) sg nd)=some s)/\AtS G (dd j) (ctx (ps j) sg nd) (sl j)) /\
   (∀ j c,j < n->O' j c->O j c\/H c=none)/\(∀ c o,H c=some o->(∀ j,j < n->¬ O j c)->G c=some o)/\(∀ c o,H c=some o->∃ o',G c=some o'))
   ⟨fun _=>0,f,O,ya,hB.same (y1 hD),hA,fun j hj=>absurd hj (Nat.not_lt_zero j),fun j c _ z=>.inl z,fun c o e _=>x9 hD e,fun c o e=>⟨o,x9 hD e⟩⟩ (fun i G _ z=>?_) (fun i x G hx hi z=>?_) (fun G z=>?_)
  ·obtain ⟨_,_,_,_,_,_,_,_,w,_⟩:=z
   exact SqL.of (w _ _ hbl nbl)
  ·obtain ⟨sl,f',O',gD,gB,gA,gS,gO,gF,gL⟩:=z
   obtain ⟨rfl,hin⟩:=zf hx
   have hpG:=gF _ _ hp np
   have helG:=gF _ _ hel nel
   have hme:=(gB.b i hin).me
   show yam _ _ _ _ _ _ _ (some (V.ref (bk i)) :: vd [0] [some (V.ref p)]) G _
   walk_at "rd"
   refine ⟨bk i,dx i,lk i,dd i,el,kd i,f' i,O' i,m+i,ps i,sg,nd,rfl,gB.b i hin,by omega,gB.look i hin,SqL.of helG,fun q O2 G2 hb2 hv hO2 hM2 B2=>?_⟩
   have nD:=gB.nlst gD
   have gD2:G2 D=some (.lst (xg sl i)):=B2 _ _ gD (nD i hin)
   refine xp (n:=(xg bk n).length) gD2 (vf (by rw [vv]; omega)) hi ?_
   have M2:=gB.move hin (Nat.le_succ (m+i)) hb2 hO2 B2
   have nD2:=M2.nlst gD2
   have SB:∀ c o,G2 c=some o->c≠D->upd G2 D (.lst (xg sl i++[V.ref q])) c=some o:=fun c o e ne=>yj ne e
   have M3:=M2.frame (O2:=fun c=>c=D) (fun c o e ne=>SB c o e ne) (fun j c hj w z=>nD2 j hj (z ▸ w)) (fun j hj z=>by
    have:=(M2.b j hj).me
    rw [z,gD2] at this
    cases this) (fun t xs e=>by
    rcases e with (e | ⟨o,e⟩) | e
    ·exact .inl (.inl (SB _ _ e (fun z=>by rw [z,gD2] at e; cases e)))
    ·exact .inl (.inr ⟨o,SB _ _ e (fun z=>by rw [z,gD2] at e; cases e)⟩)
    ·exact .inr e)
   have up:∀ j,j < n->AtS G2 (dd j) (ctx (ps j) sg nd) (if j=i then q else sl j)->AtS (upd G2 D (.lst (xg sl i++[V.ref q]))) (dd j) (ctx (ps j) sg nd) (if j=i then q else sl j):=fun j hj h =>
    h.told (M2.b j hj) (fun z=>nD2 j hj (by rw [<- z]; exact (M2.b j hj).dO)) (fun c o e ne=>SB c o e ne)
   refine ⟨fun j=>if j=i then q else sl j,_,_,?_,M3,gA.put i hin _,fun j hj=>?_,fun j c hj w=>?_,fun c o e no=>?_,fun c o e=>?_⟩
   ·rw [ya,zb,if_pos rfl]
    congr 3
    exact ue fun j hj=>(if_neg (by omega)).symm
   ·by_cases z:j=i
    ·subst z
     refine ⟨⟨(f' j (ctx (ps j) sg nd)).getD (kd0 (kd j)),?_⟩,up j hin ?_⟩
     ·try dsimp only
      rw [if_pos rfl]
      unfold ji
      rw [if_pos rfl]
     ·rw [if_pos rfl]
      exact hv
    ·have hjn:j < n:=by omega
     obtain ⟨⟨s',hs'⟩,hat⟩:=gS j (by omega)
     refine ⟨⟨s',?_⟩,up j hjn ?_⟩
     ·try dsimp only
      rw [if_neg z]
      exact hs'
     ·rw [if_neg z]
      exact hat.move gB hjn hin z B2
   ·try dsimp only at w
    by_cases z:j=i
    ·subst z
     rw [if_pos rfl] at w
     rcases hO2 c w with v | v
     ·exact gO j c hj v
     ·refine .inr ?_
      cases e:H c with
      | none=>rfl
      | some o =>
       obtain ⟨o',w'⟩:=gL c o e
       rw [w'] at v
       cases v
    ·rw [if_neg z] at w
     exact gO j c hj w
   ·have hG:=gF c o e no
    have nc:¬ O' i c:=fun w=>by
     rcases gO i c hin w with v | v
     ·exact no i hin v
     ·rw [e] at v
      cases v
    refine SB _ _ (B2 _ _ hG nc) (fun z=>?_)
    rw [z,hD] at e
    cases e
   ·obtain ⟨o1,w1⟩:=gL c o e
    have ncD:c≠D:=fun z=>by rw [z,hD] at e; cases e
    by_cases w2:O' i c
    ·obtain ⟨o2,ho2,_⟩:=hb2.own c (hM2 c w2)
     exact ⟨o2,SB _ _ ho2 ncD⟩
    ·exact ⟨o1,SB _ _ (B2 _ _ w1 w2) ncD⟩
  ·obtain ⟨sl,f',O',gD,gB,gA,gS,gO,gF,gL⟩:=z
   rw [vv] at gD gB gS
   have hpG:=gF _ _ hp np
   walk_at "rd"
   have nDp:D≠p:=fun z=>by rw [z,hp] at hD; cases hD
   have BP:But p G (upd G p (.ins a.C_Ft dp (vk (.ref ll) (.ref bl) (.ref mp) (.ref el) (.int nd) (.ref D)))):=But.upd
   have np':∀ i,i < n->¬ O' i p:=fun i hi w=>by
    rcases gO i p hi w with v | v
    ·exact np i hi v
    ·rw [hp] at v; cases v
   have M3:=gB.frame (O2:=fun c=>c=p) (fun c o e ne=>BP c o e ne) (fun j c hj w z=>np' j hj (z ▸ w)) (fun j hj z=>by
    have:=(gB.b j hj).me
    rw [z,hpG] at this
    injection this with this
    injection this with _ _ e
    exact absurd (congrArg List.length e) (show ¬ (6=2) by decide)) (fun t xs e=>by
    rcases e with (e | ⟨o,e⟩) | e
    ·exact .inl (.inl (BP _ _ e (fun z=>by rw [z,hpG] at e; cases e)))
    ·exact .inl (.inr ⟨o,BP _ _ e (fun z=>by rw [z,hpG] at e; cases e)⟩)
    ·exact .inr e)
   refine k D sl f' O' _ ya (yj nDp gD) hD M3 gA (fun j hj=>⟨(gS j hj).1,(gS j hj).2.told (gB.b j hj) (fun z=>np' j hj (by rw [<- z]; exact (gB.b j hj).dO)) BP⟩) gO (fun c o e nc no=>BP _ _ (gF c o e no) nc) fun c o e=>?_
   by_cases zc:c=p
   ·rw [zc]
    exact ⟨_,ya⟩
   ·obtain ⟨o1,w1⟩:=gL c o e
    exact ⟨o1,BP _ _ w1 zc⟩
structure FA where
 dp:Addr
 ll:Addr
 bl:Addr
 mp:Addr
 mx:Addr
 ml:Addr
 el:Addr
 pl:Addr
 n:Nat
 bk:Nat->Addr
 dx:Nat->Addr
 lk:Nat->Addr
 dd:Nat->Addr
 sl:Nat->Addr
 kd:Nat->Fin 3
 ps:Nat->List Int
structure FX where
 g:Nat->List Int->Slt
 ws:List Int
 sg:List Int
 nd:Int
def FX.key (X:FX) (A:FA) (i:Nat):List Int:=ctx (A.ps i) X.sg X.nd
def FX.cs (X:FX) (A:FA):List Int:=(List.range A.n).map fun i=>(X.g i (X.key A i)).due
def ndN (nd b:Int):Int:=if 0 < nd then (if 256 <= 2 * nd+b then 0 else 2 * nd+b) else if b=1 then 1 else nd
def sgN (sg:List Int) (nd b:Int):List Int:=if 0 < nd then (if 256 <= 2 * nd+b then sg++[2 * nd+b - 256] else sg) else if b=1 then sg else []
def FX.see (X:FX) (A:FA) (b:Int):FX:={ g:=fun i k=>if k=X.key A i then (X.g i k).see b else X.g i k,ws:=lrn X.ws (X.cs A) b,sg:=sgN X.sg X.nd b,nd:=ndN X.nd b }
structure jg (K:W.Frag) (a:Ads) (H:Hp) (p:Addr) (A:FA) (X:FX) (f:Nat->List Int->Option Slt) (O:Nat->Addr->Prop) (m:Nat):Prop where
 me:H p=some (.ins a.C_Ft A.dp (vk (.ref A.ll) (.ref A.bl) (.ref A.mp) (.ref A.el) (.int X.nd) (.ref A.pl)))
 bl:H A.bl=some (.lst (xg A.bk A.n))
 el:H A.el=some (.lst (X.sg.map V.int))
 mx:ygd a A.mp A.mx A.ml X.ws H
 wok:WOk A.n X.ws
 pl:H A.pl=some (.lst (xg A.sl A.n))
 B:Bks K a H A.n A.bk A.dx A.lk A.dd A.kd A.ps f O m
 ag:yik A.n A.kd f X.g
 at':∀ j,j < A.n->(∃ s,f j (X.key A j)=some s)/\AtS H (A.dd j) (X.key A j) (A.sl j)
 np:∀ i,i < A.n->¬ O i p
 nm:∀ i,i < A.n->¬ O i A.mp
 n1:1 <= A.n
 n6:A.n <= 6
theorem jg.same {K:W.Frag} {a:Ads} {H H':Hp} {p:Addr} {A:FA} {X:FX} {f:Nat->List Int->Option Slt} {O:Nat->Addr->Prop} {m:Nat} (h:jg K a H p A X f O m) (S:y6 H H'):jg K a H' p A X f O m :=
 ⟨S _ _ h.me,S _ _ h.bl,S _ _ h.el,h.mx.same S,h.wok,S _ _ h.pl,h.B.same S,h.ag,fun j hj=>⟨(h.at' j hj).1,fun kvs e=>by
  obtain ⟨kvs0,loc,h1,_⟩:=(h.B.b j hj).tb
  rw [S _ _ h1] at e
  cases e
  exact (h.at' j hj).2 _ h1⟩,h.np,h.nm,h.n1,h.n6⟩
theorem jg.slot {K:W.Frag} {a:Ads} {H:Hp} {p:Addr} {A:FA} {X:FX} {f:Nat->List Int->Option Slt} {O:Nat->Addr->Prop} {m:Nat} (h:jg K a H p A X f O m) {j:Nat} (hj:j < A.n) :
  f j (X.key A j)=some (X.g j (X.key A j))/\(∃ dq,H (A.sl j)=some (oS a dq (X.g j (X.key A j))))/\(X.g j (X.key A j)).ok/\O j (A.sl j):=by
 obtain ⟨⟨s,hs⟩,hat⟩:=h.at' j hj
 have e:=h.ag j hj (X.key A j)
 rw [hs] at e
 have e:s=X.g j (X.key A j):=e
 rw [<- e]
 obtain ⟨dq,h1,h2,h3,h4⟩:=(h.B.b j hj).slot hs hat
 exact ⟨hs,⟨dq,h1⟩,h2,h4⟩
theorem jg.cok {K:W.Frag} {a:Ads} {H:Hp} {p:Addr} {A:FA} {X:FX} {f:Nat->List Int->Option Slt} {O:Nat->Addr->Prop} {m:Nat} (h:jg K a H p A X f O m):COk A.n (X.cs A):=by
 refine ⟨by unfold FX.cs; rw [List.length_map,List.length_range],fun c hc=>?_,fun c hc=>?_⟩
 ·obtain ⟨j,hj,rfl⟩:=List.mem_map.mp hc
  exact (yla (h.slot (List.mem_range.mp hj)).2.2.1).1
 ·obtain ⟨j,hj,rfl⟩:=List.mem_map.mp hc
  exact (yla (h.slot (List.mem_range.mp hj)).2.2.1).2
theorem LkG.at' {K:W.Frag} {H:Hp} {lk tp:Addr} {kd:Fin 3} {ps:List Int} (h:LkG H (.ref lk) kd tp ps):xr K H lk (.str (kdS kd)) ps:=by
 obtain ⟨lk',e,h1,h2,h3⟩:=h
 cases e
 have h3:=h3
 unfold x8 at h3
 rw [Bool.and_eq_true,Bool.and_eq_true,List.all_eq_true] at h3
 refine ⟨tp,SqT.of h1,SqT.of h2,fun p hp=>?_,by have:=of_decide_eq_true h3.1.1; rw [List.length_map] at this; exact this⟩
 have w:=h3.1.2 (.int p) (List.mem_map.mpr ⟨p,hp,rfl⟩)
 have w:(decide (1 <= p) && decide (p <= 8))=true:=w
 rw [Bool.and_eq_true] at w
 exact ⟨of_decide_eq_true w.1,of_decide_eq_true w.2⟩
theorem Bks.snoc {K:W.Frag} {a:Ads} {H:Hp} {n m:Nat} {bk dx lk dd:Nat->Addr} {kd:Nat->Fin 3} {ps:Nat->List Int} {f:Nat->List Int->Option Slt} {O:Nat->Addr->Prop} (h:Bks K a H n bk dx lk dd kd ps f O m)
  (hl:xr K H (lk n) (.str (kdS (kd n))) (ps n)) {q dq d:Addr} {f':List Int->Option Slt} {O':Addr->Prop} (hb:zk a H q dq (lk n) d (kd n) f' O' m) (dj:∀ j c,j < n->O j c->¬ O' c) (n1:∀ j,j < n->¬ O j q) (n2:∀ j,j < n->¬ O' (bk j)) :
  Bks K a H (n+1) (upN bk n q) (upN dx n dq) lk (upN dd n d) kd ps (upN f n f') (upN O n O') m:=by
 refine ⟨fun i hi=>?_,fun i hi=>?_,fun i j c hi hj hij e1 e2=>?_,fun i j hi hj e=>?_⟩
 ·by_cases z:i=n
  ·rw [z]
   exact hl
  ·exact h.look i (by omega)
 ·by_cases z:i=n
  ·subst z
   rw [wc,wc,wc,wc,wc]
   exact hb
  ·have hin:i < n:=by omega
   rw [v6 hin,v6 hin,v6 hin,v6 hin,v6 hin]
   exact h.b i hin
 ·by_cases z:i=n
  ·subst z
   have hjn:j < i:=by omega
   rw [wc] at e1
   rw [v6 hjn] at e2
   exact dj j c hjn e2 e1
  ·have hin:i < n:=by omega
   rw [v6 hin] at e1
   by_cases w:j=n
   ·subst w
    rw [wc] at e2
    exact dj i c hin e1 e2
   ·have hjn:j < n:=by omega
    rw [v6 hjn] at e2
    exact h.dj i j c hin hjn hij e1 e2
 ·by_cases z:i=n
  ·subst z
   rw [wc] at e
   by_cases w:j=i
   ·subst w
    rw [wc] at e
    exact hb.np e
   ·have hjn:j < i:=by omega
    rw [v6 hjn] at e
    exact n2 j hjn e
  ·have hin:i < n:=by omega
   rw [v6 hin] at e
   by_cases w:j=n
   ·subst w
    rw [wc] at e
    exact n1 i hin e
   ·have hjn:j < n:=by omega
    rw [v6 hjn] at e
    exact h.nb i j hin hjn e
def yjz (K:W.Frag) (a:Ads) (H G:Hp) (n:Nat) (bk dx lk dd:Nat->Addr) (kd:Nat->Fin 3) (ps:Nat->List Int) (f:Nat->List Int->Option Slt) (O:Nat->Addr->Prop):Prop :=
 Bks K a G n bk dx lk dd kd ps f O 0/\(∀ j k,j < n->f j k=none)/\(∀ j c,j < n->O j c->H c=none)/\(∀ j,j < n->H (bk j)=none)
theorem yjz.zero {K:W.Frag} {a:Ads} {H G:Hp} {bk dx lk dd:Nat->Addr} {kd:Nat->Fin 3} {ps:Nat->List Int} {f:Nat->List Int->Option Slt} {O:Nat->Addr->Prop}:yjz K a H G 0 bk dx lk dd kd ps f O :=
 ⟨⟨fun i hi=>absurd hi (Nat.not_lt_zero i),fun i hi=>absurd hi (Nat.not_lt_zero i),fun i _ _ hi=>absurd hi (Nat.not_lt_zero i),fun i _ hi=>absurd hi (Nat.not_lt_zero i)⟩,fun i _ hi=>absurd hi (Nat.not_lt_zero i),fun i _ hi=>absurd hi (Nat.not_lt_zero i),fun i hi=>absurd hi (Nat.not_lt_zero i)⟩
theorem yjz.next {K:W.Frag} {a:Ads} {H G G2:Hp} {n:Nat} {bk dx lk dd:Nat->Addr} {kd:Nat->Fin 3} {ps:Nat->List Int} {f:Nat->List Int->Option Slt} {O:Nat->Addr->Prop} (h:yjz K a H G n bk dx lk dd kd ps f O) (hl:xr K G (lk n) (.str (kdS (kd n))) (ps n))
  (S:y6 H G) {q dq d D:Addr} {xs ys:List V} (hq:G q=none) (hd:G d=none) (S2:y6 G G2) (hb:zk a G2 q dq (lk n) d (kd n) (fun _=>none) (fun b=>b=d) 0) (hD:G D=some (.lst xs)) :
  yjz K a H (upd G2 D (.lst ys)) (n+1) (upN bk n q) (upN dx n dq) lk (upN dd n d) kd ps (upN f n fun _=>none) (upN O n fun b=>b=d):=by
 obtain ⟨hB,h1,h2,h3⟩:=h
 have live:∀ j c,j < n->O j c->∃ o,G c=some o:=fun j c hj w=>let ⟨o,ho,_⟩:=(hB.b j hj).own c w; ⟨o,ho⟩
 have M:=(hB.same S2).snoc (hl.same S2) hb (fun j c hj w z=>by
  obtain ⟨o,ho⟩:=live j c hj w
  rw [show c=d from z,hd] at ho
  cases ho) (fun j hj w=>by
  obtain ⟨o,ho⟩:=live j q hj w
  rw [hq] at ho
  cases ho) (fun j hj z=>by
  have e:=(hB.b j hj).me
  rw [show bk j=d from z,hd] at e
  cases e)
 have hD2:=S2 _ _ hD
 have nD:=M.nlst hD2
 have SB:∀ c o,G2 c=some o->c≠D->upd G2 D (.lst ys) c=some o:=fun c o e ne=>yj ne e
 refine ⟨M.frame (O2:=fun c=>c=D) (fun c o e ne=>SB c o e ne) (fun j c hj w z=>nD j hj (z ▸ w)) (fun j hj z=>?_) (fun t xs e=>?_),fun j k hj=>?_,fun j c hj w=>?_,fun j hj=>?_⟩
 ·have e:=(M.b j hj).me
  rw [z,hD2] at e
  cases e
 ·rcases e with (e | ⟨o,e⟩) | e
  ·exact .inl (.inl (SB _ _ e (fun z=>by rw [z,hD2] at e; cases e)))
  ·exact .inl (.inr ⟨o,SB _ _ e (fun z=>by rw [z,hD2] at e; cases e)⟩)
  ·exact .inr e
 ·by_cases z:j=n
  ·rw [z,wc]
  ·rw [v6 (by omega)]
   exact h1 j k (by omega)
 ·by_cases z:j=n
  ·rw [z,wc] at w
   rw [show c=d from w]
   exact S.free hd
  ·rw [v6 (by omega)] at w
   exact h2 j c (by omega) w
 ·by_cases z:j=n
  ·rw [z,wc]
   exact S.free hq
  ·rw [v6 (by omega)]
   exact h3 j (by omega)
theorem yjz.ag {K:W.Frag} {a:Ads} {H G:Hp} {n:Nat} {bk dx lk dd:Nat->Addr} {kd:Nat->Fin 3} {ps:Nat->List Int} {f:Nat->List Int->Option Slt} {O:Nat->Addr->Prop} (h:yjz K a H G n bk dx lk dd kd ps f O):yik n kd f (fun i _=>kd0 (kd i)):=fun i hi k=>by
 rw [h.2.1 i k hi]
 rfl
def FX0 (n:Nat) (kd:Nat->Fin 3):FX:={ g:=fun i _=>kd0 (kd i),ws:=List.replicate n 1099511627776,sg:=[],nd:=0 }
theorem yiu {g:Nat->Addr} {n:Nat} {x:V} (h:x∈xg g n):∃ i,i < n/\x=.ref (g i):=by
 unfold xg at h
 obtain ⟨i,hi,e⟩:=List.mem_map.mp h
 exact ⟨i,List.mem_range.mp hi,e.symm⟩
theorem z0.lks {H:Hp} {n:Nat} {lk:Nat->Addr} {kd:Nat->Fin 3} {tp:Nat->Addr} {ps:Nat->List Int} (h:z0 H n lk kd tp ps):Lks H (xg lk n):=fun y hy=>by
 obtain ⟨i,hi,rfl⟩:=yiu hy
 exact ⟨_,_,_,h i hi⟩
theorem jg.frame {K:W.Frag} {a:Ads} {H H':Hp} {p:Addr} {A:FA} {X:FX} {f:Nat->List Int->Option Slt} {O:Nat->Addr->Prop} {m:Nat} (h:jg K a H p A X f O m) {O2:Addr->Prop} (B:yj3 O2 H H') (hp:¬ O2 p) (hm:¬ O2 A.mp) (hb:∀ i,i < A.n->¬ O2 (A.bk i))
  (dj:∀ i c,i < A.n->O i c->¬ O2 c) (hl:∀ l xs,(l=A.bl\/l=A.el\/l=A.ml\/l=A.pl)->H l=some (.lst xs)->H' l=some (.lst xs)) (ht:∀ t xs,SqT K H t xs->SqT K H' t xs):jg K a H' p A X f O m :=
 ⟨B _ _ h.me hp,hl _ _ (.inl rfl) h.bl,hl _ _ (.inr (.inl rfl)) h.el,⟨B _ _ h.mx.o hm,hl _ _ (.inr (.inr (.inl rfl))) h.mx.l⟩,h.wok,hl _ _ (.inr (.inr (.inr rfl))) h.pl,h.B.frame B (fun i c hi w=>dj i c hi w) hb ht,h.ag,fun j hj=>⟨(h.at' j hj).1,fun kvs e=>by
  obtain ⟨kvs0,loc,h1,_⟩:=(h.B.b j hj).tb
  rw [B _ _ h1 (dj j _ hj (h.B.b j hj).dO)] at e
  cases e
  exact (h.at' j hj).2 _ h1⟩,h.np,h.nm,h.n1,h.n6⟩
theorem ysp (n:Nat) (n1:1 <= n) (n6:n <= 6):WOk n (List.replicate n 1099511627776):=by
 refine ⟨List.length_replicate,fun w h=>?_,fun w h=>?_⟩ <;> (rw [List.eq_of_mem_replicate h]; decide)
theorem yri:ym ["self","looks"] ["self","looks"] (yg yng):=⟨rfl,rfl,rfl,by decide +kernel,rfl,by decide +kernel,by decide +kernel⟩
structure yty (K:W.Frag) (a:Ads) (H H':Hp) (p:Addr) (n:Nat) (lk:Nat->Addr) (kd:Nat->Fin 3) (ps:Nat->List Int) (A:FA) (f:Nat->List Int->Option Slt) (O:Nat->Addr->Prop):Prop where
 ft:jg K a H' p A (FX0 n kd) f O 6
 en:A.n=n
 elk:A.lk=lk
 ekd:A.kd=kd
 eps:A.ps=ps
 oO:∀ j c,j < n->O j c->H c=none
 oB:∀ j,j < n->H (A.bk j)=none
 oM:H A.mp=none
 oL:∀ l,(l=A.bl\/l=A.el\/l=A.ml\/l=A.pl)->H l=none
 lo:H' A.ll=some (.lst (xg lk n))/\A.ll≠A.el/\H A.ll=none
def yep (K:W.Frag) (a:Ads):Sp:=fun vs H Q E=>∃ (p dp:Addr) (x:V),vs=[.ref p,x]/\H p=some (.ins a.C_Ft dp []) /\
 ((yu4 K H x/\∀ H',y6 H H'->E (.ref a.C_NL) none H')\/∃ (l:Addr) (n:Nat) (lk:Nat->Addr) (kd:Nat->Fin 3) (tp:Nat->Addr) (ps:Nat->List Int),x=.ref l/\H l=some (.lst (xg lk n))/\1 <= n/\n <= 6/\z0 H n lk kd tp ps /\
  ∀ A f O H',yty K a H H' p n lk kd ps A f O->But p H H'->Q .non H')
theorem ye5 (T:Txt K mg a):we P w K mg base (CXe P w) 6 a.f_q35 a.d_q35 ["self","looks"] (yep K a):=by
 refine T.y_q35.F.okE yri (fun vs H Q E h=>?_) (fun cdv A outer s H vs Q E hr h=>?_)
 ·obtain ⟨p,dp,x,rfl,_⟩:=h
  rfl
 ·obtain ⟨p,dp,x,rfl,hp,h⟩:=h
  refine yk (y4 (pv 0) (wz (yo6 T) (hr.mono (by decide)) rfl T.y_q24.m T.y_q24.F.kp T.y_q24.B .nil xx (yc (pv 1) ye (yb rfl))) rfl) ?_
  refine yk (y4 (pv 0) (ua rfl (wx (yt (pv 0) rfl)) (fun C s2 H2 fp=>(yb1 T.k_Book (ykk T) (hr.mono (by decide)) rfl T.m_Book T.y_q27.B .nil yu (yc (pv 0) ye (yb rfl))))) rfl) ?_
  refine yk (y4 (pv 0) (yb1 T.k_Mx (yk2 T) (hr.mono (by decide)) rfl T.m_Mx T.y_q30.B .nil yu (yc (yv ve rfl T.z_len (by decide +kernel) (yc (yt (pv 0) rfl) ye (yb rfl))) ye (yb rfl))) rfl) ?_
  refine yk (y4 (pv 0) (zx ye) rfl) ?_
  refine yk (y4 (pv 0) yh rfl) ?_
  refine yk (y4 (pv 0) (zx ye) rfl) ?_
  refine ⟨_,(yf (y3 (yx (pv 0) T.cl_Ft T.y_q36.m (yh2 T) (hr.mono (by decide)) T.y_q36.B .nil yu))),?_⟩
  try dsimp only [v7]
  refine yo (σ':=[some _,some _]) rfl ?_
  walk_at "rd"
  rcases h with ⟨hb,k⟩ | ⟨l,n,lk,kd,tp,ps,rfl,hl,n1,n6,hlk,k⟩
  ·rcases hb with ⟨nm,ty,hn⟩ | ⟨l,xs,bs,rfl,hl,hz,hbs,no⟩
   ·exact .inl ⟨x,nm,rfl,ty,hn,k _ (y6.refl _)⟩
   ·exact .inr ⟨l,xs,bs,rfl,hl,hz,hbs,fun z=>absurd z no,fun _ H' S=>k _ S⟩
  ·refine .inr ⟨l,xg lk n,List.replicate (xg lk n).length true,rfl,hl,by rw [vv]; omega,hlk.lks.bs,fun _ ll H1 hll0 hll1 S1=>?_,fun no=>absurd ⟨by rw [vv]; exact n1,by rw [vv]; exact n6,ymd _⟩ no⟩
   have hp1:=S1 _ _ hp
   have hlk1:=hlk.same S1
   walk_at "rd"
   have hpA:upd H1 p (HO.ins a.C_Ft dp ([("looks",V.ref ll)]:List (Str × V))) p=some (HO.ins a.C_Ft dp ([("looks",V.ref ll)]:List (Str × V))):=ya
   have BA:But p H1 (upd H1 p (HO.ins a.C_Ft dp ([("looks",V.ref ll)]:List (Str × V)))):=But.upd
   have nlp:ll≠p:=(yd hp hll0).symm
   have hllA:upd H1 p (HO.ins a.C_Ft dp ([("looks",V.ref ll)]:List (Str × V))) ll=some (.lst (xg lk n)):=yj nlp hll1
   generalize upd H1 p (HO.ins a.C_Ft dp ([("looks",V.ref ll)]:List (Str × V)))=HA at hpA BA hllA ⊢
   have B0A:But p H HA:=(But.of S1).trans BA
   have hRA:z0 HA n lk kd tp ps:=fun i hi=>by
    obtain ⟨q,e,h1,h2,h3⟩:=hlk i hi
    exact ⟨q,e,B0A _ _ h1 (xu h1 hp (by intro z; cases z)),B0A _ _ h2 (xu h2 hp (by intro z; cases z)),h3⟩
   refine ⟨p,_,dp,_,_,rfl,hpA,T.cl_Ft,T.n_Ft_looks,rfl,?_⟩
   refine ⟨ll,rfl,⟨_,SqL.of hllA⟩,fun bl hbl0=>?_⟩
   refine x6 (K:=K) (xs:=xg lk n) (fun i G=>∃ (bk dx dd:Nat->Addr) (f2:Nat->List Int->Option Slt) (O2:Nat->Addr->Prop),G bl=some (.lst (xg bk i))/\yjz K a HA G i bk dx lk dd kd ps f2 O2/\y6 HA G)
    ⟨fun _=>0,fun _=>0,fun _=>0,fun _ _=>none,fun _ _=>False,ya,yjz.zero,y1 hbl0⟩ (fun i G _ z=>?_) (fun i y G hy hi z=>?_) (fun G z=>?_)
   ·obtain ⟨_,_,_,_,_,_,_,SG⟩:=z
    exact SqL.of (SG _ _ hllA)
   ·obtain ⟨bk,dx,dd,f2,O2,gbl,gN,SG⟩:=z
    obtain ⟨rfl,hin⟩:=zf hy
    walk_at "rd"
    intro q dq nq ndq neq
    have SQ:y6 G (upd (upd G dq (.own q)) q (.ins a.C_Book dq [])):=fun b o e=>by rw [yi (yd e nq),yi (yd e ndq)]; exact e
    refine ⟨q,dq,lk i,kd i,rfl,ya,fun d G2 hd0 hb2 B2=>⟨rfl,?_⟩⟩
    have S2':y6 G G2:=fun b o e=>B2 b o (SQ b o e) (yd e nq)
    refine xp (n:=(xg lk n).length) (S2' _ _ gbl) (vf (by rw [vv]; omega)) hi ?_
    refine ⟨_,_,_,_,_,?_,gN.next ((hRA i hin).same SG).at' SG nq (SQ.free hd0) S2' hb2 gbl,fun b o e=>yj (yd e hbl0) (S2' _ _ (SG b o e))⟩
    rw [ya,zb,wc]
    congr 3
    exact ue fun j hj=>(v6 hj).symm
   obtain ⟨bk,dx,dd,f2,O2,gbl,gN,SG⟩:=z
   rw [vv] at gbl gN
   have hpG:=SG _ _ hpA
   walk_at "rd"
   have SAG:∀ c o,HA c=some o->c≠p->upd G p (HO.ins a.C_Ft dp ([("looks",V.ref ll),("books",V.ref bl)]:List (Str × V))) c=some o:=fun c o e ne=>yj ne (SG _ _ e)
   have hpB:upd G p (HO.ins a.C_Ft dp ([("looks",V.ref ll),("books",V.ref bl)]:List (Str × V))) p=some (HO.ins a.C_Ft dp ([("looks",V.ref ll),("books",V.ref bl)]:List (Str × V))):=ya
   have nbp:bl≠p:=(yd hpA hbl0).symm
   have hblB:upd G p (HO.ins a.C_Ft dp ([("looks",V.ref ll),("books",V.ref bl)]:List (Str × V))) bl=some (.lst (xg bk n)):=yj nbp gbl
   have BP:∀ {fs:List (Str × V)},But p G (upd G p (HO.ins a.C_Ft dp fs)):=But.upd
   have npO:∀ j,j < n->¬ O2 j p:=fun j hj w=>by
    have e:=gN.2.2.1 j p hj w
    rw [hpA] at e
    cases e
   have bkB:∀ {G':Hp},But p G G'->Bks K a G' n bk dx lk dd kd ps f2 O2 0:=fun {G'} B=>gN.1.frame (O2:=fun c=>c=p) (fun c o e ne=>B c o e ne) (fun j c hj w z=>npO j hj (z ▸ w)) (fun j hj z=>by
    have e:=gN.2.2.2 j hj
    rw [z,hpA] at e
    cases e) (fun t xs e=>by
    rcases e with (e | ⟨o,e⟩) | e
    ·exact .inl (.inl (B _ _ e (fun z=>by rw [z,hpG] at e; cases e)))
    ·exact .inl (.inr ⟨o,B _ _ e (fun z=>by rw [z,hpG] at e; cases e)⟩)
    ·exact .inr e)
   have BB:But p G (upd G p (HO.ins a.C_Ft dp ([("looks",V.ref ll),("books",V.ref bl)]:List (Str × V)))):=But.upd
   generalize upd G p (HO.ins a.C_Ft dp ([("looks",V.ref ll),("books",V.ref bl)]:List (Str × V)))=HB at SAG hpB hblB BB ⊢
   refine ⟨p,_,dp,_,_,rfl,hpB,T.cl_Ft,T.n_Ft_looks,rfl,?_⟩
   refine yea (SqL.of (SAG _ _ hllA nlp)) ?_
   rw [vv]
   walk_at "rd"
   intro mp mx nmp nmx nem
   have SM:y6 HB (upd (upd HB mx (.own mp)) mp (.ins a.C_Mx mx [])):=fun b o e=>by rw [yi (yd e nmp),yi (yd e nmx)]; exact e
   refine ⟨mp,mx,n,rfl,n1,n6,ya,fun ml HC hml0 MC BC=>⟨rfl,?_⟩⟩
   have SC:y6 HB HC:=fun b o e=>BC b o (SM b o e) (yd e nmp)
   have hpC:=SC _ _ hpB
   have hblC:=SC _ _ hblB
   have hml0':HB ml=none:=SM.free hml0
   have nmpp:mp≠p:=(yd hpB nmp).symm
   have nmlp:ml≠p:=(yd hpB hml0').symm
   walk_at "rd"
   refine ⟨by walk_at "len",fun el hel0=>?_⟩
   have nel:el≠p:=fun z=>by rw [z,ya] at hel0; cases hel0
   have hel0':HC el=none:=by rw [yi nel] at hel0; exact hel0
   have hpD:upd (upd HC p (HO.ins a.C_Ft dp ([("looks",V.ref ll),("books",V.ref bl),("mixer",V.ref mp)]:List (Str × V)))) el (.lst []) p=some (HO.ins a.C_Ft dp ([("looks",V.ref ll),("books",V.ref bl),("mixer",V.ref mp)]:List (Str × V))):=yj nel.symm ya
   have helD:upd (upd HC p (HO.ins a.C_Ft dp ([("looks",V.ref ll),("books",V.ref bl),("mixer",V.ref mp)]:List (Str × V)))) el (.lst []) el=some (.lst []):=ya
   have BD:But p HC (upd (upd HC p (HO.ins a.C_Ft dp ([("looks",V.ref ll),("books",V.ref bl),("mixer",V.ref mp)]:List (Str × V)))) el (.lst [])):=fun b o e ne=>yj (yd e hel0') (yj ne e)
   generalize upd (upd HC p (HO.ins a.C_Ft dp ([("looks",V.ref ll),("books",V.ref bl),("mixer",V.ref mp)]:List (Str × V)))) el (.lst [])=HD at hpD helD BD ⊢
   walk_at "rd"
   refine ⟨by walk_at "len",fun pl0 hpl0=>?_⟩
   have npl:pl0≠p:=fun z=>by rw [z,ya] at hpl0; cases hpl0
   have hpl0':HD pl0=none:=by rw [yi npl,yi npl] at hpl0; exact hpl0
   have hpE:upd (upd (upd HD p (HO.ins a.C_Ft dp ([("looks",V.ref ll),("books",V.ref bl),("mixer",V.ref mp),("ended",V.ref el)]:List (Str × V)))) p (HO.ins a.C_Ft dp ([("looks",V.ref ll),("books",V.ref bl),("mixer",V.ref mp),("ended",V.ref el),("place",V.int 0)]:List (Str × V)))) pl0 (.lst []) p=some (HO.ins a.C_Ft dp ([("looks",V.ref ll),("books",V.ref bl),("mixer",V.ref mp),("ended",V.ref el),("place",V.int 0)]:List (Str × V))):=yj npl.symm ya
   have BE:But p HD (upd (upd (upd HD p (HO.ins a.C_Ft dp ([("looks",V.ref ll),("books",V.ref bl),("mixer",V.ref mp),("ended",V.ref el)]:List (Str × V)))) p (HO.ins a.C_Ft dp ([("looks",V.ref ll),("books",V.ref bl),("mixer",V.ref mp),("ended",V.ref el),("place",V.int 0)]:List (Str × V)))) pl0 (.lst [])):=fun b o e ne=>yj (yd e hpl0') (yj ne (yj ne e))
   generalize upd (upd (upd HD p (HO.ins a.C_Ft dp ([("looks",V.ref ll),("books",V.ref bl),("mixer",V.ref mp),("ended",V.ref el)]:List (Str × V)))) p (HO.ins a.C_Ft dp ([("looks",V.ref ll),("books",V.ref bl),("mixer",V.ref mp),("ended",V.ref el),("place",V.int 0)]:List (Str × V)))) pl0 (.lst [])=HE at hpE BE ⊢
   walk_at "rd"
   have BF:But p HE (upd HE p (.ins a.C_Ft dp (vk (.ref ll) (.ref bl) (.ref mp) (.ref el) (.int 0) (.ref pl0)))):=But.upd
   have hpF:upd HE p (.ins a.C_Ft dp (vk (.ref ll) (.ref bl) (.ref mp) (.ref el) (.int 0) (.ref pl0))) p=some (.ins a.C_Ft dp (vk (.ref ll) (.ref bl) (.ref mp) (.ref el) (.int 0) (.ref pl0))):=ya
   generalize upd HE p (.ins a.C_Ft dp (vk (.ref ll) (.ref bl) (.ref mp) (.ref el) (.int 0) (.ref pl0)))=HF at hpF BF ⊢
   have BCF:But p HC HF:=(BD.trans BE).trans BF
   have BGF:But p G HF:=fun b o e ne=>BCF b o (SC _ _ (BB b o e ne)) ne
   have moF:=BCF _ _ MC.o nmpp
   have mlF:=BCF _ _ MC.l nmlp
   have blF:=BCF _ _ hblC nbp
   have elF:=BF _ _ (BE _ _ helD nel) nel
   refine ⟨p,dp,ll,bl,mp,el,pl0,0,[],n,0,bk,dx,lk,dd,kd,ps,f2,O2,fun i _=>kd0 (kd i),rfl,hpF,blF,elF,bkB BGF,gN.ag,n6,by omega,npO,fun pl sl f' O' H' me' pl' hpl' B' ag' at' hO' F' L'=>?_⟩
   have freeG:∀ {c:Addr},c≠p->HF c=none->G c=none:=fun {c} ne h=>by
    cases e:G c with
    | none=>rfl
    | some o=>rw [BGF _ _ e ne] at h; cases h
   have live2:∀ j c,j < n->O2 j c->∃ o,G c=some o:=fun j c hj w=>let ⟨o,ho,_⟩:=(gN.1.b j hj).own c w; ⟨o,ho⟩
   have nO:∀ {c:Addr} {o:HO},HF c=some o->yot o=false->∀ j,j < n->¬ O2 j c:=fun {c o} e hi j hj w=>by
    obtain ⟨o',ho',hi'⟩:=((bkB BGF).b j hj).own c w
    rw [e] at ho'
    cases ho'
    rw [hi] at hi'
    cases hi'
   have nOm:∀ j,j < n->¬ O2 j mp:=fun j hj w=>by
    obtain ⟨o,ho⟩:=live2 j mp hj w
    have e:=BB _ _ ho nmpp
    rw [nmp] at e
    cases e
   have toH:∀ {c:Addr},c≠p->HA c=none->H c=none:=fun {c} ne h=>by
    cases e:H c with
    | none=>rfl
    | some o=>rw [B0A _ _ e ne] at h; cases h
   have GtoA:∀ {c:Addr},G c=none->HA c=none:=fun {c} h=>SG.free h
   have BtoG:∀ {c:Addr},c≠p->HB c=none->G c=none:=fun {c} ne h=>by
    cases e:G c with
    | none=>rfl
    | some o=>rw [BB _ _ e ne] at h; cases h
   have CtoB:∀ {c:Addr},HC c=none->HB c=none:=fun {c} h=>SC.free h
   refine k ⟨dp,ll,bl,mp,mx,ml,el,pl,n,bk,dx,lk,dd,sl,kd,ps⟩ f' O' H' ⟨⟨me',F' _ _ blF nbp (nO blF rfl),F' _ _ elF nel (nO elF rfl),⟨F' _ _ moF nmpp nOm,F' _ _ mlF nmlp (nO mlF rfl)⟩,?_,pl',⟨B'.look,fun i hi=>(B'.b i hi).up (by omega),B'.dj,B'.nb⟩,ag',at',fun j hj w=>?_,fun j hj w=>?_,n1,n6⟩,rfl,rfl,rfl,rfl,fun j c hj w=>?_,fun j hj=>?_,?_,fun c hc=>?_,F' _ _ (BGF _ _ (SG _ _ hllA) nlp) nlp (nO (BGF _ _ (SG _ _ hllA) nlp) rfl),yd (SC _ _ (BB _ _ (SG _ _ hllA) nlp)) hel0',hll0⟩ ?_
   ·exact ysp n n1 n6
   ·rcases hO' j p hj w with v | v
    ·exact npO j hj v
    ·rw [hpF] at v; cases v
   ·rcases hO' j mp hj w with v | v
    ·exact nOm j hj v
    ·rw [moF] at v; cases v
   ·have ncp:c≠p:=fun z=>by
     rw [z] at w
     rcases hO' j p hj w with v | v
     ·exact npO j hj v
     ·rw [hpF] at v; cases v
    rcases hO' j c hj w with v | v
    ·exact toH ncp (gN.2.2.1 j c hj v)
    ·exact toH ncp (GtoA (freeG ncp v))
   ·have nbk:bk j≠p:=fun z=>by
     have e:=gN.2.2.2 j hj
     rw [z,hpA] at e
     cases e
    exact toH nbk (gN.2.2.2 j hj)
   ·exact toH nmpp (GtoA (BtoG nmpp nmp))
   ·rcases hc with z | z | z | z
    ·rw [z]
     exact toH nbp hbl0
    ·rw [z]
     exact toH nel (GtoA (BtoG nel (CtoB hel0')))
    ·rw [z]
     exact toH nmlp (GtoA (BtoG nmlp hml0'))
    ·rw [z]
     have nplp:pl≠p:=(yd hpF hpl').symm
     exact toH nplp (GtoA (freeG nplp hpl'))
   ·intro c o e ne
    refine F' c o (BGF _ _ (SG _ _ (B0A c o e ne)) ne) ne fun j hj w=>?_
    have e2:=gN.2.2.1 j c hj w
    rw [B0A c o e ne] at e2
    cases e2
structure Lw (K:W.Frag) (a:Ads) (H:Hp) (p:Addr) (A:FA) (X:FX) (f:Nat->List Int->Option Slt) (O:Nat->Addr->Prop) (m:Nat) (bk dx dd:Nat->Addr) (f2:Nat->List Int->Option Slt) (O2:Nat->Addr->Prop) (mp mx ml:Addr) (ws:List Int):Prop where
 ft:jg K a H p A X f O m
 bs:Bks K a H A.n bk dx A.lk dd A.kd A.ps f2 O2 m
 mx:ygd a mp mx ml ws H
 dj:∀ i j c,i < A.n->j < A.n->O i c->¬ O2 j c
 n1:∀ i j,i < A.n->j < A.n->¬ O i (bk j)
 n2:∀ i j,i < A.n->j < A.n->¬ O2 i (A.bk j)
 n3:∀ i,i < A.n->¬ O2 i p/\¬ O2 i A.mp/\¬ O2 i mp/\¬ O i mp
 n4:mp≠A.mp
 n5:ml≠A.el
section
variable {K:W.Frag} {a:Ads} {H H':Hp} {p:Addr} {A:FA} {X:FX} {f:Nat->List Int->Option Slt} {O:Nat->Addr->Prop} {m:Nat} {bk dx dd:Nat->Addr} {f2:Nat->List Int->Option Slt} {O2:Nat->Addr->Prop} {mp mx ml:Addr} {ws:List Int}
end
theorem ypw:ym ["self"] ["self"] (yg yno):=⟨rfl,rfl,rfl,by decide +kernel,rfl,by decide +kernel,by decide +kernel⟩
def ydu (K:W.Frag) (a:Ads):Sp:=fun vs H Q _=>∃ (p:Addr) (A:FA) (X:FX) (f:Nat->List Int->Option Slt) (O:Nat->Addr->Prop) (m:Nat),vs=[.ref p]/\jg K a H p A X f O m/\∀ r H',H r=none->H' r=some (.lst ((X.cs A).map V.int))->y6 H H'->Q (.ref r) H'
theorem yew (T:Txt K mg a):we P w K mg base CX0 2 a.f_q37 a.d_q37 ["self"] (ydu K a):=by
 refine T.y_q37.F.ok ypw (fun vs H Q E h=>?_) (fun cdv A outer s H vs Q E hr h=>?_)
 ·obtain ⟨p,A,X,f,O,m,rfl,_⟩:=h
  rfl
 ·obtain ⟨p,A',X,f,O,m,rfl,h,k⟩:=h
  have hp:=h.me
  have n6:=h.n6
  refine ⟨_,(yf (yy (ua rfl (wx (yt (pv 0) rfl)) (fun C s2 H2 fp=>(yay (yx (pv 0) T.cl_Even T.y_q8.m (ytb T) (hr.mono (by decide)) T.y_q8.B .nil yu) (yay (yx (pv 0) T.cl_Quick T.y_q12.m (yrf T) (hr.mono (by decide)) T.y_q12.B .nil yu) (yx (pv 0) T.cl_Run T.y_q16.m (yrh T) (hr.mono (by decide)) T.y_q16.B .nil yu))))))),?_⟩
  try dsimp only [v7]
  refine yo (σ':=[some _]) rfl ?_
  walk_at "rd"
  refine ⟨A'.pl,rfl,⟨_,SqL.of h.pl⟩,fun D hD=>?_⟩
  refine x6 (K:=K) (xs:=xg A'.sl A'.n) (Mp H D (fun i=>V.int (X.g i (X.key A' i)).due)) (Mp.zero hD) (fun _ _ _ q=>q.1.seq (SqL.of h.pl)) (fun i y H2 hy hi q=>?_) (fun H2 q=>?_)
  ·obtain ⟨S2,hD2⟩:=q
   obtain ⟨rfl,hin⟩:=zf hy
   obtain ⟨_,⟨dq,hs⟩,ok,_⟩:=h.slot hin
   refine ygi (fun Q' h=>yn2 rfl h) (S2 _ _ hs) ok ?_
   exact Mp.doneR hD (vf (by rw [vv]; omega)) hi S2 hD2 rfl
  ·obtain ⟨S2,hD2⟩:=q
   rw [vv] at hD2
   refine k D _ hD ?_ S2
   rw [hD2]
   unfold FX.cs
   rw [List.map_map]
   rfl
theorem yqi:ym ["self"] ["self"] (yg ynp):=⟨rfl,rfl,rfl,by decide +kernel,rfl,by decide +kernel,by decide +kernel⟩
def yfj (K:W.Frag) (a:Ads):Sp:=fun vs H Q _=>∃ (p:Addr) (A:FA) (X:FX) (f:Nat->List Int->Option Slt) (O:Nat->Addr->Prop) (m:Nat),vs=[.ref p]/\jg K a H p A X f O m/\∀ H',y6 H H'->Q (.int (ysm X.ws (X.cs A))) H'
theorem ykw (T:Txt K mg a):we P w K mg base CX0 3 a.f_q38 a.d_q38 ["self"] (yfj K a):=by
 refine T.y_q38.F.ok yqi (fun vs H Q E h=>?_) (fun cdv A outer s H vs Q E hr h=>?_)
 ·obtain ⟨p,A,X,f,O,m,rfl,_⟩:=h
  rfl
 ·obtain ⟨p,A',X,f,O,m,rfl,h,k⟩:=h
  have hp:=h.me
  have hmo:=h.mx.o
  refine ⟨_,(yf (yy (uv (yt (pv 0) rfl) T.cl_Mx T.y_q32.m (yqx T) (hr.mono (by decide)) T.y_q32.B .nil yu (yc (yx (pv 0) T.cl_Ft T.y_q37.m (yew T) (hr.mono (by decide)) T.y_q37.B .nil yu) ye (yb rfl))))),?_⟩
  try dsimp only [v7]
  refine yo (σ':=[some _]) rfl ?_
  walk_at "rd"
  refine ⟨p,A',X,f,O,m,rfl,h,fun r H1 hr0 hr1 S1=>?_⟩
  walk_at "rd"
  exact ⟨A'.mp,A'.mx,A'.ml,r,X.ws,X.cs A',A'.n,rfl,h.n1,h.n6,h.wok,h.cok,h.mx.same S1,SqL.of hr1,fun H2 S2=>k _ (S1.trans S2)⟩
theorem yo4:ym ["self"] ["self"] (yg ynq):=⟨rfl,rfl,rfl,by decide +kernel,rfl,by decide +kernel,by decide +kernel⟩
def ydq (K:W.Frag) (a:Ads):Sp:=fun vs H Q _=>∃ (p:Addr) (A:FA) (X:FX) (f:Nat->List Int->Option Slt) (O:Nat->Addr->Prop) (m:Nat),vs=[.ref p]/\jg K a H p A X f O m/\∀ r H',H r=none->H' r=some (.lst (X.ws.map V.int))->y6 H H'->Q (.ref r) H'
theorem ykp (T:Txt K mg a):we P w K mg base CX0 2 a.f_q39 a.d_q39 ["self"] (ydq K a):=by
 refine T.y_q39.F.ok yo4 (fun vs H Q E h=>?_) (fun cdv A outer s H vs Q E hr h=>?_)
 ·obtain ⟨p,A,X,f,O,m,rfl,_⟩:=h
  rfl
 ·obtain ⟨p,A',X,f,O,m,rfl,h,k⟩:=h
  have hp:=h.me
  have hmo:=h.mx.o
  refine ⟨_,(yf (yy (yx (yt (pv 0) rfl) T.cl_Mx T.y_q31.m (yph T) (hr.mono (by decide)) T.y_q31.B .nil yu))),?_⟩
  try dsimp only [v7]
  refine yo (σ':=[some _]) rfl ?_
  walk_at "rd"
  exact ⟨A'.mp,A'.mx,A'.ml,X.ws,rfl,h.mx,k⟩
theorem yrn:ym ["self"] ["self"] (yg ynf):=⟨rfl,rfl,rfl,by decide +kernel,rfl,by decide +kernel,by decide +kernel⟩
def yi5 (K:W.Frag) (a:Ads):Sp:=fun vs H Q _=>∃ (p:Addr) (A:FA) (X:FX) (f:Nat->List Int->Option Slt) (O:Nat->Addr->Prop) (m:Nat),vs=[.ref p]/\jg K a H p A X f O m/\Q (.int X.nd) H
theorem yk4 (T:Txt K mg a):we P w K mg base CX0 1 a.f_q40 a.d_q40 ["self"] (yi5 K a):=by
 refine T.y_q40.F.ok yrn (fun vs H Q E h=>?_) (fun cdv A outer s H vs Q E hr h=>?_)
 ·obtain ⟨p,A,X,f,O,m,rfl,_⟩:=h
  rfl
 ·obtain ⟨p,A',X,f,O,m,rfl,h,k⟩:=h
  have hp:=h.me
  refine ⟨_,(yf (yy (yt (pv 0) rfl))),?_⟩
  try dsimp only [v7]
  refine yo (σ':=[some _]) rfl ?_
  walk_at "rd"
  exact k
theorem yqn:ym ["self"] ["self"] (yg yn1):=⟨rfl,rfl,rfl,by decide +kernel,rfl,by decide +kernel,by decide +kernel⟩
def yhj (K:W.Frag) (a:Ads):Sp:=fun vs H Q _=>∃ (p:Addr) (A:FA) (X:FX) (f:Nat->List Int->Option Slt) (O:Nat->Addr->Prop) (m:Nat),vs=[.ref p]/\jg K a H p A X f O m/\∀ r H',H r=none->H' r=some (.lst (X.sg.map V.int))->y6 H H'->Q (.ref r) H'
theorem ykt (T:Txt K mg a):we P w K mg base CX0 1 a.f_q41 a.d_q41 ["self"] (yhj K a):=by
 refine T.y_q41.F.ok yqn (fun vs H Q E h=>?_) (fun cdv A outer s H vs Q E hr h=>?_)
 ·obtain ⟨p,A,X,f,O,m,rfl,_⟩:=h
  rfl
 ·obtain ⟨p,A',X,f,O,m,rfl,h,k⟩:=h
  have hp:=h.me
  refine ⟨_,(yf (yy (v9 vi rfl T.z_list (by decide +kernel) (yc (yt (pv 0) rfl) ye (yb rfl))))),?_⟩
  try dsimp only [v7]
  refine yo (σ':=[some _]) rfl ?_
  walk_at "rd"
  refine xi (SqL.of h.el) fun r hr0=>?_
  exact k r _ hr0 ya (y1 hr0)
theorem yp2:ym ["self","bit"] ["self","bit"] (yg ynk):=⟨rfl,rfl,rfl,by decide +kernel,rfl,by decide +kernel,by decide +kernel⟩
def ylk (a:Ads):Sp:=fun vs H Q _=>∃ (p dp ll bl mp el pl:Addr) (nd b:Int) (sg:List Int),vs=[.ref p,.int b]/\H p=some (.ins a.C_Ft dp (vk (.ref ll) (.ref bl) (.ref mp) (.ref el) (.int nd) (.ref pl)))/\H el=some (.lst (sg.map V.int))/\sg.length <= 100000/\0 < nd /\
 ∀ H',H' p=some (.ins a.C_Ft dp (vk (.ref ll) (.ref bl) (.ref mp) (.ref el) (.int (ndN nd b)) (.ref pl)))->H' el=some (.lst ((sgN sg nd b).map V.int))->(∀ c o,H c=some o->c≠p->c≠el->H' c=some o)->Q .non H'
theorem yqk (T:Txt K mg a):we P w K mg base CX0 1 a.f_q44 a.d_q44 ["self","bit"] (ylk a):=by
 refine T.y_q44.F.ok yp2 (fun vs H Q E h=>?_) (fun cdv A outer s H vs Q E hr h=>?_)
 ·obtain ⟨p,dp,ll,bl,mp,el,pl,nd,b,sg,rfl,_⟩:=h
  rfl
 ·obtain ⟨p,dp,ll,bl,mp,el,pl,nd,b,sg,rfl,hp,he,hz,h0,k⟩:=h
  refine ⟨_,(yn (y4 (pv 0) (yr vo (yr xt yh (yt (pv 0) rfl)) (pv 1)) rfl) (yf (wt (yz ys8 (yt (pv 0) rfl) (vc rfl T.c_NODES_END) (y8 _)) (yn (y3 (yjv PySem.F.plainAttrs_list PySem.F.slot_list_append PySem.F.type_list_append ww (yt (pv 0) rfl) (yc (yr uc (yt (pv 0) rfl) (vc rfl T.c_NODES_END)) ye (yb rfl)))) (yf (y4 (pv 0) yh rfl))) vw))),?_⟩
  try dsimp only [v7]
  refine yo (σ':=[some _,some _]) rfl ?_
  unfold ndN sgN at k
  rw [if_pos h0,if_pos h0] at k
  have nep:el≠p:=xu he hp (by intro z; cases z)
  walk_at "rd"
  have hp1:upd H p (.ins a.C_Ft dp (vk (.ref ll) (.ref bl) (.ref mp) (.ref el) (.int (2 * nd+b)) (.ref pl))) p=some (.ins a.C_Ft dp (vk (.ref ll) (.ref bl) (.ref mp) (.ref el) (.int (2 * nd+b)) (.ref pl))):=ya
  have he1:=yj (o':=HO.ins a.C_Ft dp (vk (.ref ll) (.ref bl) (.ref mp) (.ref el) (.int (2 * nd+b)) (.ref pl))) nep he
  have B1:But p H (upd H p (.ins a.C_Ft dp (vk (.ref ll) (.ref bl) (.ref mp) (.ref el) (.int (2 * nd+b)) (.ref pl)))):=But.upd
  generalize upd H p (.ins a.C_Ft dp (vk (.ref ll) (.ref bl) (.ref mp) (.ref el) (.int (2 * nd+b)) (.ref pl)))=H1 at hp1 he1 B1 ⊢
  walk_at "rd"
  refine z5 (fun hb=>?_) (fun hb=>?_)
  ·rw [if_pos hb,if_pos hb] at k
   walk_at "rd"
   refine yjp he1 ?_
   walk_at "rd"
   refine z6 he1 (vf (by rw [List.length_map]; omega)) ?_
   have hp2:=yj (o':=HO.lst (List.map V.int sg++[V.int (2 * nd+b - 256)])) (Ne.symm nep) hp1
   walk_at "rd"
   refine k _ ya ?_ fun c o e n1 n2=>yj n1 (yj n2 (B1 _ _ e n1))
   rw [yi nep,ya,List.map_append]
   rfl
  ·rw [if_neg hb,if_neg hb] at k
   walk_at "rd"
   exact k _ hp1 he1 fun c o e n1 n2=>B1 _ _ e n1
theorem yq4:ym ["self","bit"] ["self","bit"] (yg yni):=⟨rfl,rfl,rfl,by decide +kernel,rfl,by decide +kernel,by decide +kernel⟩
def yje (a:Ads):Sp:=fun vs H Q _=>∃ (p dp ll bl mp el pl:Addr) (nd b:Int) (sg:List Int),vs=[.ref p,.int b]/\H p=some (.ins a.C_Ft dp (vk (.ref ll) (.ref bl) (.ref mp) (.ref el) (.int nd) (.ref pl)))/\H el=some (.lst (sg.map V.int))/\sg.length <= 100000/\0 <= nd /\
 ∀ (el':Addr) H',(el'=el\/H el'=none)->H' p=some (.ins a.C_Ft dp (vk (.ref ll) (.ref bl) (.ref mp) (.ref el') (.int (ndN nd b)) (.ref pl)))->H' el'=some (.lst ((sgN sg nd b).map V.int))->(∀ c o,H c=some o->c≠p->c≠el->H' c=some o)->(∃ o,H' el=some o)->Q .non H'
theorem yp0 (T:Txt K mg a):we P w K mg base CX0 2 a.f_q43 a.d_q43 ["self","bit"] (yje a):=by
 refine T.y_q43.F.ok yq4 (fun vs H Q E h=>?_) (fun cdv A outer s H vs Q E hr h=>?_)
 ·obtain ⟨p,dp,ll,bl,mp,el,pl,nd,b,sg,rfl,_⟩:=h
  rfl
 ·obtain ⟨p,dp,ll,bl,mp,el,pl,nd,b,sg,rfl,hp,he,hz,h0,k⟩:=h
  refine ⟨_,(yf (wt (yz ynn (yt (pv 0) rfl) yh (y8 _)) (yf (y3 (uv (pv 0) T.cl_Ft T.y_q44.m (yqk T) (hr.mono (by decide)) T.y_q44.B .nil yu (yc (pv 1) ye (yb rfl))))) (yf (wt (yz ud (pv 1) yh (y8 _)) (yf (y4 (pv 0) yh rfl)) (yf (y4 (pv 0) (zx ye) rfl)))))),?_⟩
  try dsimp only [v7]
  refine yo (σ':=[some _,some _]) rfl ?_
  have nep:el≠p:=xu he hp (by intro z; cases z)
  walk_at "rd"
  refine z5 (fun hn=>?_) (fun hn=>?_)
  ·walk_at "rd"
   exact ⟨p,dp,ll,bl,mp,el,pl,nd,b,sg,rfl,hp,he,hz,hn,fun H' h1 h2 h3=>k el H' (.inl rfl) h1 h2 h3 ⟨_,h2⟩⟩
  ·unfold ndN sgN at k
   rw [if_neg hn,if_neg hn] at k
   walk_at "rd"
   refine z5 (fun hb=>?_) (fun hb=>?_)
   ·rw [if_pos hb,if_pos hb] at k
    walk_at "rd"
    exact k el _ (.inl rfl) ya (yj nep he) (fun c o e n1 _=>yj n1 e) ⟨_,yj nep he⟩
   ·rw [if_neg hb,if_neg hb] at k
    walk_at "rd"
    refine ⟨by walk_at "len",fun r hr0=>?_⟩
    with_reducible first | refine vg hr0 fun H1 S1 e1=>?_ | refine vy hr0 fun H1 S1 e1=>?_
    have hp1:=S1 _ _ hp
    walk_at "rd"
    have nrp:r≠p:=fun z=>by rw [z,hp] at hr0; cases hr0
    exact k r _ (.inr hr0) ya (yj nrp e1) (fun c o e n1 _=>yj n1 (S1 _ _ e)) ⟨_,yj nep (S1 _ _ he)⟩
abbrev FA.re (A:FA) (ml el pl:Addr) (sl:Nat->Addr):FA:={ A with ml:=ml,el:=el,pl:=pl,sl:=sl }
def FX.run (A:FA) (X:FX):List Int->FX
 | []=>X
 | b :: r=>FX.run A (X.see A b) r
theorem ybz (A:FA):∀ (bs cs:List Int) (X:FX),X.run A (bs++cs)=(X.run A bs).run A cs
 | [],_,_=>rfl
 | b :: r,cs,X=>ybz A r cs (X.see A b)
theorem ybv (A:FA) (bs:List Int) (b:Int) (X:FX):X.run A (bs++[b])=(X.run A bs).see A b:=ybz A bs [b] X
def fa0 (n:Nat) (ps:Nat->List Int):FA:={ dp:=0,ll:=0,bl:=0,mp:=0,mx:=0,ml:=0,el:=0,pl:=0,n:=n,bk:=fun _=>0,dx:=fun _=>0,lk:=fun _=>0,dd:=fun _=>0,sl:=fun _=>0,kd:=fun _=>0,ps:=ps }
def yoy (H:Hp) (A:FA):Prop:=H A.ll=some (.lst (xg A.lk A.n))/\A.ll≠A.el/\∃ tp,z0 H A.n A.lk A.kd tp A.ps
theorem yoy.same {H H':Hp} {A:FA} (h:yoy H A) (S:y6 H H'):yoy H' A:=⟨S _ _ h.1,h.2.1,let ⟨tp,r⟩:=h.2.2; ⟨tp,r.same S⟩⟩
def Own (p:Addr) (A:FA) (O:Nat->Addr->Prop):Addr->Prop:=fun c=>c=p\/c=A.mp\/(∃ j,j < A.n/\c=A.bk j)\/(∃ j,j < A.n/\O j c)\/c=A.el\/c=A.ml
def FW (K:W.Frag) (a:Ads) (H:Hp) (p:Addr) (n:Nat) (kd:Nat->Fin 3) (ps:Nat->List Int) (X:FX) (M:Nat) (W:Addr->Prop):Prop :=
 ∃ A f O m,jg K a H p A X f O m/\m <= M/\yoy H A/\A.n=n/\A.kd=kd/\A.ps=ps/\0 <= X.nd/\X.sg.length <= M/\∀ c,W c ↔ Own p A O c
structure Go (W:Addr->Prop) (H H':Hp) (W':Addr->Prop):Prop where
 fr:∀ c o,H c=some o->¬ W c->H' c=some o
 nw:∀ c,W' c->W c\/H c=none
 lv:∀ c o,H c=some o->∃ o',H' c=some o'
theorem Go.free {W W':Addr->Prop} {H H':Hp} (h:Go W H H' W') {c:Addr} (e:H' c=none):H c=none:=by
 cases z:H c with
 | none=>rfl
 | some o =>
  obtain ⟨o',w⟩:=h.lv c o z
  rw [e] at w
  cases w
theorem Go.refl {W:Addr->Prop} {H:Hp}:Go W H H W:=⟨fun _ _ e _=>e,fun _ w=>.inl w,fun _ o e=>⟨o,e⟩⟩
theorem Go.trans {W W1 W2:Addr->Prop} {H H1 H2:Hp} (h:Go W H H1 W1) (k:Go W1 H1 H2 W2):Go W H H2 W2:=by
 refine ⟨fun c o e no=>k.fr c o (h.fr c o e no) fun w=>?_,fun c w=>?_,fun c o e=>?_⟩
 ·rcases h.nw c w with v | v
  ·exact no v
  ·rw [e] at v
   cases v
 ·rcases k.nw c w with v | v
  ·exact h.nw c v
  ·exact .inr (h.free v)
 ·obtain ⟨o1,w1⟩:=h.lv c o e
  exact k.lv c o1 w1
theorem Go.same {W W':Addr->Prop} {H H1 H2:Hp} (h:Go W H H1 W') (S:y6 H1 H2):Go W H H2 W':=⟨fun c o e no=>S _ _ (h.fr c o e no),h.nw,fun c o e=>let ⟨o',w⟩:=h.lv c o e; ⟨o',S _ _ w⟩⟩
theorem Go.apart {W W' U:Addr->Prop} {H H':Hp} (h:Go W H H' W') (hU:∀ c,U c->∃ o,H c=some o) (dj:∀ c,U c->¬ W c):∀ c,U c->¬ W' c:=fun c u w=>by
 rcases h.nw c w with v | v
 ·exact dj c u v
 ·obtain ⟨o,e⟩:=hU c u
  rw [v] at e
  cases e
section
variable {K:W.Frag} {a:Ads} {H H':Hp} {p:Addr} {n:Nat} {kd:Nat->Fin 3} {ps:Nat->List Int} {X:FX} {M:Nat} {W:Addr->Prop}
theorem jg.live {A:FA} {f:Nat->List Int->Option Slt} {O:Nat->Addr->Prop} {m:Nat} (h:jg K a H p A X f O m):∀ c,Own p A O c->∃ o,H c=some o/\((yot o=true)\/∃ ns:List Int,o=.lst (ns.map V.int)):=fun c w=>by
 rcases w with z | z | ⟨j,hj,z⟩ | ⟨j,hj,z⟩ | z | z
 ·exact ⟨_,by rw [z]; exact h.me,.inl rfl⟩
 ·exact ⟨_,by rw [z]; exact h.mx.o,.inl rfl⟩
 ·exact ⟨_,by rw [z]; exact (h.B.b j hj).me,.inl rfl⟩
 ·obtain ⟨o,ho,hi⟩:=(h.B.b j hj).own c z
  exact ⟨o,ho,.inl hi⟩
 ·exact ⟨_,by rw [z]; exact h.el,.inr ⟨_,rfl⟩⟩
 ·exact ⟨_,by rw [z]; exact h.mx.l,.inr ⟨_,rfl⟩⟩
theorem FW.live (h:FW K a H p n kd ps X M W):∀ c,W c->∃ o,H c=some o:=fun c w=>by
 obtain ⟨A,f,O,m,hF,_,_,_,_,_,_,_,e⟩:=h
 obtain ⟨o,ho,_⟩:=hF.live c ((e c).mp w)
 exact ⟨o,ho⟩
theorem FW.same (h:FW K a H p n kd ps X M W) (S:y6 H H'):FW K a H' p n kd ps X M W:=by
 obtain ⟨A,f,O,m,hF,hm,hl,r⟩:=h
 exact ⟨A,f,O,m,hF.same S,hm,hl.same S,r⟩
theorem FW.out (h:FW K a H p n kd ps X M W) {c:Addr} {o:HO} (e:H c=some o) (hi:yot o=false) (hl:∀ ns:List Int,o≠.lst (ns.map V.int)):¬ W c:=fun w=>by
 obtain ⟨A,f,O,m,hF,_,_,_,_,_,_,_,e'⟩:=h
 obtain ⟨o',ho,z | ⟨ns,z⟩⟩:=hF.live c ((e' c).mp w)
 ·rw [e] at ho
  cases ho
  rw [hi] at z
  cases z
 ·rw [e] at ho
  cases ho
  exact hl ns z
theorem yl5 {g:Nat->Addr} {n:Nat} (h:1 <= n):(xg g n)[0]?=some (.ref (g 0)):=by
 unfold xg
 rw [List.getElem?_map,List.getElem?_range h]
 rfl
theorem yl0 {g:Nat->Addr} {k:Nat} (h:1 <= k) (ns:List Int):HO.lst (xg g k)≠.lst (ns.map V.int):=fun z=>by
 have e:=HO.lst.inj z
 have e0:=yl5 (g:=g) h
 rw [e,List.getElem?_map] at e0
 cases q:ns[0]? with
 | none=>rw [q] at e0; cases e0
 | some x=>rw [q] at e0; cases e0
theorem FW.frame {q:Addr} {n':Nat} {kd':Nat->Fin 3} {ps':Nat->List Int} {X':FX} {M':Nat} {W' U:Addr->Prop} (hQ:FW K a H q n' kd' ps' X' M' W') (hP:FW K a H p n kd ps X M W) (dj:∀ c,W' c->¬ W c) (h:Go W H H' U):FW K a H' q n' kd' ps' X' M' W':=by
 obtain ⟨A,f,O,m,hF,hm,hl,e1,e2,e3,e4,e5,e6⟩:=hQ
 have oL:∀ {l:Addr} {g:Nat->Addr},H l=some (.lst (xg g A.n))->¬ W l:=fun {l g} e=>hP.out e rfl (yl0 hF.n1)
 have oT:∀ {t:Addr} {xs:List V},H t=some (.tup xs)->¬ W t:=fun {t xs} e=>hP.out e rfl (fun ns z=>nomatch z)
 refine ⟨A,f,O,m,hF.frame (O2:=W) (fun c o e no=>h.fr c o e no) (dj _ ((e6 _).mpr (.inl rfl))) (dj _ ((e6 _).mpr (.inr (.inl rfl)))) (fun i hi=>dj _ ((e6 _).mpr (.inr (.inr (.inl ⟨i,hi,rfl⟩))))) (fun i c hi w=>dj _ ((e6 _).mpr (.inr (.inr (.inr (.inl ⟨i,hi,w⟩)))))) (fun l xs hl' e=>h.fr _ _ e ?_) (fun t xs e=>?_),hm,⟨h.fr _ _ hl.1 (oL hl.1),hl.2.1,?_⟩,e1,e2,e3,e4,e5,e6⟩
 ·rcases hl' with z | z | z | z
  ·rw [z]; exact oL hF.bl
  ·rw [z]; exact dj _ ((e6 _).mpr (.inr (.inr (.inr (.inr (.inl rfl))))))
  ·rw [z]; exact dj _ ((e6 _).mpr (.inr (.inr (.inr (.inr (.inr rfl))))))
  ·rw [z]; exact oL hF.pl
 ·rcases e with (e | ⟨o,e⟩) | e
  ·exact .inl (.inl (h.fr _ _ e (oT e)))
  ·exact .inl (.inr ⟨o,h.fr _ _ e (hP.out e rfl (fun ns z=>nomatch z))⟩)
  ·exact .inr e
 ·obtain ⟨tp,r⟩:=hl.2.2
  refine ⟨tp,fun i hi=>?_⟩
  obtain ⟨lk,z,h1,h2,h3⟩:=r i hi
  exact ⟨lk,z,h.fr _ _ h1 (oT h1),h.fr _ _ h2 (oT h2),h3⟩
end
theorem ypg {nd b:Int} (h:0 <= nd) (b0:0 <= b):0 <= ndN nd b:=by
 unfold ndN
 split
 ·split <;> omega
 ·split <;> omega
theorem ylw (sg:List Int) (nd b:Int):(sgN sg nd b).length <= sg.length+1:=by
 unfold sgN
 split
 ·split
  ·rw [List.length_append]; exact Nat.le_refl _
  ·omega
 ·split
  ·omega
  ·exact Nat.zero_le _
theorem yke:ym ["self","bit","slot"] ["self","bit"] (yg yny):=⟨rfl,rfl,rfl,by decide +kernel,rfl,by decide +kernel,by decide +kernel⟩
def yhx (K:W.Frag) (a:Ads):Sp:=fun vs H Q _=>∃ (p:Addr) (A:FA) (X:FX) (f:Nat->List Int->Option Slt) (O:Nat->Addr->Prop) (m:Nat) (b:Int),vs=[.ref p,.int b]/\jg K a H p A X f O m/\0 <= b/\b <= 1/\m+20 < 1000000/\0 <= X.nd/\X.sg.length <= 100000 /\
 ∀ (ml el pl:Addr) (sl:Nat->Addr) (f':Nat->List Int->Option Slt) (O':Nat->Addr->Prop) (H':Hp),(el=A.el\/H el=none)->jg K a H' p { A with ml:=ml,el:=el,pl:=pl,sl:=sl } (X.see A b) f' O' (m+A.n)->(∀ j c,j < A.n->O' j c->O j c\/H c=none) ->
  (∀ c o,H c=some o->c≠p->c≠A.mp->c≠A.el->(∀ j,j < A.n->¬ O j c)->H' c=some o)->(∀ c o,H c=some o->∃ o',H' c=some o')->H ml=none->Q .non H'
theorem yh4 (T:Txt K mg a):we P w K mg base CX0 6 a.f_q42 a.d_q42 ["self","bit"] (yhx K a):=by
 refine T.y_q42.F.ok yke (fun vs H Q E h=>?_) (fun cdv A outer s H vs Q E hr h=>?_)
 ·obtain ⟨p,A,X,f,O,m,b,rfl,_⟩:=h
  rfl
 ·obtain ⟨p,A',X,f,O,m,b,rfl,h,b0,b1,hm,hnd,hsg,k⟩:=h
  have hp:=h.me
  have hmo:=h.mx.o
  have n6:=h.n6
  have hbit:=yo5 b0 b1
  refine yk (y3 (wz (ygb T) (hr.mono (by decide)) rfl T.y_q5.m T.y_q5.F.kp T.y_q5.B .nil wv (yc (pv 1) ye (yb rfl)))) ?_
  refine yk (y3 (z7 (yt (pv 0) rfl) T.cl_Mx T.y_q33.m (ypz T) (hr.mono (by decide)) T.y_q33.B .nil wv (yc (yx (pv 0) T.cl_Ft T.y_q37.m (yew T) (hr.mono (by decide)) T.y_q37.B .nil yu) (yc (pv 1) ye (yb rfl)) (yb rfl)))) ?_
  refine yk (yaz PassesOwn.never rfl (wx (yt (pv 0) rfl)) (wu (i:=2) yke.nd rfl (Or.inl rfl)) (yf (y3 (yay (z7 (pv 2) T.cl_Even T.y_q9.m (ys0 T) (hr.mono (by decide)) T.y_q9.B .nil wv (yc (pv 1) ye (yb rfl))) (yay (z7 (pv 2) T.cl_Quick T.y_q13.m (yrr T) (hr.mono (by decide)) T.y_q13.B .nil wv (yc (pv 1) ye (yb rfl))) (z7 (pv 2) T.cl_Run T.y_q17.m (yrl T) (hr.mono (by decide)) T.y_q17.B .nil wv (yc (pv 1) ye (yb rfl)))))))) ?_
  refine yk (y3 (uv (pv 0) T.cl_Ft T.y_q43.m (yp0 T) (hr.mono (by decide)) T.y_q43.B .nil yu (yc (pv 1) ye (yb rfl)))) ?_
  refine ⟨_,(yf (y3 (yx (pv 0) T.cl_Ft T.y_q36.m (yh2 T) (hr.mono (by decide)) T.y_q36.B .nil yu))),?_⟩
  try dsimp only [v7]
  refine yo (σ':=[some _,some _,none]) rfl ?_
  walk_at "rd"
  refine ⟨.int b,_,rfl,.int b,fun _=>?_,fun z=>(by rw [hbit] at z; cases z)⟩
  walk_at "rd"
  refine ⟨p,A',X,f,O,m,rfl,h,fun r H1 hr0 hr1 S1=>?_⟩
  have hmo1:=S1 _ _ hmo
  walk_at "rd"
  refine ⟨A'.mp,A'.mx,A'.ml,r,X.ws,X.cs A',A'.n,.int b,_,rfl,h.n1,n6,h.wok,h.cok,h.mx.same S1,SqL.of hr1,.int b,fun b' e _ _ ml H2 hml0 M2 B2=>?_,fun z=>(by rw [hbit] at z; cases z)⟩
  cases e
  have h1:=h.same S1
  have npm:p≠A'.mp:=fun z=>by
   have:=h.me
   rw [z,hmo] at this
   injection this with this
   injection this with _ _ e
   exact absurd (congrArg List.length e) (show ¬ (1=6) by decide)
  have hp2:=B2 _ _ h1.me npm
  have nl2:∀ {l:Addr} {xs:List V},H1 l=some (.lst xs)->l≠A'.mp:=fun {l xs} e z=>by rw [z,hmo1] at e; cases e
  have hbl2:=B2 _ _ h1.bl (nl2 h1.bl)
  have hel2:=B2 _ _ h1.el (nl2 h1.el)
  have hpl2:=B2 _ _ h1.pl (nl2 h1.pl)
  have Bk2:=h1.B.frame (O2:=fun c=>c=A'.mp) (fun c o e ne=>B2 c o e ne) (fun j c hj w z=>h.nm j hj (z ▸ w)) (fun j hj z=>by
   have:=(h1.B.b j hj).me
   rw [z,hmo1] at this
   injection this with this
   injection this with _ _ e
   exact absurd (congrArg List.length e) (show ¬ (1=2) by decide)) (fun t xs e=>by
   rcases e with (e | ⟨o,e⟩) | e
   ·exact .inl (.inl (B2 _ _ e (fun z=>by rw [z,hmo1] at e; cases e)))
   ·exact .inl (.inr ⟨o,B2 _ _ e (fun z=>by rw [z,hmo1] at e; cases e)⟩)
   ·exact .inr e)
  have at2:∀ j,j < A'.n->(∃ s,f j (X.key A' j)=some s)/\AtS H2 (A'.dd j) (X.key A' j) (A'.sl j):=fun j hj=>⟨(h1.at' j hj).1,(h1.at' j hj).2.told (h1.B.b j hj) (fun z=>h.nm j hj (by rw [<- z]; exact (h1.B.b j hj).dO)) B2⟩
  walk_at "rd"
  refine ⟨A'.pl,rfl,⟨_,SqL.of hpl2⟩,yei (K:=K) (a:=A'.pl) (xs:=xg A'.sl A'.n) (fun i σ2 G=>∃ (v:Option V) (f':Nat->List Int->Option Slt),σ2=[some (.ref p),some (.int b),v]/\Bks K a G A'.n A'.bk A'.dx A'.lk A'.dd A'.kd A'.ps f' O m /\
    (∀ j,j < A'.n->∀ k,(f' j k).getD (kd0 (A'.kd j))=if j < i/\k=X.key A' j then (X.g j k).see b else X.g j k)/\(∀ j,j < A'.n->(∃ s,f' j (X.key A' j)=some s)/\AtS G (A'.dd j) (X.key A' j) (A'.sl j))/\(∀ c o,H2 c=some o->(∀ j,j < A'.n->¬ O j c)->G c=some o))
   ⟨_,f,rfl,Bk2,fun j hj k'=>by rw [if_neg (fun z=>absurd z.1 (Nat.not_lt_zero j))]; exact h.ag j hj k',at2,fun c o e _=>e⟩ (fun i σ2 G _ ⟨_,_,_,_,_,_,w⟩=>SqL.of (w _ _ hpl2 (Bk2.nlst hpl2))) ?_ ?_⟩
  ·rintro i y σ2 G hy ⟨v,f',rfl,gB,gA,gS,gF⟩
   obtain ⟨rfl,hin⟩:=zf hy
   obtain ⟨⟨s',hs'⟩,hat⟩:=gS i hin
   have es:s'=X.g i (X.key A' i):=by
    have:=gA i hin (X.key A' i)
    rw [hs',if_neg (fun z=>absurd z.1 (Nat.lt_irrefl i))] at this
    exact this
   obtain ⟨dq,hq,ok,hkd,hOq⟩:=(gB.b i hin).slot hs' hat
   walk_at "rd"
   refine ymg (x:=.int b) (fun Q' h=>?_) (fun Q' h=>?_) hq ok (.int b) (fun b' e _ _ G3 h3 B3=>?_) (fun z=>by rw [hbit] at z; cases z) (fun z=>by rw [hbit] at z; cases z) (fun z=>by rw [hbit] at z; cases z)
   ·walk_at "rd"
    exact h
   ·walk_at "rd"
    exact h
   cases e
   have hb3:=(gB.b i hin).told hs' hat b0 b1 h3 B3
   have BO:yj3 (O i) G G3:=fun c o e no=>B3 _ _ e fun z=>no (by rw [z]; exact hOq)
   have M3:=gB.move hin (Nat.le_refl m) hb3 (fun c w=>.inl w) BO
   have eO:(fun j=>if j=i then O i else O j)=O:=by
    funext j
    by_cases z:j=i
    ·rw [if_pos z,z]
    ·rw [if_neg z]
   rw [eO] at M3
   have ndq:A'.dd i≠A'.sl i:=fun z=>by
    obtain ⟨kvs,loc,w1,_⟩:=(gB.b i hin).tb
    obtain ⟨C,fs,eo⟩:=zw a dq s'
    rw [z,hq,eo] at w1
    cases w1
   walk_at "rd"
   refine ⟨_,_,rfl,M3,fun j hj k'=>?_,fun j hj=>?_,fun c o e no=>?_⟩
   ·try dsimp only
    by_cases z:j=i
    ·subst z
     rw [if_pos rfl]
     unfold ji
     by_cases w:k'=X.key A' j
     ·rw [if_pos w,if_pos ⟨Nat.lt_succ_self j,w⟩,w,<- es]
      rfl
     ·rw [if_neg w,if_neg (fun z=>w z.2)]
      have:=gA j hj k'
      rw [if_neg (fun z=>w z.2)] at this
      exact this
    ·rw [if_neg z,gA j hj k']
     have:(j < i/\k'=X.key A' j) ↔ (j < i+1/\k'=X.key A' j):=by constructor <;> (rintro ⟨u,v⟩; exact ⟨by omega,v⟩)
     by_cases w:j < i/\k'=X.key A' j
     ·rw [if_pos w,if_pos (this.mp w)]
     ·rw [if_neg w,if_neg (fun z=>w (this.mpr z))]
   ·try dsimp only
    by_cases z:j=i
    ·subst z
     rw [if_pos rfl]
     refine ⟨⟨s'.see b,?_⟩,hat.told (gB.b j hin) ndq B3⟩
     unfold ji
     rw [if_pos rfl]
    ·rw [if_neg z]
     exact ⟨(gS j hj).1,(gS j hj).2.move gB hj hin z BO⟩
   ·exact BO _ _ (gF c o e no) (no i hin)
  ·rintro σ2 G ⟨v,f',rfl,gB,gA,gS,gF⟩
   rw [vv] at gA
   have gp:=gF _ _ hp2 h.np
   have gel:=gF _ _ hel2 (Bk2.nlst hel2)
   have gbl:=gF _ _ hbl2 (Bk2.nlst hbl2)
   have gmo:=gF _ _ M2.o h.nm
   have gml:=gF _ _ M2.l (Bk2.nlst M2.l)
   walk_at "rd"
   refine ⟨p,A'.dp,A'.ll,A'.bl,A'.mp,A'.el,A'.pl,X.nd,b,X.sg,rfl,gp,gel,hsg,hnd,fun el H4 hel' me4 el4 F4 L4=>?_⟩
   have nlp:∀ {l:Addr} {xs:List V},G l=some (.lst xs)->l≠p:=fun {l xs} e z=>by rw [z,gp] at e; cases e
   have npO:∀ j,j < A'.n->¬ O j p:=h.np
   have nelO:=gB.nlst gel
   have Bk4:=gB.frame (O2:=fun c=>c=p\/c=A'.el) (fun c o e ne=>F4 c o e (fun z=>ne (.inl z)) (fun z=>ne (.inr z))) (fun j c hj w z=>by
    rcases z with z | z
    ·exact npO j hj (z ▸ w)
    ·exact nelO j hj (z ▸ w)) (fun j hj z=>by
    have:=(gB.b j hj).me
    rcases z with z | z
    ·rw [z,gp] at this
     injection this with this
     injection this with _ _ e
     exact absurd (congrArg List.length e) (show ¬ (6=2) by decide)
    ·rw [z,gel] at this
     cases this) (fun t xs e=>by
    rcases e with (e | ⟨o,e⟩) | e
    ·exact .inl (.inl (F4 _ _ e (fun z=>by rw [z,gp] at e; cases e) (fun z=>by rw [z,gel] at e; cases e)))
    ·exact .inl (.inr ⟨o,F4 _ _ e (fun z=>by rw [z,gp] at e; cases e) (fun z=>by rw [z,gel] at e; cases e)⟩)
    ·exact .inr e)
   have nbe:A'.bl≠A'.el:=fun z=>by
    have e:=h.bl
    rw [z,h.el] at e
    injection e with e
    injection e with e
    have e0:=congrArg (fun l:List V=>l[0]?) e
    have r0:(xg A'.bk A'.n)[0]?=some (.ref (A'.bk 0)):=by
     unfold xg
     rw [List.getElem?_map,List.getElem?_range h.n1]
     rfl
    try dsimp only at e0
    rw [r0,List.getElem?_map] at e0
    cases hs:X.sg[0]? with
    | none=>rw [hs] at e0; cases e0
    | some c=>rw [hs] at e0; cases e0
   have nme:ml≠A'.el:=(yd h1.el hml0).symm
   have bl4:=F4 _ _ gbl (nlp gbl) nbe
   have mo4:=F4 _ _ gmo (Ne.symm npm) (fun z=>by rw [z,gel] at gmo; cases gmo)
   have ml4:=F4 _ _ gml (nlp gml) nme
   have live4:∀ c o,H c=some o->∃ o',H4 c=some o':=fun c o e=>by
    by_cases zp:c=p
    ·exact ⟨_,zp ▸ me4⟩
    by_cases ze:c=A'.el
    ·rw [ze]
     exact L4
    have gc:∃ o',G c=some o':=by
     by_cases zm:c=A'.mp
     ·exact ⟨_,zm ▸ gmo⟩
     by_cases zo:∀ j,j < A'.n->¬ O j c
     ·exact ⟨o,gF _ _ (B2 _ _ (S1 _ _ e) zm) zo⟩
     ·have:∃ j,j < A'.n/\O j c:=Classical.byContradiction fun w=>zo fun j hj w'=>w ⟨j,hj,w'⟩
      obtain ⟨j,hj,w⟩:=this
      obtain ⟨o',ho',_⟩:=(gB.b j hj).own c w
      exact ⟨o',ho'⟩
    obtain ⟨o',ho'⟩:=gc
    exact ⟨o',F4 _ _ ho' zp ze⟩
   have ag4:yik A'.n A'.kd f' (X.see A' b).g:=fun j hj k'=>by
    rw [gA j hj k']
    show _=if k'=X.key A' j then (X.g j k').see b else X.g j k'
    by_cases w:k'=X.key A' j
    ·rw [if_pos ⟨hj,w⟩,if_pos w]
    ·rw [if_neg (fun z=>w z.2),if_neg w]
   walk_at "rd"
   refine ⟨p,A'.dp,A'.ll,A'.bl,A'.mp,el,A'.pl,ndN X.nd b,sgN X.sg X.nd b,A'.n,m,A'.bk,A'.dx,A'.lk,A'.dd,A'.kd,A'.ps,f',O,(X.see A' b).g,rfl,me4,bl4,el4,Bk4,ag4,n6,by omega,h.np,fun pl sl f2 O2 H5 me5 pl5 hpl0 B5 ag5 at5 hO5 F5 L5=>?_⟩
   have nlO4:∀ {l:Addr} {xs:List V},H4 l=some (.lst xs)->l≠p:=fun {l xs} e z=>by rw [z,me4] at e; cases e
   have n2:∀ j c,j < A'.n->O2 j c->O j c\/H c=none:=fun j c hj w=>by
    rcases hO5 j c hj w with v | v
    ·exact .inl v
    ·refine .inr ?_
     cases e:H c with
     | none=>rfl
     | some o =>
      obtain ⟨o',ho'⟩:=live4 c o e
      rw [ho'] at v
      cases v
   refine k ml el pl sl f2 O2 H5 ?_ ⟨me5,F5 _ _ bl4 (nlO4 bl4) (Bk4.nlst bl4),F5 _ _ el4 (nlO4 el4) (Bk4.nlst el4),⟨F5 _ _ mo4 (Ne.symm npm) h.nm,F5 _ _ ml4 (nlO4 ml4) (Bk4.nlst ml4)⟩,ypt h.n1 n6 h.wok h.cok,pl5,B5,ag5,at5,fun j hj w=>?_,fun j hj w=>?_,h.n1,n6⟩ n2 (fun c o e c1 c2 c3 no=>F5 _ _ (F4 _ _ (gF _ _ (B2 _ _ (S1 _ _ e) c2) no) c1 c3) c1 no) (fun c o e=>let ⟨o',w⟩:=live4 c o e; L5 c o' w) (S1.free hml0)
   ·rcases hel' with z | z
    ·exact .inl z
    ·refine .inr ?_
     cases e:H el with
     | none=>rfl
     | some o =>
      exfalso
      by_cases zp:el=p
      ·rw [zp,gp] at z; cases z
      by_cases zm:el=A'.mp
      ·rw [zm,gmo] at z; cases z
      by_cases zo:∀ j,j < A'.n->¬ O j el
      ·rw [gF _ _ (B2 _ _ (S1 _ _ e) zm) zo] at z; cases z
      ·have:∃ j,j < A'.n/\O j el:=Classical.byContradiction fun w=>zo fun j hj w'=>w ⟨j,hj,w'⟩
       obtain ⟨j,hj,w⟩:=this
       obtain ⟨o',ho',_⟩:=(gB.b j hj).own el w
       rw [ho'] at z
       cases z
   ·rcases n2 j p hj w with v | v
    ·exact h.np j hj v
    ·rw [hp] at v; cases v
   ·rcases n2 j A'.mp hj w with v | v
    ·exact h.nm j hj v
    ·rw [hmo] at v; cases v
theorem FW.see {K:W.Frag} {a:Ads} {H:Hp} {p:Addr} {n:Nat} {kd:Nat->Fin 3} {ps:Nat->List Int} {X:FX} {M:Nat} {W:Addr->Prop} {b:Int} {Q:VK} {E:XK} (h:FW K a H p n kd ps X M W) (b0:0 <= b) (b1:b <= 1) (hM:M+20 < 100000)
  (k:∀ W' H',FW K a H' p n kd ps (X.see (fa0 n ps) b) (M+6) W'->Go W H H' W'->Q .non H'):yhx K a [.ref p,.int b] H Q E:=by
 obtain ⟨A,f,O,m,hF,hm,hl,rfl,rfl,rfl,e4,e5,e6⟩:=h
 refine ⟨p,A,X,f,O,m,b,rfl,hF,b0,b1,by omega,e4,by omega,fun ml el pl sl f' O' H' he hF' hO' fr lv hml=>?_⟩
 have n6:=hF.n6
 refine k (Own p (A.re ml el pl sl) O') H' ⟨A.re ml el pl sl,f',O',m+A.n,hF',by omega,⟨?_,?_,?_⟩,rfl,rfl,rfl,ypg e4 b0,?_,fun c=>Iff.rfl⟩ ⟨fun c o e no=>?_,fun c w=>?_,lv⟩
 ·refine fr _ _ hl.1 (fun z=>?_) (fun z=>?_) hl.2.1 (hF.B.nlst hl.1)
  ·have e:=hl.1; rw [z,hF.me] at e; cases e
  ·have e:=hl.1; rw [z,hF.mx.o] at e; cases e
 ·rcases he with z | z
  ·show A.ll≠el
   rw [z]
   exact hl.2.1
  ·exact yd hl.1 z
 ·obtain ⟨tp,r⟩:=hl.2.2
  have kp:∀ {c:Addr} {xs:List V},H c=some (.tup xs)->H' c=some (.tup xs):=fun {c xs} e=>fr c _ e (fun z=>by rw [z,hF.me] at e; cases e) (fun z=>by rw [z,hF.mx.o] at e; cases e) (fun z=>by rw [z,hF.el] at e; cases e) fun j hj w=>by
   obtain ⟨o,ho,hi⟩:=(hF.B.b j hj).own c w
   rw [e] at ho
   cases ho
   cases hi
  refine ⟨tp,fun i hi=>?_⟩
  obtain ⟨lk,z,h1,h2,h3⟩:=r i hi
  exact ⟨lk,z,kp h1,kp h2,h3⟩
 ·have:=ylw X.sg X.nd b
  show (sgN X.sg X.nd b).length <= M+6
  omega
 ·have no':¬ Own p A O c:=fun w=>no ((e6 c).mpr w)
  exact fr c o e (fun z=>no' (.inl z)) (fun z=>no' (.inr (.inl z))) (fun z=>no' (.inr (.inr (.inr (.inr (.inl z)))))) fun j hj w=>no' (.inr (.inr (.inr (.inl ⟨j,hj,w⟩))))
 ·rcases w with z | z | ⟨j,hj,z⟩ | ⟨j,hj,z⟩ | z | z
  ·exact .inl ((e6 c).mpr (.inl z))
  ·exact .inl ((e6 c).mpr (.inr (.inl z)))
  ·exact .inl ((e6 c).mpr (.inr (.inr (.inl ⟨j,hj,z⟩))))
  ·rcases hO' j c hj z with v | v
   ·exact .inl ((e6 c).mpr (.inr (.inr (.inr (.inl ⟨j,hj,v⟩)))))
   ·exact .inr v
  ·rcases he with y | y
   ·exact .inl ((e6 c).mpr (.inr (.inr (.inr (.inr (.inl (show c=A.el from Eq.trans z y)))))))
   ·exact .inr (by rw [show c=el from z]; exact y)
  ·exact .inr (by rw [show c=ml from z]; exact hml)
theorem yty.fw {K:W.Frag} {a:Ads} {H H':Hp} {p:Addr} {n:Nat} {lk tp:Nat->Addr} {kd:Nat->Fin 3} {ps:Nat->List Int} {A:FA} {f:Nat->List Int->Option Slt} {O:Nat->Addr->Prop} (h:yty K a H H' p n lk kd ps A f O) (r:z0 H' n lk kd tp ps):FW K a H' p n kd ps (FX0 n kd) 6 (Own p A O)/\∀ c,Own p A O c->c=p\/H c=none:=by
 obtain ⟨hft,rfl,rfl,rfl,rfl,oO,oB,oM,oL,lo1,lo2,lo3⟩:=h
 refine ⟨⟨A,f,O,6,hft,Nat.le_refl _,⟨lo1,lo2,tp,r⟩,rfl,rfl,rfl,Int.le_refl _,Nat.zero_le _,fun c=>Iff.rfl⟩,fun c w=>?_⟩
 rcases w with z | z | ⟨j,hj,z⟩ | ⟨j,hj,z⟩ | z | z
 ·exact .inl z
 ·exact .inr (by rw [z]; exact oM)
 ·exact .inr (by rw [z]; exact oB j hj)
 ·exact .inr (oO j c hj z)
 ·exact .inr (oL c (.inr (.inl z)))
 ·exact .inr (oL c (.inr (.inr (.inl z))))
theorem FW.new {K:W.Frag} {a:Ads} {H:Hp} {p dp l:Addr} {n:Nat} {lk tp:Nat->Addr} {kd:Nat->Fin 3} {ps:Nat->List Int} {Q:VK} {E:XK} (np:H p=none) (ndp:H dp=none) (hl:H l=some (.lst (xg lk n))) (n1:1 <= n) (n6:n <= 6) (r:z0 H n lk kd tp ps)
  (k:∀ W H',FW K a H' p n kd ps (FX0 n kd) 6 W->(∀ c,W c->H c=none)->y6 H H'->Q .non H'):yep K a [.ref p,.ref l] (upd (upd H dp (.own p)) p (.ins a.C_Ft dp [])) Q E:=by
 have S0:y6 H (upd (upd H dp (.own p)) p (.ins a.C_Ft dp [])):=fun b o e=>by rw [yi (yd e np),yi (yd e ndp)]; exact e
 refine ⟨p,dp,.ref l,rfl,ya,.inr ⟨l,n,lk,kd,tp,ps,rfl,S0 _ _ hl,n1,n6,r.same S0,fun A f O H1 N1 B1=>?_⟩⟩
 have S1:y6 H H1:=fun b o e=>B1 b o (S0 b o e) (yd e np)
 obtain ⟨hw,nw⟩:=N1.fw (r.same S1)
 refine k _ H1 hw (fun c w=>?_) S1
 rcases nw c w with z | z
 ·rw [z]
  exact np
 ·exact S0.free z
theorem Go.bs {W W':Addr->Prop} {B H H':Hp} (g:Go W H H' W') (S:y6 B H) (hW:∀ c,W c->B c=none):y6 B H'/\∀ c,W' c->B c=none:=by
 refine ⟨fun c o e=>g.fr c o (S _ _ e) fun w=>?_,fun c w=>?_⟩
 ·rw [hW c w] at e
  cases e
 ·rcases g.nw c w with z | z
  ·exact hW c z
  ·exact S.free z
structure TwB (K:W.Frag) (a:Ads) (H G:Hp) (n:Nat) (bk dx lk dd:Nat->Addr) (kd:Nat->Fin 3) (ps:Nat->List Int) (f:Nat->List Int->Option Slt) (O:Nat->Addr->Prop) (m:Nat):Prop where
 B:Bks K a G n bk dx lk dd kd ps f O m
 oO:∀ j c,j < n->O j c->H c=none
 oB:∀ j,j < n->H (bk j)=none
theorem TwB.zero {K:W.Frag} {a:Ads} {H G:Hp} {bk dx lk dd:Nat->Addr} {kd:Nat->Fin 3} {ps:Nat->List Int} {f:Nat->List Int->Option Slt} {O:Nat->Addr->Prop} {m:Nat}:TwB K a H G 0 bk dx lk dd kd ps f O m :=
 ⟨⟨fun i hi=>absurd hi (Nat.not_lt_zero i),fun i hi=>absurd hi (Nat.not_lt_zero i),fun i _ _ hi=>absurd hi (Nat.not_lt_zero i),fun i _ hi=>absurd hi (Nat.not_lt_zero i)⟩,fun i _ hi=>absurd hi (Nat.not_lt_zero i),fun i hi=>absurd hi (Nat.not_lt_zero i)⟩
theorem TwB.next {K:W.Frag} {a:Ads} {H G G2:Hp} {n m:Nat} {bk dx lk dd:Nat->Addr} {kd:Nat->Fin 3} {ps:Nat->List Int} {f:Nat->List Int->Option Slt} {O:Nat->Addr->Prop} (h:TwB K a H G n bk dx lk dd kd ps f O m) (hl:xr K G (lk n) (.str (kdS (kd n))) (ps n))
  (S:y6 H G) {q dq d D:Addr} {xs ys:List V} {f':List Int->Option Slt} {O':Addr->Prop} (hq:G q=none) (hO:∀ c,O' c->G c=none) (S2:y6 G G2) (hb:zk a G2 q dq (lk n) d (kd n) f' O' m) (hD:G D=some (.lst xs)) :
  TwB K a H (upd G2 D (.lst ys)) (n+1) (upN bk n q) (upN dx n dq) lk (upN dd n d) kd ps (upN f n f') (upN O n O') m:=by
 obtain ⟨hB,h2,h3⟩:=h
 have live:∀ j c,j < n->O j c->∃ o,G c=some o:=fun j c hj w=>let ⟨o,ho,_⟩:=(hB.b j hj).own c w; ⟨o,ho⟩
 have M:=(hB.same S2).snoc (hl.same S2) hb (fun j c hj w z=>by
  obtain ⟨o,ho⟩:=live j c hj w
  rw [hO c z] at ho
  cases ho) (fun j hj w=>by
  obtain ⟨o,ho⟩:=live j q hj w
  rw [hq] at ho
  cases ho) (fun j hj z=>by
  have e:=(hB.b j hj).me
  rw [hO _ z] at e
  cases e)
 have hD2:=S2 _ _ hD
 have nD:=M.nlst hD2
 have SB:∀ c o,G2 c=some o->c≠D->upd G2 D (.lst ys) c=some o:=fun c o e ne=>yj ne e
 refine ⟨M.frame (O2:=fun c=>c=D) (fun c o e ne=>SB c o e ne) (fun j c hj w z=>nD j hj (z ▸ w)) (fun j hj z=>?_) (fun t xs e=>?_),fun j c hj w=>?_,fun j hj=>?_⟩
 ·have e:=(M.b j hj).me
  rw [z,hD2] at e
  cases e
 ·rcases e with (e | ⟨o,e⟩) | e
  ·exact .inl (.inl (SB _ _ e (fun z=>by rw [z,hD2] at e; cases e)))
  ·exact .inl (.inr ⟨o,SB _ _ e (fun z=>by rw [z,hD2] at e; cases e)⟩)
  ·exact .inr e
 ·by_cases z:j=n
  ·rw [z,wc] at w
   exact S.free (hO c w)
  ·rw [v6 (by omega)] at w
   exact h2 j c (by omega) w
 ·by_cases z:j=n
  ·rw [z,wc]
   exact S.free hq
  ·rw [v6 (by omega)]
   exact h3 j (by omega)
theorem yk6:ym ["self","made"] ["self"] (yg ym8):=⟨rfl,rfl,rfl,by decide +kernel,rfl,by decide +kernel,by decide +kernel⟩
def yem (K:W.Frag) (a:Ads):Sp:=fun vs H Q _=>∃ (p:Addr) (A:FA) (X:FX) (f:Nat->List Int->Option Slt) (O:Nat->Addr->Prop) (m:Nat),vs=[.ref p]/\jg K a H p A X f O m/\yoy H A/\m+20 < 1000000 /\
 ∀ (q:Addr) (A':FA) (f':Nat->List Int->Option Slt) (O':Nat->Addr->Prop) (H':Hp),H q=none->jg K a H' q A' X f' O' (m+A.n)->yoy H' A'->A'.n=A.n->A'.kd=A.kd->A'.ps=A.ps->A'.lk=A.lk->(∀ j c,j < A.n->O' j c->H c=none)->(∀ j,j < A.n->H (A'.bk j)=none)->H A'.mp=none->(∀ l,(l=A'.bl\/l=A'.el\/l=A'.ml\/l=A'.pl\/l=A'.ll)->H l=none)->y6 H H'->Q (.ref q) H'
theorem yh6 (T:Txt K mg a):we P w K mg base CX0 8 a.f_q45 a.d_q45 ["self"] (yem K a):=by
 refine T.y_q45.F.ok yk6 (fun vs H Q E h=>?_) (fun cdv A outer s H vs Q E hr h=>?_)
 ·obtain ⟨p,A,X,f,O,m,rfl,_⟩:=h
  rfl
 ·obtain ⟨p,A',X,f,O,m,rfl,h,⟨hll,nle,tp,hrow⟩,hm,k⟩:=h
  have hp:=h.me
  have n1:=h.n1
  have n6:=h.n6
  refine yk (vj (i:=1) yk6.nd rfl (Or.inl rfl) (ja T.k_Ft (ye5 T) (hr.mono (by decide)) rfl T.m_Ft T.y_q35.B .nil wv (yc (yt (pv 0) rfl) ye (yb rfl)))) ?_
  refine yk (y4 (pv 1) (ua rfl (wx (yt (pv 0) rfl)) (fun C s2 H2 fp=>(yx (pv 0) T.cl_Book T.y_q29.m (yqm T) (hr.mono (by decide)) T.y_q29.B .nil yu))) rfl) ?_
  refine yk (y4 (pv 1) (yx (yt (pv 0) rfl) T.cl_Mx T.y_q34.m (yqz T) (hr.mono (by decide)) T.y_q34.B .nil yu) rfl) ?_
  refine yk (y4 (pv 1) (v9 vi rfl T.z_list (by decide +kernel) (yc (yt (pv 0) rfl) ye (yb rfl))) rfl) ?_
  refine yk (y4 (pv 1) (yt (pv 0) rfl) rfl) ?_
  refine yk (y3 (yx (pv 1) T.cl_Ft T.y_q36.m (yh2 T) (hr.mono (by decide)) T.y_q36.B .nil yu)) ?_
  refine ⟨_,(yf (yy (pv 1))),?_⟩
  try dsimp only [v7]
  refine yo (σ':=[some _,none]) rfl ?_
  walk_at "rd"
  intro q dq nq ndq neq
  have S0:y6 H (upd (upd H dq (.own q)) q (.ins a.C_Ft dq [])):=fun b o e=>by rw [yi (yd e nq),yi (yd e ndq)]; exact e
  refine ⟨q,dq,.ref A'.ll,rfl,ya,.inr ⟨A'.ll,A'.n,A'.lk,A'.kd,tp,A'.ps,rfl,S0 _ _ hll,n1,n6,hrow.same S0,fun A1 f1 O1 H1 N1 B1=>⟨rfl,?_⟩⟩⟩
  obtain ⟨hft1,e1,e2,e3,e4,oO1,oB1,oM1,oL1,lo1,lo2,lo3⟩:=N1
  have S1:y6 H H1:=xo nq ndq B1
  have h1:=h.same S1
  have hq1:H1 q=some (.ins a.C_Ft A1.dp (vk (.ref A1.ll) (.ref A1.bl) (.ref A1.mp) (.ref A1.el) (.int 0) (.ref A1.pl))):=hft1.me
  have hp1:=h1.me
  have npq:p≠q:=yd hp nq
  walk_at "rd"
  refine ⟨A'.bl,rfl,⟨_,SqL.of h1.bl⟩,fun D hD=>?_⟩
  refine x6 (K:=K) (xs:=xg A'.bk A'.n) (fun i G=>∃ (bk dx dd:Nat->Addr) (f2:Nat->List Int->Option Slt) (O2:Nat->Addr->Prop),G D=some (.lst (xg bk i))/\TwB K a H1 G i bk dx A'.lk dd A'.kd A'.ps f2 O2 m/\(∀ j,j < i->f2 j=f j)/\y6 H1 G)
   ⟨fun _=>0,fun _=>0,fun _=>0,fun _ _=>none,fun _ _=>False,ya,TwB.zero,fun j hj=>absurd hj (Nat.not_lt_zero j),y1 hD⟩ (fun i G _ z=>?_) (fun i y G hy hi z=>?_) (fun G z=>?_)
  ·obtain ⟨_,_,_,_,_,_,_,_,SG⟩:=z
   exact SqL.of (SG _ _ h1.bl)
  ·obtain ⟨bk,dx,dd,f2,O2,gD,gT,gf,SG⟩:=z
   obtain ⟨rfl,hin⟩:=zf hy
   have hbi:=(h1.B.b i hin).same SG
   have hmei:=hbi.me
   walk_at "rd"
   refine ⟨A'.bk i,A'.dx i,A'.lk i,A'.dd i,A'.kd i,f i,O i,m,rfl,hbi,by omega,fun q2 dq2 d2 O3 G2 hq20 hb2 hO3 S2=>?_⟩
   refine xp (n:=(xg A'.bk A'.n).length) (S2 _ _ gD) (vf (by rw [vv]; omega)) hi ?_
   refine ⟨_,_,_,_,_,?_,gT.next ((h1.B.look i hin).same SG) SG hq20 hO3 S2 hb2 gD,fun j hj=>?_,fun b o e=>yj (yd e hD) (S2 _ _ (SG b o e))⟩
   ·rw [ya,zb,wc]
    congr 3
    exact ue fun j hj=>(v6 hj).symm
   ·by_cases z:j=i
    ·rw [z,wc]
    ·rw [v6 (by omega)]
     exact gf j (by omega)
  obtain ⟨bk,dx,dd,f2,O2,gD,gT,gf,SG⟩:=z
  rw [vv] at gD gT gf
  have hqG:=SG _ _ hq1
  have hpG:=SG _ _ hp1
  walk_at "rd"
  have nDq:D≠q:=fun z=>by rw [z,hq1] at hD; cases hD
  have BA:But q G (upd G q (.ins a.C_Ft A1.dp (vk (.ref A1.ll) (.ref D) (.ref A1.mp) (.ref A1.el) (.int 0) (.ref A1.pl)))):=But.upd
  have hqA:upd G q (.ins a.C_Ft A1.dp (vk (.ref A1.ll) (.ref D) (.ref A1.mp) (.ref A1.el) (.int 0) (.ref A1.pl))) q=some (.ins a.C_Ft A1.dp (vk (.ref A1.ll) (.ref D) (.ref A1.mp) (.ref A1.el) (.int 0) (.ref A1.pl))):=ya
  generalize upd G q (.ins a.C_Ft A1.dp (vk (.ref A1.ll) (.ref D) (.ref A1.mp) (.ref A1.el) (.int 0) (.ref A1.pl)))=HA at BA hqA ⊢
  have SA:y6 H HA:=fun b o e=>BA _ _ (SG _ _ (S1 _ _ e)) (yd e nq)
  have hA:=h.same SA
  have hpA:=hA.me
  have hmoA:=hA.mx.o
  walk_at "rd"
  refine ⟨A'.mp,A'.mx,A'.ml,X.ws,rfl,hA.mx,by rw [h.wok.len]; exact n1,by rw [h.wok.len]; exact n6,fun q3 dq3 l3 HB hq30 hl30 MB SB=>?_⟩
  have hqB:=SB _ _ hqA
  walk_at "rd"
  have n3q:q3≠q:=(yd hqA hq30).symm
  have l3q:l3≠q:=(yd hqA hl30).symm
  have BC:But q HB (upd HB q (.ins a.C_Ft A1.dp (vk (.ref A1.ll) (.ref D) (.ref q3) (.ref A1.el) (.int 0) (.ref A1.pl)))):=But.upd
  have hqC:upd HB q (.ins a.C_Ft A1.dp (vk (.ref A1.ll) (.ref D) (.ref q3) (.ref A1.el) (.int 0) (.ref A1.pl))) q=some (.ins a.C_Ft A1.dp (vk (.ref A1.ll) (.ref D) (.ref q3) (.ref A1.el) (.int 0) (.ref A1.pl))):=ya
  generalize upd HB q (.ins a.C_Ft A1.dp (vk (.ref A1.ll) (.ref D) (.ref q3) (.ref A1.el) (.int 0) (.ref A1.pl)))=HC at BC hqC ⊢
  have SC:y6 H HC:=fun b o e=>BC _ _ (SB _ _ (SA _ _ e)) (yd e nq)
  have hpC:=SC _ _ hp
  walk_at "rd"
  refine xi (SqL.of (SC _ _ h.el)) fun r hr0=>?_
  with_reducible first | refine vg hr0 fun HD SD er=>?_ | refine vy hr0 fun HD SD er=>?_
  have hqD:=SD _ _ hqC
  walk_at "rd"
  have nrq:r≠q:=(yd hqC hr0).symm
  have BE:But q HD (upd HD q (.ins a.C_Ft A1.dp (vk (.ref A1.ll) (.ref D) (.ref q3) (.ref r) (.int 0) (.ref A1.pl)))):=But.upd
  have hqE:upd HD q (.ins a.C_Ft A1.dp (vk (.ref A1.ll) (.ref D) (.ref q3) (.ref r) (.int 0) (.ref A1.pl))) q=some (.ins a.C_Ft A1.dp (vk (.ref A1.ll) (.ref D) (.ref q3) (.ref r) (.int 0) (.ref A1.pl))):=ya
  generalize upd HD q (.ins a.C_Ft A1.dp (vk (.ref A1.ll) (.ref D) (.ref q3) (.ref r) (.int 0) (.ref A1.pl)))=HE at BE hqE ⊢
  have SE:y6 H HE:=fun b o e=>BE _ _ (SD _ _ (SC _ _ e)) (yd e nq)
  have hpE:=SE _ _ hp
  walk_at "rd"
  have BF:But q HE (upd HE q (.ins a.C_Ft A1.dp (vk (.ref A1.ll) (.ref D) (.ref q3) (.ref r) (.int X.nd) (.ref A1.pl)))):=But.upd
  have hqF:upd HE q (.ins a.C_Ft A1.dp (vk (.ref A1.ll) (.ref D) (.ref q3) (.ref r) (.int X.nd) (.ref A1.pl))) q=some (.ins a.C_Ft A1.dp (vk (.ref A1.ll) (.ref D) (.ref q3) (.ref r) (.int X.nd) (.ref A1.pl))):=ya
  generalize upd HE q (.ins a.C_Ft A1.dp (vk (.ref A1.ll) (.ref D) (.ref q3) (.ref r) (.int X.nd) (.ref A1.pl)))=HF at BF hqF ⊢
  have BDF:But q HD HF:=BE.trans BF
  have BBF:But q HB HF:=(BC.trans (But.of SD)).trans BDF
  have BGF:But q G HF:=(BA.trans (But.of SB)).trans BBF
  have SF:y6 H HF:=fun b o e=>BGF _ _ (SG _ _ (S1 _ _ e)) (yd e nq)
  have hDF:=BGF _ _ gD nDq
  have hrF:=BDF _ _ er nrq
  have hoF:=BBF _ _ MB.o n3q
  have hlF:=BBF _ _ MB.l l3q
  have nOq:∀ j,j < A'.n->¬ O2 j q:=fun j hj w=>by
   have e:=gT.oO j q hj w
   rw [hq1] at e
   cases e
  have bkF:Bks K a HF A'.n bk dx A'.lk dd A'.kd A'.ps f2 O2 m:=gT.B.frame (O2:=fun c=>c=q) (fun c o e ne=>BGF c o e ne) (fun j c hj w z=>nOq j hj (z ▸ w)) (fun j hj z=>by
   have e:=gT.oB j hj
   rw [z,hq1] at e
   cases e) (fun t xs e=>by
   rcases e with (e | ⟨o,e⟩) | e
   ·exact .inl (.inl (BGF _ _ e (fun z=>by rw [z,hqG] at e; cases e)))
   ·exact .inl (.inr ⟨o,BGF _ _ e (fun z=>by rw [z,hqG] at e; cases e)⟩)
   ·exact .inr e)
  have agF:yik A'.n A'.kd f2 X.g:=fun i hi k=>by
   rw [gf i hi]
   exact h.ag i hi k
  walk_at "rd"
  refine ⟨q,A1.dp,A1.ll,D,q3,r,A1.pl,X.nd,X.sg,A'.n,m,bk,dx,A'.lk,dd,A'.kd,A'.ps,f2,O2,X.g,rfl,hqF,hDF,hrF,bkF,agF,n6,by omega,nOq,fun pl sl f' O' H' me' pl' hpl' B' ag' at' hO' F' L'=>?_⟩
  have liveF:∀ j c,j < A'.n->O2 j c->∃ o,G c=some o:=fun j c hj w=>let ⟨o,ho,_⟩:=(gT.B.b j hj).own c w; ⟨o,ho⟩
  have nO3:∀ j,j < A'.n->¬ O2 j q3:=fun j hj w=>by
   obtain ⟨o,ho⟩:=liveF j q3 hj w
   rw [BA _ _ ho n3q] at hq30
   cases hq30
  have nl:=fun {l:Addr} {xs:List V} (e:HF l=some (.lst xs))=>bkF.nlst e
  have nllq:A1.ll≠q:=fun z=>by rw [z,hq1] at lo1; cases lo1
  have hllF:=BGF _ _ (SG _ _ lo1) nllq
  have SH:y6 H H':=fun c o e=>F' c o (SF c o e) (yd e nq) fun j hj w=>by
   have e2:=gT.oO j c hj w
   rw [S1 _ _ e] at e2
   cases e2
  walk_at "rd"
  refine k q ⟨A1.dp,A1.ll,D,q3,dq3,l3,r,pl,A'.n,bk,dx,A'.lk,dd,sl,A'.kd,A'.ps⟩ f' O' H' nq ⟨me',F' _ _ hDF nDq (nl hDF),F' _ _ hrF nrq (nl hrF),⟨F' _ _ hoF n3q nO3,F' _ _ hlF l3q (nl hlF)⟩,h.wok,pl',B',ag',at',fun j hj w=>?_,fun j hj w=>?_,n1,n6⟩ ⟨F' _ _ hllF nllq (nl hllF),fun z=>?_,tp,hrow.same SH⟩ rfl rfl rfl rfl (fun j c hj w=>?_) (fun j hj=>S1.free (gT.oB j hj)) (SA.free hq30) (fun l hl=>?_) SH
  ·rcases hO' j q hj w with v | v
   ·exact nOq j hj v
   ·rw [hqF] at v
    cases v
  ·rcases hO' j q3 hj w with v | v
   ·exact nO3 j hj v
   ·rw [hoF] at v
    cases v
  ·have e:=BC _ _ (SB _ _ (BA _ _ (SG _ _ lo1) nllq)) nllq
   rw [show A1.ll=r from z,hr0] at e
   cases e
  ·rcases hO' j c hj w with v | v
   ·exact S1.free (gT.oO j c hj v)
   ·exact SF.free v
  ·rcases hl with z | z | z | z | z
   ·rw [z]
    exact S1.free hD
   ·rw [z]
    exact SC.free hr0
   ·rw [z]
    exact SA.free hl30
   ·rw [z]
    exact SF.free hpl'
   ·rw [z]
    exact S0.free lo3
theorem yrs:ym ["_law_script","_law_k"] ["_law_script","_law_k"] (yg yoh):=⟨rfl,rfl,rfl,by decide +kernel,rfl,by decide +kernel,by decide +kernel⟩
def yf0 (K:W.Frag):Sp:=fun vs H Q _=>∃ (l:Addr) (ns:List Int) (j:Nat),vs=[.ref l,.int j]/\SqL K H l (ns.map V.int)/\∀ n:Int,Q (.int n) H
theorem yaf (T:Txt K mg a):we P w K mg base CX0 1 a.f_q46 a.d_q46 ["_law_script","_law_k"] (yf0 K):=by
 refine T.y_q46.F.ok yrs (fun vs H Q E h=>?_) (fun cdv A outer s H vs Q E hr h=>?_)
 ·obtain ⟨l,ns,j,rfl,_⟩:=h
  rfl
 ·obtain ⟨l,ns,j,rfl,hl,k⟩:=h
  refine ⟨_,(yn (wt (yz yne (pv 1) (yv ve rfl T.z_len (by decide +kernel) (yc (pv 0) ye (yb rfl))) (y8 _)) (yf (yy (yr x3 (yal zr (pv 0) (pv 1) (fun _ _=>rfl)) (yr (ylt 1000000000000000000000000000000) yh yh)))) vw) (yf (yy yh))),?_⟩
  try dsimp only [v7]
  refine yo (σ':=[some _,some _]) rfl ?_
  walk_at "rd"
  refine yea hl ?_
  rw [List.length_map]
  walk_at "rd"
  refine z5 (fun hb=>?_) (fun hb=>?_)
  ·have hj:j < ns.length:=by omega
   walk_at "rd"
   refine yif (v:=V.int ns[j]) hl (ux (by rw [List.getElem?_map,List.getElem?_eq_getElem hj]; rfl)) ?_
   walk_at "rd"
   exact k _
  ·walk_at "rd"
   exact k _
theorem yey:ym ["_law_cell","_law_bits","_law_places"] ["_law_cell"] (yg ynd):=⟨rfl,rfl,rfl,by decide +kernel,rfl,by decide +kernel,by decide +kernel⟩
def yi6:Sp:=fun vs H Q _=>∃ (c:Int),vs=[.int c]/\∀ lk (kd:Fin 3) (tp:Addr) (ps:List Int) H',LkG H' (.ref lk) kd tp ps->y6 H H'->Q (.ref lk) H'
theorem yqp (T:Txt K mg a):we P w K mg base CX0 1 a.f_q47 a.d_q47 ["_law_cell"] yi6:=by
 refine T.y_q47.F.ok yey (fun vs H Q E h=>?_) (fun cdv A outer s H vs Q E hr h=>?_)
 ·obtain ⟨c,rfl,_⟩:=h
  rfl
 ·obtain ⟨c,rfl,k⟩:=h
  refine ⟨_,(yn (vj (i:=1) yey.nd rfl (Or.inr rfl) (yr x3 (yr y9 (pv 0) yh) yh)) (yn (yip (i:=2) (js:=[1]) (ys:=["_law_bits"]) yey.nd rfl rfl rfl (x5 rfl T.z_range (yc yh ye (yb rfl))) (fun C s2 H2 fp=>(yz ud (yr yqv (yr yks (pv 1) (pv 0)) yh) yh (y8 _))) (fun C s2 H2 fp=>(yr vo (pv 0) yh)) rfl rfl (hyc:=(all_cons rfl vn)) (hrel:=(all_cons rfl vn))) (yn (ye7 (wt (yz ud (yr x3 (yr y9 (pv 0) yh) yh) yh (y8 _)) (yf (vj (i:=2) yey.nd rfl (Or.inl rfl) (xw zq (pv 2) uy (uw yh)))) vw)) (yf (yy (yo7 (yc (yal zr (zx (yc uq (yc uq (yc uq ye (yb rfl)) (yb rfl)) (yb rfl))) (yr x3 (pv 0) yh) (fun _ _=>rfl)) (yc (v9 u9 rfl T.z_tuple (by decide +kernel) (yc (xw zq (pv 2) uy (uw yh)) ye (yb rfl))) ye (yb rfl)) (yb rfl)))))))),?_⟩
  try dsimp only [v7]
  refine yo (σ':=[some _,none,none]) rfl ?_
  walk_at "rd"
  generalize c / 3 % 256=bts
  refine ⟨_,rfl,by omega,by omega,fun D hD=>?_⟩
  refine ydo (n:=8) (fun i G=>∃ ps:List Int,G D=some (.lst (ps.map V.int))/\(∀ p∈ps,1 <= p/\p <= (i:Int))/\ps.Pairwise (· < ·)/\ps.length <= i/\y6 H G) ⟨[],ya,fun _ z=>(nomatch z),List.Pairwise.nil,Nat.le_refl _,y1 hD⟩ (fun i G hi z=>?_) (fun G z=>?_)
  ·obtain ⟨ps,h1,h2,h3,h4,S⟩:=z
   walk_at "rd"
   refine i_I (by omega) ?_
   walk_at "rd"
   refine z5 (fun hb=>?_) (fun hb=>?_)
   ·walk_at "rd"
    refine xp (n:=8) h1 (vf (by rw [List.length_map]; omega)) hi ?_
    refine ⟨ps++[0+(i:Int)+1],by rw [ya,List.map_append]; rfl,fun p hp=>?_,?_,by rw [List.length_append]; show _+1 <= _; omega,fun b o e=>yj (yd e hD) (S b o e)⟩
    ·rcases List.mem_append.mp hp with h | h
     ·have:=h2 p h
      omega
     ·rw [List.mem_singleton.mp h]
      omega
    ·refine List.pairwise_append.mpr ⟨h3,List.pairwise_singleton _ _,fun x hx y hy=>?_⟩
     rw [List.mem_singleton.mp hy]
     have:=h2 x hx
     omega
   ·exact ygw (n:=8) hi ⟨ps,h1,fun p hp=>by have:=h2 p hp; omega,h3,by omega,S⟩
  ·obtain ⟨ps,h1,h2,h3,h4,S⟩:=z
   walk_at "rd"
   refine yjw (fun σ' G'=>∃ (D2:Addr) (qs:List Int),σ'=[some (.int c),some (.int bts),some (.ref D2)]/\G' D2=some (.lst (qs.map V.int))/\(∀ p∈qs,1 <= p/\p <= 8)/\qs.Pairwise (· < ·)/\y6 H G') ?_ ?_
   ·walk_at "rd"
    refine z5 (fun hb=>?_) (fun hb=>?_)
    ·walk_at "rd"
     refine yga (SqL.of h1) fun D2 hD2=>?_
     have ec:yeb (ps.map V.int) none (some 1)=(ps.take 1).map V.int:=by rw [List.map_take]; exact ybo 1
     rw [ec]
     walk_at "rd"
     exact ⟨D2,ps.take 1,rfl,ya,fun p hp=>h2 p (List.mem_of_mem_take hp),h3.take,S.trans (y1 hD2)⟩
    ·walk_at "rd"
     exact ⟨D,ps,rfl,h1,h2,h3,S⟩
   ·rintro σ' G' ⟨D2,qs,rfl,g1,g2,g3,S'⟩
    walk_at "rd"
    refine ⟨by walk_at "len",fun q2 hq2=>?_⟩
    with_reducible first | refine vg hq2 fun H3 S3 hq3=>?_ | refine vy hq2 fun H3 S3 hq3=>?_
    walk_at "rd"
    obtain ⟨kk,hk⟩:=ymk c
    refine yif (SqL.of hq3) hk ?_
    walk_at "rd"
    refine yga (SqL.of (S3 _ _ g1)) fun u hu=>?_
    have ec:yeb (qs.map V.int) none (some 4)=(qs.take 4).map V.int:=by rw [List.map_take]; exact ybo 4
    rw [ec]
    with_reducible first | refine vg hu fun H4 S4 hu4=>?_ | refine vy hu fun H4 S4 hu4=>?_
    refine ⟨u,_,rfl,.inl ⟨SqL.of hu4,fun tp htp=>?_⟩⟩
    with_reducible first | refine vg htp fun H5 S5 htp5=>?_ | refine vy htp fun H5 S5 htp5=>?_
    walk_at "rd"
    refine ⟨by walk_at "len",fun lk hlk=>?_⟩
    exact k lk kk tp (qs.take 4) _ ⟨lk,rfl,ya,x9 hlk htp5,ygl (by rw [List.length_take]; omega) (fun p hp=>g2 p (List.mem_of_mem_take hp)) g3.take⟩ (S'.trans (S3.trans (S4.trans (S5.trans (y1 hlk)))))
theorem yhz:ym ["_law_script","_law_many"] ["_law_script"] (yg yna):=⟨rfl,rfl,rfl,by decide +kernel,rfl,by decide +kernel,by decide +kernel⟩
def yhc (K:W.Frag):Sp:=fun vs H Q _=>∃ (l:Addr) (ns:List Int),vs=[.ref l]/\SqL K H l (ns.map V.int)/\∀ r (n:Nat) (lk:Nat->Addr) (kd:Nat->Fin 3) (tp:Nat->Addr) (ps:Nat->List Int) H',H r=none->H' r=some (.lst (xg lk n))->1 <= n->n <= 6->z0 H' n lk kd tp ps->y6 H H'->Q (.ref r) H'
theorem ypm (T:Txt K mg a):we P w K mg base CX0 2 a.f_q48 a.d_q48 ["_law_script"] (yhc K):=by
 refine T.y_q48.F.ok yhz (fun vs H Q E h=>?_) (fun cdv A outer s H vs Q E hr h=>?_)
 ·obtain ⟨l,ns,rfl,_⟩:=h
  rfl
 ·obtain ⟨l,ns,rfl,hl,k⟩:=h
  refine ⟨_,(yn (vj (i:=1) yhz.nd rfl (Or.inl rfl) (yr vo yh (yr x3 (yw (yaf T) (hr.mono (by decide)) rfl T.y_q46.m T.y_q46.F.kp T.y_q46.B .nil yu (yc (pv 0) (yc yh ye (yb rfl)) (yb rfl))) yh))) (yn (ye7 (wt (yz ud (yr x3 (yr y9 (yw (yaf T) (hr.mono (by decide)) rfl T.y_q46.m T.y_q46.F.kp T.y_q46.B .nil yu (yc (pv 0) (yc yh ye (yb rfl)) (yb rfl))) yh) yh) yh (y8 _)) (yf (vj (i:=1) yhz.nd rfl (Or.inl rfl) (yr vo (pv 1) yh))) vw)) (yf (yy (jc (js:=[0]) (ys:=["_law_script"]) rfl (x5 rfl T.z_range (yc (pv 1) ye (yb rfl))) (fun C s2 H2 fp=>(yw (yqp T) (hr.mono (by decide)) rfl T.y_q47.m T.y_q47.F.kp T.y_q47.B .nil yu (yc (yw (yaf T) (hr.mono (by decide)) rfl T.y_q46.m T.y_q46.F.kp T.y_q46.B .nil yu (yc (pv 1) (yc (yr vo yh (pv 0)) ye (yb rfl)) (yb rfl))) ye (yb rfl)))) rfl rfl (hyc:=(all_cons rfl vn)) (hrel:=(all_cons rfl vn))))))),?_⟩
  try dsimp only [v7]
  refine yo (σ':=[some _,none]) rfl ?_
  walk_at "rd"
  refine ⟨l,ns,0,rfl,hl,fun c0=>?_⟩
  walk_at "rd"
  refine yjw (fun σ' G'=>H=G'/\∃ n:Nat,σ'=[some (.ref l),some (.int n)]/\1 <= n/\n <= 6) ?_ ?_
  ·walk_at "rd"
   refine ⟨l,ns,0,rfl,hl,fun c1=>?_⟩
   walk_at "rd"
   refine z5 (fun hb=>?_) (fun hb=>?_)
   ·walk_at "rd"
    exact ⟨rfl,(1+c0 % 3+3).toNat,by rw [Int.toNat_of_nonneg (by omega)],by omega,by omega⟩
   ·walk_at "rd"
    exact ⟨rfl,(1+c0 % 3).toNat,by rw [Int.toNat_of_nonneg (by omega)],by omega,by omega⟩
  ·rintro σ' G' ⟨rfl,n,rfl,n1,n6⟩
   walk_at "rd"
   refine ⟨_,rfl,by omega,by omega,fun D hD=>?_⟩
   refine jv (n:=n) (fun i G=>∃ (lk:Nat->Addr) (kd:Nat->Fin 3) (tp:Nat->Addr) (ps:Nat->List Int),G D=some (.lst (xg lk i))/\z0 G i lk kd tp ps/\y6 H G) ⟨fun _=>0,fun _=>0,fun _=>0,fun _=>[],ya,fun j hj=>absurd hj (Nat.not_lt_zero j),y1 hD⟩ (fun i G hi z=>?_) (fun G z=>?_)
   ·obtain ⟨lk,kd,tp,ps,gD,gL,S⟩:=z
    walk_at "rd"
    refine ⟨l,ns,1+i,by rw [Int.zero_add,Int.natCast_add]; rfl,S.seq hl,fun c=>?_⟩
    walk_at "rd"
    refine ⟨c,rfl,fun q kd' tp' ps' G2 hg S2=>?_⟩
    have gD2:=S2 _ _ gD
    refine xp (n:=n) gD2 (vf (by rw [vv]; omega)) hi ?_
    refine ⟨upN lk i q,upN kd i kd',upN tp i tp',upN ps i ps',?_,fun j hj=>?_,fun b o e=>yj (yd e hD) (S2 _ _ (S b o e))⟩
    ·rw [ya,zb,wc]
     congr 3
     exact ue fun j hj=>(v6 hj).symm
    ·by_cases z:j=i
     ·subst z
      rw [wc,wc,wc,wc]
      exact hg.upd gD2
     ·have hji:j < i:=by omega
      rw [v6 hji,v6 hji,v6 hji,v6 hji]
      exact ((gL j hji).same S2).upd gD2
   ·obtain ⟨lk,kd,tp,ps,gD,gL,S⟩:=z
    exact k D n lk kd tp ps G hD gD n1 n6 gL S
theorem FW.fork {K:W.Frag} {a:Ads} {H:Hp} {p:Addr} {n:Nat} {kd:Nat->Fin 3} {ps:Nat->List Int} {X:FX} {M:Nat} {W:Addr->Prop} {Q:VK} {E:XK} (h:FW K a H p n kd ps X M W) (hM:M+20 < 100000)
  (k:∀ q W' H',FW K a H' q n kd ps X (M+6) W'->(∀ c,W' c->H c=none)->y6 H H'->Q (.ref q) H'):yem K a [.ref p] H Q E:=by
 obtain ⟨A,f,O,m,hF,hm,hl,rfl,rfl,rfl,e4,e5,e6⟩:=h
 have n6:=hF.n6
 refine ⟨p,A,X,f,O,m,rfl,hF,hl,by omega,fun q A' f' O' H' hq hF' hl' en ek ep el oO oB oM oL S=>k q (Own q A' O') H' ⟨A',f',O',m+A.n,hF',by omega,hl',en,ek,ep,e4,by omega,fun c=>Iff.rfl⟩ (fun c w=>?_) S⟩
 rcases w with z | z | ⟨j,hj,z⟩ | ⟨j,hj,z⟩ | z | z
 ·rw [z]; exact hq
 ·rw [z]; exact oM
 ·rw [z]; exact oB j (by rw [<- en]; exact hj)
 ·exact oO j c (by rw [<- en]; exact hj) z
 ·exact oL c (.inr (.inl z))
 ·exact oL c (.inr (.inr (.inl z)))
structure ylf (G:Hp) (r c w g:Addr) (n:Nat) (ps:Nat->List Int) (X:FX):Prop where
 r:G r=some (.lst [.ref c,.int (ysm X.ws (X.cs (fa0 n ps))),.ref w,.int X.nd,.ref g])
 c:G c=some (.lst ((X.cs (fa0 n ps)).map V.int))
 w:G w=some (.lst (X.ws.map V.int))
 g:G g=some (.lst (X.sg.map V.int))
def dTd (n:Nat) (ps:Nat->List Int) (X:FX):List PyData:=[.list ((X.cs (fa0 n ps)).map PyData.int),.int (ysm X.ws (X.cs (fa0 n ps))),.list (X.ws.map PyData.int),.int X.nd,.list (X.sg.map PyData.int)]
theorem ylf.sd {K:W.Frag} {G:Hp} {r c w g:Addr} {n:Nat} {ps:Nat->List Int} {X:FX} (h:ylf G r c w g n ps X):Sd K G (.ref r) (.list (dTd n ps X)) 2 :=
 Sd.lst (SqL.of h.r) (.cons (Sd.lst (SqL.of h.c) (Sds.ints _)) (.cons (Sd.int _) (.cons (Sd.lst (SqL.of h.w) (Sds.ints _)) (.cons (Sd.int _) (.cons (Sd.lst (SqL.of h.g) (Sds.ints _)) .nil)))))
def ysl (r c w g:Addr):Addr->Prop:=fun x=>x=r\/x=c\/x=w\/x=g
theorem ylf.mv {G G':Hp} {r c w g:Addr} {n:Nat} {ps:Nat->List Int} {X:FX} (h:ylf G r c w g n ps X) (S:∀ x o,ysl r c w g x->G x=some o->G' x=some o):ylf G' r c w g n ps X :=
 ⟨S _ _ (.inl rfl) h.r,S _ _ (.inr (.inl rfl)) h.c,S _ _ (.inr (.inr (.inl rfl))) h.w,S _ _ (.inr (.inr (.inr rfl))) h.g⟩
theorem ylf.live {G:Hp} {r c w g:Addr} {n:Nat} {ps:Nat->List Int} {X:FX} (h:ylf G r c w g n ps X):∀ x,ysl r c w g x->∃ o,G x=some o:=fun x hx=>by
 rcases hx with z | z | z | z
 ·exact ⟨_,by rw [z]; exact h.r⟩
 ·exact ⟨_,by rw [z]; exact h.c⟩
 ·exact ⟨_,by rw [z]; exact h.w⟩
 ·exact ⟨_,by rw [z]; exact h.g⟩
theorem yp8:ym ["_law_foreteller"] ["_law_foreteller"] (yg ym9):=⟨rfl,rfl,rfl,by decide +kernel,rfl,by decide +kernel,by decide +kernel⟩
def yi9 (K:W.Frag) (a:Ads):Sp:=fun vs H Q _=>∃ (p:Addr) (n:Nat) (kd:Nat->Fin 3) (ps:Nat->List Int) (X:FX) (M:Nat) (W:Addr->Prop),vs=[.ref p]/\FW K a H p n kd ps X M W /\
 ∀ r c w g H',(∀ x,ysl r c w g x->H x=none)->ylf H' r c w g n ps X->y6 H H'->Q (.ref r) H'
theorem xq (T:Txt K mg a):we P w K mg base CX0 4 a.f_q49 a.d_q49 ["_law_foreteller"] (yi9 K a):=by
 refine T.y_q49.F.ok yp8 (fun vs H Q E h=>?_) (fun cdv A outer s H vs Q E hr h=>?_)
 ·obtain ⟨p,n,kd,ps,X,M,W,rfl,_⟩:=h
  rfl
 ·obtain ⟨p,n,kd,ps,X,M,W,rfl,⟨A',f,O,m,hF,_,_,rfl,rfl,rfl,_⟩,k⟩:=h
  have hp:=hF.me
  refine ⟨_,(yf (yy (zx (yc (yx (pv 0) T.cl_Ft T.y_q37.m (yew T) (hr.mono (by decide)) T.y_q37.B .nil yu) (yc (yx (pv 0) T.cl_Ft T.y_q38.m (ykw T) (hr.mono (by decide)) T.y_q38.B .nil yu) (yc (yx (pv 0) T.cl_Ft T.y_q39.m (ykp T) (hr.mono (by decide)) T.y_q39.B .nil yu) (yc (yx (pv 0) T.cl_Ft T.y_q40.m (yk4 T) (hr.mono (by decide)) T.y_q40.B .nil yu) (yc (yx (pv 0) T.cl_Ft T.y_q41.m (ykt T) (hr.mono (by decide)) T.y_q41.B .nil yu) ye (yb rfl)) (yb rfl)) (yb rfl)) (yb rfl)) (yb rfl))))),?_⟩
  try dsimp only [v7]
  refine yo (σ':=[some _]) rfl ?_
  walk_at "rd"
  refine ⟨p,A',X,f,O,m,rfl,hF,fun c H1 hc0 hc1 S1=>?_⟩
  have hF1:=hF.same S1
  have hp1:=hF1.me
  walk_at "rd"
  refine ⟨p,A',X,f,O,m,rfl,hF1,fun H2 S2=>?_⟩
  have hF2:=hF1.same S2
  have hp2:=hF2.me
  walk_at "rd"
  refine ⟨p,A',X,f,O,m,rfl,hF2,fun w H3 hw0 hw1 S3=>?_⟩
  have hF3:=hF2.same S3
  have hp3:=hF3.me
  walk_at "rd"
  refine ⟨p,A',X,f,O,m,rfl,hF3,?_⟩
  walk_at "rd"
  refine ⟨p,A',X,f,O,m,rfl,hF3,fun g H4 hg0 hg1 S4=>?_⟩
  walk_at "rd"
  refine ⟨by walk_at "len",fun r hr0=>?_⟩
  with_reducible first | refine vg hr0 fun H5 S5 er=>?_ | refine vy hr0 fun H5 S5 er=>?_
  have S12:=S1.trans S2
  have S13:=S12.trans S3
  have S14:=S13.trans S4
  refine k r c w g H5 (fun x hx=>?_) ⟨er,S5 _ _ (S4 _ _ (S3 _ _ (S2 _ _ hc1))),S5 _ _ (S4 _ _ hw1),S5 _ _ hg1⟩ (S14.trans S5)
  rcases hx with z | z | z | z
  ·rw [z]; exact S14.free hr0
  ·rw [z]; exact hc0
  ·rw [z]; exact S12.free hw0
  ·rw [z]; exact S13.free hg0
theorem yia:ym ["_law_foreteller","_law_cell","_law_k","_law_question"] ["_law_foreteller","_law_cell"] (yg ynh):=⟨rfl,rfl,rfl,by decide +kernel,rfl,by decide +kernel,by decide +kernel⟩
def ymt (K:W.Frag) (a:Ads):Sp:=fun vs H Q _=>∃ (p:Addr) (c:Int) (n:Nat) (kd:Nat->Fin 3) (ps:Nat->List Int) (X:FX) (M:Nat) (W:Addr->Prop),vs=[.ref p,.int c]/\FW K a H p n kd ps X M W/\X.sg.length <= 1000/\∀ H',y6 H H'->Q .non H'
theorem ykd (T:Txt K mg a):we P w K mg base CX0 4 a.f_q50 a.d_q50 ["_law_foreteller","_law_cell"] (ymt K a):=by
 refine T.y_q50.F.ok yia (fun vs H Q E h=>?_) (fun cdv A outer s H vs Q E hr h=>?_)
 ·obtain ⟨p,c,n,kd,ps,X,M,W,rfl,_⟩:=h
  rfl
 ·obtain ⟨p,c,n,kd,ps,X,M,W,rfl,⟨A',f,O,m,hF,_⟩,hsg,k⟩:=h
  refine ⟨_,(yf (yaz PassesOwn.never rfl (x5 rfl T.z_range (yc (yr x3 (pv 1) yh) ye (yb rfl))) (wu (i:=2) yia.nd rfl (Or.inl rfl)) (yn (vj (i:=3) yia.nd rfl (Or.inl rfl) (yr x3 (yr vo (yr y9 (pv 1) yh) (yr xt (pv 2) (yr vo yh (yr x3 (yr y9 (pv 1) yh) yh)))) yh)) (yf (wt (yz ud (pv 3) yh (y8 _)) (yf (y3 (yjv PySem.F.plainAttrs_list PySem.F.slot_list_append PySem.F.type_list_append ww (yx (pv 0) T.cl_Ft T.y_q37.m (yew T) (hr.mono (by decide)) T.y_q37.B .nil yu) (yc yh ye (yb rfl))))) (yf (wt (yz ud (pv 3) yh (y8 _)) (yf (y3 (yx (pv 0) T.cl_Ft T.y_q38.m (ykw T) (hr.mono (by decide)) T.y_q38.B .nil yu))) (yf (wt (yz ud (pv 3) yh (y8 _)) (yf (y3 (yjv PySem.F.plainAttrs_list PySem.F.slot_list_append PySem.F.type_list_append ww (yx (pv 0) T.cl_Ft T.y_q39.m (ykp T) (hr.mono (by decide)) T.y_q39.B .nil yu) (yc yh ye (yb rfl))))) (yf (wt (yz ud (pv 3) yh (y8 _)) (yf (y3 (yjv PySem.F.plainAttrs_list PySem.F.slot_list_append PySem.F.type_list_append ww (yx (pv 0) T.cl_Ft T.y_q41.m (ykt T) (hr.mono (by decide)) T.y_q41.B .nil yu) (yc yh ye (yb rfl))))) (yf (y3 (yx (pv 0) T.cl_Ft T.y_q40.m (yk4 T) (hr.mono (by decide)) T.y_q40.B .nil yu)))))))))))))),?_⟩
  try dsimp only [v7]
  refine yo (σ':=[some _,some _,none,none]) rfl ?_
  walk_at "rd"
  have c6:0 <= c % 6/\c % 6 < 6:=by omega
  refine ⟨c % 6,rfl,by omega,by omega,j6 (n:=(c % 6).toNat) (fun i σ2 G=>∃ v1 v2:Option V,σ2=[some (.ref p),some (.int c),v1,v2]/\y6 H G) ⟨_,_,rfl,y6.refl _⟩ ?_ ?_⟩
  ·rintro i σ2 G hi ⟨v1,v2,rfl,S⟩
   have hFG:=hF.same S
   have hpG:=hFG.me
   have hi6:(i:Int) < 6:=by omega
   have n6:=hF.n6
   rw [show (0:Int)+(i:Int)=i by omega]
   walk_at "rd"
   refine z5 (fun q0=>?_) (fun q0=>?_)
   ·walk_at "rd"
    refine ⟨p,A',X,f,O,m,rfl,hFG,fun r G1 hr0 hr1 S1=>?_⟩
    walk_at "rd"
    refine yjp hr1 ?_
    walk_at "rd"
    refine z6 hr1 (vf (by rw [List.length_map]; unfold FX.cs; rw [List.length_map,List.length_range]; omega)) ?_
    walk_at "rd"
    exact ⟨_,_,rfl,fun b o e=>yj (yd (S _ _ e) hr0) (S1 _ _ (S _ _ e))⟩
   walk_at "rd"
   refine z5 (fun q1=>?_) (fun q1=>?_)
   ·walk_at "rd"
    refine ⟨p,A',X,f,O,m,rfl,hFG,fun G1 S1=>?_⟩
    walk_at "rd"
    exact ⟨_,_,rfl,S.trans S1⟩
   walk_at "rd"
   refine z5 (fun q2=>?_) (fun q2=>?_)
   ·walk_at "rd"
    refine ⟨p,A',X,f,O,m,rfl,hFG,fun r G1 hr0 hr1 S1=>?_⟩
    walk_at "rd"
    refine yjp hr1 ?_
    walk_at "rd"
    refine z6 hr1 (vf (by rw [List.length_map,hF.wok.len]; omega)) ?_
    walk_at "rd"
    exact ⟨_,_,rfl,fun b o e=>yj (yd (S _ _ e) hr0) (S1 _ _ (S _ _ e))⟩
   walk_at "rd"
   refine z5 (fun q3=>?_) (fun q3=>?_)
   ·walk_at "rd"
    refine ⟨p,A',X,f,O,m,rfl,hFG,fun r G1 hr0 hr1 S1=>?_⟩
    walk_at "rd"
    refine yjp hr1 ?_
    walk_at "rd"
    refine z6 hr1 (vf (by rw [List.length_map]; omega)) ?_
    walk_at "rd"
    exact ⟨_,_,rfl,fun b o e=>yj (yd (S _ _ e) hr0) (S1 _ _ (S _ _ e))⟩
   walk_at "rd"
   refine ⟨p,A',X,f,O,m,rfl,hFG,?_⟩
   walk_at "rd"
   exact ⟨_,_,rfl,S⟩
  ·rintro σ2 G ⟨v1,v2,rfl,S⟩
   walk_at "rd"
   exact k _ S
theorem yj8:ym ["_law_foreteller","_law_bits","_law_bit"] ["_law_foreteller","_law_bits"] (yg ynj):=⟨rfl,rfl,rfl,by decide +kernel,rfl,by decide +kernel,by decide +kernel⟩
def ylj (K:W.Frag) (a:Ads):Sp:=fun vs H Q _=>∃ (p bl:Addr) (n:Nat) (kd:Nat->Fin 3) (ps:Nat->List Int) (X:FX) (M:Nat) (W:Addr->Prop) (bs:List Int),vs=[.ref p,.ref bl]/\FW K a H p n kd ps X M W/\H bl=some (.lst (bs.map V.int))/\¬ W bl/\(∀ b∈bs,0 <= b/\b <= 1)/\M+6 * bs.length+20 < 100000 /\
 ∀ W' H',FW K a H' p n kd ps (X.run (fa0 n ps) bs) (M+6 * bs.length) W'->Go W H H' W'->Q .non H'
theorem yez (T:Txt K mg a):we P w K mg base CX0 7 a.f_q51 a.d_q51 ["_law_foreteller","_law_bits"] (ylj K a):=by
 refine T.y_q51.F.ok yj8 (fun vs H Q E h=>?_) (fun cdv A outer s H vs Q E hr h=>?_)
 ·obtain ⟨p,bl,n,kd,ps,X,M,W,bs,rfl,_⟩:=h
  rfl
 ·obtain ⟨p,bl,n,kd,ps,X,M,W,bs,rfl,hF,hbl,nbl,hbs,hM,k⟩:=h
  refine ⟨_,(yf (yaz PassesOwn.never rfl (wx (pv 1)) (wu (i:=2) yj8.nd rfl (Or.inl rfl)) (yf (y3 (uv (pv 0) T.cl_Ft T.y_q42.m (yh4 T) (hr.mono (by decide)) T.y_q42.B .nil yu (yc (pv 2) ye (yb rfl))))))),?_⟩
  try dsimp only [v7]
  refine yo (σ':=[some _,some _,none]) rfl ?_
  walk_at "rd"
  refine ⟨bl,rfl,⟨_,SqL.of hbl⟩,yei (K:=K) (a:=bl) (xs:=bs.map V.int) (fun i σ2 G=>∃ (v:Option V) (Wi:Addr->Prop),σ2=[some (.ref p),some (.ref bl),v]/\FW K a G p n kd ps (X.run (fa0 n ps) (bs.take i)) (M+6 * i) Wi/\Go W H G Wi)
   ⟨_,W,rfl,hF,Go.refl⟩ (fun i σ2 G _ ⟨_,_,_,_,go⟩=>SqL.of (go.fr _ _ hbl nbl)) ?_ ?_⟩
  ·rintro i y σ2 G hy ⟨v,Wi,rfl,hFi,goi⟩
   obtain ⟨b,rfl,hbm,hb,hj⟩:=uo hy
   obtain ⟨b0,b1⟩:=hbs b hbm
   obtain ⟨A',f,O,m,hA,_⟩:=id hFi
   have hp1:=hA.me
   walk_at "rd"
   refine hFi.see b0 b1 (by omega) fun W' G' hF' go'=>?_
   walk_at "rd"
   refine ⟨_,W',rfl,?_,goi.trans go'⟩
   rw [List.take_add_one,hb]
   show FW K a G' p n kd ps (X.run (fa0 n ps) (bs.take i++[b])) _ W'
   rw [ybv]
   exact hF'
  ·rintro σ2 G ⟨v,Wi,rfl,hFi,goi⟩
   rw [List.length_map] at hFi
   rw [List.take_length] at hFi
   walk_at "rd"
   exact k Wi G hFi goi
theorem xk:ym ["_law_script","_law_looks_here","_law_many","_law_bits","_law_at","_law_asked","_law_k","_law_fork","_law_other","_law_kept","_law_still","_law_due"] ["_law_script"] (yg yol):=⟨rfl,rfl,rfl,by decide +kernel,rfl,by decide +kernel,by decide +kernel⟩
def ye8 (K:W.Frag):Sp:=fun vs H Q _=>∃ (l:Addr) (ns:List Int),vs=[.ref l]/\SqL K H l (ns.map V.int)/\ns.length <= 63/\∀ H',Q (.bl true) H'
theorem yo0 (T:Txt K mg a):we P w K mg base CX0 9 a.f_law a.d_law ["_law_script"] (ye8 K):=by
 refine T.y_law.F.ok xk (fun vs H Q E h=>?_) (fun cdv A outer s H vs Q E hr h=>?_)
 ·obtain ⟨l,ns,rfl,_⟩:=h
  rfl
 ·obtain ⟨l,ns,rfl,hS,hlen,k⟩:=h
  refine yk (vj (i:=1) xk.nd rfl (Or.inl rfl) (yw (ypm T) (hr.mono (by decide)) rfl T.y_q48.m T.y_q48.F.kp T.y_q48.B .nil yu (yc (pv 0) ye (yb rfl)))) ?_
  refine yk (vj (i:=2) xk.nd rfl (Or.inl rfl) (yv (j4 rfl) rfl T.z_min (by decide +kernel) (yc yh (yc (yr xt yh (yv (j5 rfl) rfl T.z_max (by decide +kernel) (yc yh (yc (yr uc (yv ve rfl T.z_len (by decide +kernel) (yc (pv 0) ye (yb rfl))) yh) ye (yb rfl)) (yb rfl)))) ye (yb rfl)) (yb rfl)))) ?_
  refine yk (yer (i:=3) (js:=[0]) (ys:=["_law_script"]) xk.nd rfl rfl rfl (x5 rfl T.z_range (yc (pv 2) ye (yb rfl))) (fun C s2 H2 fp=>(yr x3 (yr y9 (yw (yaf T) (hr.mono (by decide)) rfl T.y_q46.m T.y_q46.F.kp T.y_q46.B .nil yu (yc (pv 1) (yc (yr vo yh (yr y9 (pv 0) yh)) ye (yb rfl)) (yb rfl))) (yal (r:=ysj K) zr (zx (yc yh (yc yh (yc yh ye (yb rfl)) (yb rfl)) (yb rfl))) (yr x3 (pv 0) yh) (fun _ _=>rfl))) yh)) rfl rfl (hyc:=(all_cons rfl vn)) (hrel:=(all_cons rfl vn))) ?_
  refine yk (vj (i:=4) xk.nd rfl (Or.inl rfl) (yr x3 (yr y9 (yw (yaf T) (hr.mono (by decide)) rfl T.y_q46.m T.y_q46.F.kp T.y_q46.B .nil yu (yc (pv 0) (yc yh ye (yb rfl)) (yb rfl))) yh) (yr vo (pv 2) yh))) ?_
  refine yk (vj (i:=5) xk.nd rfl (Or.inl rfl) (ja T.k_Ft (ye5 T) (hr.mono (by decide)) rfl T.m_Ft T.y_q35.B .nil wv (yc (v9 vi rfl T.z_list (by decide +kernel) (yc (pv 1) ye (yb rfl))) ye (yb rfl)))) ?_
  refine yk (yaz PassesOwn.never rfl (x5 rfl T.z_range (yc (pv 4) ye (yb rfl))) (wu (i:=6) xk.nd rfl (Or.inl rfl)) (yn (y3 (yw (ykd T) (hr.mono (by decide)) rfl T.y_q50.m T.y_q50.F.kp T.y_q50.B .nil yu (yc (pv 5) (yc (yr vo (yr y9 (yw (yaf T) (hr.mono (by decide)) rfl T.y_q46.m T.y_q46.F.kp T.y_q46.B .nil yu (yc (pv 0) (yc (yr vo yh (yr y9 (pv 6) yh)) ye (yb rfl)) (yb rfl))) yh) (pv 6)) ye (yb rfl)) (yb rfl)))) (yf (y3 (uv (pv 5) T.cl_Ft T.y_q42.m (yh4 T) (hr.mono (by decide)) T.y_q42.B .nil yu (yc (yal zr (pv 3) (pv 6) (fun _ _=>rfl)) ye (yb rfl))))))) ?_
  refine yk (vj (i:=7) xk.nd rfl (Or.inl rfl) (yx (pv 5) T.cl_Ft T.y_q45.m (yh6 T) (hr.mono (by decide)) T.y_q45.B .nil yu)) ?_
  refine yk (vj (i:=8) xk.nd rfl (Or.inl rfl) (yx (pv 5) T.cl_Ft T.y_q45.m (yh6 T) (hr.mono (by decide)) T.y_q45.B .nil yu)) ?_
  refine yk (wt (PW.pt (yag (x0 (ur (yv vq rfl T.z_isinstance (by decide +kernel) (yc (pv 7) (yc (yd6 rfl T.m_Ft) ye (yb rfl)) (yb rfl))))) (j8 (x0 (ur (yv vq rfl T.z_isinstance (by decide +kernel) (yc (pv 8) (yc (yd6 rfl T.m_Ft) ye (yb rfl)) (yb rfl)))))))) (yf (yy yf9)) vw) ?_
  refine yk (vj (i:=9) xk.nd rfl (Or.inl rfl) (yw (xq T) (hr.mono (by decide)) rfl T.y_q49.m T.y_q49.F.kp T.y_q49.B .nil yu (yc (pv 5) ye (yb rfl)))) ?_
  refine yk (wt (PW.pt (yag (yz (zy hr.units) (yw (xq T) (hr.mono (by decide)) rfl T.y_q49.m T.y_q49.F.kp T.y_q49.B .nil yu (yc (pv 7) ye (yb rfl))) (pv 9) (y8 _)) (j8 (yz (zy hr.units) (yw (xq T) (hr.mono (by decide)) rfl T.y_q49.m T.y_q49.F.kp T.y_q49.B .nil yu (yc (pv 8) ye (yb rfl))) (pv 9) (y8 _))))) (yf (yy yf9)) vw) ?_
  refine yk (y3 (yw (yez T) (hr.mono (by decide)) rfl T.y_q51.m T.y_q51.F.kp T.y_q51.B .nil yu (yc (pv 8) (yc (ua rfl (wx (xw zq (pv 3) (uw (pv 4)) uy)) (fun C s2 H2 fp=>(yr uc yh (pv 0)))) ye (yb rfl)) (yb rfl)))) ?_
  refine yk (wt (PW.pt (yag (yz (zy hr.units) (yw (xq T) (hr.mono (by decide)) rfl T.y_q49.m T.y_q49.F.kp T.y_q49.B .nil yu (yc (pv 5) ye (yb rfl))) (pv 9) (y8 _)) (j8 (yz (zy hr.units) (yw (xq T) (hr.mono (by decide)) rfl T.y_q49.m T.y_q49.F.kp T.y_q49.B .nil yu (yc (pv 7) ye (yb rfl))) (pv 9) (y8 _))))) (yf (yy yf9)) vw) ?_
  refine yk (yaz PassesOwn.never rfl (yg9 rfl T.z_range (yc (pv 4) (yc (pv 2) ye (yb rfl)) (yb rfl))) (wu (i:=6) xk.nd rfl (Or.inl rfl)) (yn (y3 (yw (ykd T) (hr.mono (by decide)) rfl T.y_q50.m T.y_q50.F.kp T.y_q50.B .nil yu (yc (pv 5) (yc (yr vo (yr y9 (yw (yaf T) (hr.mono (by decide)) rfl T.y_q46.m T.y_q46.F.kp T.y_q46.B .nil yu (yc (pv 0) (yc (yr vo yh (yr y9 (pv 6) yh)) ye (yb rfl)) (yb rfl))) yh) (pv 6)) ye (yb rfl)) (yb rfl)))) (yf (y3 (uv (pv 5) T.cl_Ft T.y_q42.m (yh4 T) (hr.mono (by decide)) T.y_q42.B .nil yu (yc (yal zr (pv 3) (pv 6) (fun _ _=>rfl)) ye (yb rfl))))))) ?_
  refine yk (ye7 (wt (PW.pt (yq5 (yz yne (pv 4) (pv 2) (y8 _)) (ylv (yz (zy hr.units) (yw (xq T) (hr.mono (by decide)) rfl T.y_q49.m T.y_q49.F.kp T.y_q49.B .nil yu (yc (pv 7) ye (yb rfl))) (pv 9) (y8 _))))) (yf (yy yf9)) vw)) ?_
  refine yk (y3 (yw (yez T) (hr.mono (by decide)) rfl T.y_q51.m T.y_q51.F.kp T.y_q51.B .nil yu (yc (pv 7) (yc (xw zq (pv 3) (uw (pv 4)) uy) ye (yb rfl)) (yb rfl)))) ?_
  refine yk (vj (i:=10) xk.nd rfl (Or.inl rfl) (ja T.k_Ft (ye5 T) (hr.mono (by decide)) rfl T.m_Ft T.y_q35.B .nil wv (yc (v9 vi rfl T.z_list (by decide +kernel) (yc (pv 1) ye (yb rfl))) ye (yb rfl)))) ?_
  refine yk (y3 (yw (yez T) (hr.mono (by decide)) rfl T.y_q51.m T.y_q51.F.kp T.y_q51.B .nil yu (yc (pv 10) (yc (pv 3) ye (yb rfl)) (yb rfl)))) ?_
  refine yk (vj (i:=11) xk.nd rfl (Or.inl rfl) (yw (xq T) (hr.mono (by decide)) rfl T.y_q49.m T.y_q49.F.kp T.y_q49.B .nil yu (yc (pv 10) ye (yb rfl)))) ?_
  refine yk (wt (PW.pt (yag (yz (zy hr.units) (yw (xq T) (hr.mono (by decide)) rfl T.y_q49.m T.y_q49.F.kp T.y_q49.B .nil yu (yc (pv 5) ye (yb rfl))) (pv 11) (y8 _)) (yag (yz (zy hr.units) (yw (xq T) (hr.mono (by decide)) rfl T.y_q49.m T.y_q49.F.kp T.y_q49.B .nil yu (yc (pv 7) ye (yb rfl))) (pv 11) (y8 _)) (j8 (yz (zy hr.units) (yw (xq T) (hr.mono (by decide)) rfl T.y_q49.m T.y_q49.F.kp T.y_q49.B .nil yu (yc (yx (pv 7) T.cl_Ft T.y_q45.m (yh6 T) (hr.mono (by decide)) T.y_q45.B .nil yu) ye (yb rfl))) (pv 11) (y8 _)))))) (yf (yy yf9)) vw) ?_
  refine yk (vj (i:=10) xk.nd rfl (Or.inl rfl) (ja T.k_Ft (ye5 T) (hr.mono (by decide)) rfl T.m_Ft T.y_q35.B .nil wv (yc (v9 vi rfl T.z_list (by decide +kernel) (yc (pv 1) ye (yb rfl))) ye (yb rfl)))) ?_
  refine yk (y3 (yw (yez T) (hr.mono (by decide)) rfl T.y_q51.m T.y_q51.F.kp T.y_q51.B .nil yu (yc (pv 10) (yc (yr yk5 (xw zq (pv 3) uy (uw (pv 4))) (ua rfl (wx (xw zq (pv 3) (uw (pv 4)) uy)) (fun C s2 H2 fp=>(yr uc yh (pv 0))))) ye (yb rfl)) (yb rfl)))) ?_
  refine ⟨_,(yf (yy (zi (j7 (ykf hr.units) (yw (xq T) (hr.mono (by decide)) rfl T.y_q49.m T.y_q49.F.kp T.y_q49.B .nil yu (yc (pv 8) ye (yb rfl))) (yw (xq T) (hr.mono (by decide)) rfl T.y_q49.m T.y_q49.F.kp T.y_q49.B .nil yu (yc (pv 10) ye (yb rfl))) (y8 _)) (j9 (j7 (ykf hr.units) (yw (xq T) (hr.mono (by decide)) rfl T.y_q49.m T.y_q49.F.kp T.y_q49.B .nil yu (yc (pv 5) ye (yb rfl))) (pv 11) (y8 _)))))),?_⟩
  try dsimp only [v7]
  refine yo (σ':=[some _,none,none,none,none,none,none,none,none,none,none,none]) rfl ?_
  walk_at "rd"
  refine ⟨l,ns,rfl,hS,fun L n lk kd tp ps H1 hL0 hL1 n1 n6 hR1 S1=>?_⟩
  walk_at "rd"
  refine yea (S1.seq hS) ?_
  rw [List.length_map]
  walk_at "rd"
  refine ⟨1,(ns.length:Int) - 8,rfl,?_⟩
  obtain ⟨x,hx,x1,x2⟩:∃ x:Int,(if (1:Int) < (ns.length:Int) - 8 then (ns.length:Int) - 8 else 1)=x/\1 <= x/\x <= 55:=⟨_,rfl,by split <;> omega,by split <;> omega⟩
  rw [hx]
  walk_at "rd"
  refine ⟨30,3 * x,rfl,?_⟩
  obtain ⟨N,hN,N1,N30⟩:∃ N:Nat,(if 3 * x < 30 then 3 * x else 30)=(N:Int)/\1 <= N/\N <= 30:=by
   refine ⟨(if 3 * x < 30 then 3 * x else 30).toNat,?_,?_,?_⟩ <;> split <;> omega
  rw [hN]
  walk_at "rd"
  refine ⟨N,rfl,by omega,by omega,fun D hD=>?_⟩
  refine jv (n:=((N:Nat):Int).toNat) (fun i G=>∃ bs:List Int,bs.length=i/\(∀ b∈bs,0 <= b/\b <= 1)/\G D=some (.lst (bs.map V.int))/\y6 H1 G) ⟨[],rfl,fun _ z=>(nomatch z),ya,y1 hD⟩ (fun i G hi z=>?_) (fun HB z=>?_)
  ·obtain ⟨bs,hbl,hbs,gD,SG⟩:=z
   show tOp _ _ _ (some (V.int (0+(i:Int))) :: [some (V.ref l)]) G _
   rw [show (0:Int)+(i:Int)=(i:Int) by omega]
   walk_at "rd"
   rw [show (8:Int)+(i:Int) / 3=((8+i / 3:Nat):Int) by omega]
   refine ⟨l,ns,8+i / 3,rfl,(S1.trans SG).seq hS,fun c=>?_⟩
   walk_at "rd"
   refine ⟨by walk_at "len",fun q hq=>?_⟩
   with_reducible first | refine vg hq fun G1 T1 eq1=>?_ | refine vy hq fun G1 T1 eq1=>?_
   walk_at "rd"
   obtain ⟨v,hv,hav⟩:=ymm (xs:=[V.int 1,V.int 2,V.int 4]) (i:=(i:Int) % 3) (Int.emod_nonneg _ (by decide)) (by show _ < (3:Int); exact Int.emod_lt_of_pos _ (by decide))
   refine yif (SqL.of eq1) hav ?_
   obtain ⟨dv,rfl,d0,d4⟩:∃ dv:Int,v=.int dv/\0 < dv/\dv <= 4:=by
    simp only [List.mem_cons,List.not_mem_nil,or_false] at hv
    rcases hv with rfl | rfl | rfl
    ·exact ⟨1,rfl,by decide,by decide⟩
    ·exact ⟨2,rfl,by decide,by decide⟩
    ·exact ⟨4,rfl,by decide,by decide⟩
   refine ⟨c,dv,rfl,rfl,⟨d0,Int.lt_of_le_of_lt d4 (by decide)⟩,?_⟩
   walk_at "rd"
   have gD1:=T1 _ _ gD
   have xb:0 <= c / dv % 2/\c / dv % 2 <= 1:=by omega
   generalize c / dv % 2=b at xb
   refine ⟨_,gD1,vf (by rw [List.length_map]; omega),((N:Nat):Int).toNat - (i+1),by omega,rfl,by omega,bs++[b],by rw [List.length_append,hbl]; rfl,fun y hy=>?_,?_,fun c' o e=>yj (yd e hD) (T1 _ _ (SG _ _ e))⟩
   ·rcases List.mem_append.mp hy with w | w
    ·exact hbs y w
    ·rw [List.mem_singleton.mp w]
     exact xb
   ·rw [ya,List.map_append]
    rfl
  obtain ⟨bs,hbl,hbs,hDB,SB⟩:=z
  rw [show ((N:Nat):Int).toNat=N by omega] at hbl
  have SB0:=S1.trans SB
  have hLB:=SB _ _ hL1
  have hRB:=hR1.same SB
  walk_at "rd"
  refine ⟨l,ns,7,rfl,SB0.seq hS,fun c7=>?_⟩
  walk_at "rd"
  obtain ⟨t,ht,t1⟩:∃ t:Nat,c7 / 3 % ((N:Int)+1)=(t:Int)/\t <= N:=by
   have h1:=Int.emod_nonneg (c7 / 3) (show (N:Int)+1≠0 by omega)
   have h2:=Int.emod_lt_of_pos (c7 / 3) (show 0 < (N:Int)+1 by omega)
   exact ⟨(c7 / 3 % ((N:Int)+1)).toNat,by omega,by omega⟩
  rw [ht]
  walk_at "rd"
  refine xi (SqL.of hLB) fun L1 hL10=>?_
  with_reducible first | refine vg hL10 fun H2 S2 eL1=>?_ | refine vy hL10 fun H2 S2 eL1=>?_
  walk_at "rd"
  intro pA dA npA ndA neA
  refine FW.new npA ndA eL1 n1 n6 (hRB.same S2) fun WA H3 hFA nWA S3=>⟨rfl,?_⟩
  have SB3:=S2.trans S3
  have nWA:∀ c,WA c->HB c=none:=fun c w=>S2.free (nWA c w)
  have bit:∀ {G:Hp} {Q:VK} {j:Nat} {b:Int},y6 HB G->bs[j]?=some b->Q (.int b) G->ysj K (.ref D) (.int (j:Int)) G Q:=fun S hb h=>yif (SqL.of (S _ _ hDB)) (ux (by rw [List.getElem?_map,hb]; rfl)) h
  walk_at "rd"
  refine ⟨t,rfl,by omega,by omega,j6 (n:=((t:Nat):Int).toNat) (fun i σ2 G=>∃ (v:Option V) (W:Addr->Prop),σ2=[some (.ref l),some (.ref L),some (.int N),some (.ref D),some (.int t),some (.ref pA),v,none,none,none,none,none]/\FW K a G pA n kd ps ((FX0 n kd).run (fa0 n ps) (bs.take i)) (6+6 * i) W/\y6 HB G/\∀ c,W c->HB c=none) ⟨_,WA,rfl,hFA,SB3,nWA⟩ ?_ ?_⟩
  ·rintro i σ2 G hi ⟨v,W,rfl,hF,SG,nW⟩
   have hit:i < t:=by omega
   rw [show (0:Int)+(i:Int)=(i:Int) by omega]
   have hb:bs[i]?=some (bs[i]'(by omega)):=List.getElem?_eq_getElem _
   obtain ⟨b0,b1⟩:=hbs _ (List.getElem_mem (show i < bs.length by omega))
   obtain ⟨A',f',O',m',hA,_⟩:=id hF
   walk_at "rd"
   rw [show (8:Int)+(i:Int) / 3=((8+i / 3:Nat):Int) by omega]
   refine ⟨l,ns,8+i / 3,rfl,(SB0.trans SG).seq hS,fun c=>?_⟩
   walk_at "rd"
   obtain ⟨_,_,_,_,_,_,_,_,_,_,_,hsg,_⟩:=id hF
   refine ⟨pA,_,n,kd,ps,_,_,W,rfl,hF,by omega,fun G1 T1=>?_⟩
   have hp1:=(hA.same T1).me
   walk_at "rd"
   refine bit (SG.trans T1) hb ?_
   walk_at "rd"
   refine (hF.same T1).see b0 b1 (by omega) fun W' G2 hF2 go2=>?_
   obtain ⟨SG2,nW2⟩:=go2.bs (SG.trans T1) nW
   walk_at "rd"
   refine ⟨_,W',rfl,?_,SG2,nW2⟩
   rw [List.take_add_one,hb]
   show FW K a G2 pA n kd ps ((FX0 n kd).run (fa0 n ps) (bs.take i++[bs[i]])) _ W'
   rw [ybv]
   exact hF2
  rintro σ2 H4 ⟨v,WA,rfl,hFA,SB4,nWA⟩
  rw [show ((t:Nat):Int).toNat=t by omega] at hFA
  obtain ⟨A',f',O',m',hA4,_⟩:=id hFA
  have hp4:=hA4.me
  generalize hXt:(FX0 n kd).run (fa0 n ps) (bs.take t)=Xt at hFA hA4
  walk_at "rd"
  refine hFA.fork (by omega) fun pF WF H5 hFF nWF S5=>?_
  have hFA5:=hFA.same S5
  have SB5:=SB4.trans S5
  have nWF':∀ c,WF c->HB c=none:=fun c w=>SB4.free (nWF c w)
  have djFA:∀ c,WF c->¬ WA c:=fun c w1 w2=>by
   obtain ⟨o,e⟩:=hFA.live c w2
   rw [nWF c w1] at e
   cases e
  have hp5:=(hA4.same S5).me
  walk_at "rd"
  refine hFA5.fork (by omega) fun pO WO H6 hFO nWO S6=>?_
  have hFA6:=hFA5.same S6
  have hFF6:=hFF.same S6
  have SB6:=SB5.trans S6
  have nWO':∀ c,WO c->HB c=none:=fun c w=>SB5.free (nWO c w)
  have djOA:∀ c,WO c->¬ WA c:=fun c w1 w2=>by
   obtain ⟨o,e⟩:=hFA5.live c w2
   rw [nWO c w1] at e
   cases e
  have djOF:∀ c,WO c->¬ WF c:=fun c w1 w2=>by
   obtain ⟨o,e⟩:=hFF.live c w2
   rw [nWO c w1] at e
   cases e
  obtain ⟨AF,fF,OF,mF,hAF,_⟩:=id hFF6
  have hpF6:=hAF.me
  obtain ⟨AO,fO,OO,mO,hAO,_⟩:=id hFO
  have hpO6:=hAO.me
  walk_at "rd"
  refine yrt (ysf T hpF6) T.iki_Ft_Ft ?_
  walk_at "rd"
  refine yrt (ysf T hpO6) T.iki_Ft_Ft ?_
  walk_at "rd"
  refine ⟨pA,n,kd,ps,Xt,_,WA,rfl,hFA6,fun kr kc kw kg H7 hk0 hk7 S7=>?_⟩
  have hFA7:=hFA6.same S7
  have hFF7:=hFF6.same S7
  have hFO7:=hFO.same S7
  have SB7:=SB6.trans S7
  have djK:∀ {W:Addr->Prop},(∀ c,W c->∃ o,H6 c=some o)->∀ c,ysl kr kc kw kg c->¬ W c:=fun lv c w1 w2=>by
   obtain ⟨o,e⟩:=lv c w2
   rw [hk0 c w1] at e
   cases e
  have dkA:=djK hFA6.live
  have dkF:=djK hFF6.live
  have dkO:=djK hFO.live
  walk_at "rd"
  refine ⟨pF,n,kd,ps,Xt,_,WF,rfl,hFF7,fun r1 c1 w1 g1 H8 _ td8 S8=>?_⟩
  have hk8:=hk7.mv fun x o _ e=>S8 x o e
  walk_at "rd"
  refine yan td8.sd hk8.sd (by decide) ?_
  walk_at "rd"
  refine ⟨pO,n,kd,ps,Xt,_,WO,rfl,hFO7.same S8,fun r2 c2 w2 g2 H9 _ td9 S9=>?_⟩
  have S79:=S8.trans S9
  have hk9:=hk7.mv fun x o _ e=>S79 x o e
  walk_at "rd"
  refine yan td9.sd hk9.sd (by decide) ?_
  have SB9:=SB7.trans S79
  have hFA9:=hFA7.same S79
  have hFF9:=hFF7.same S79
  have hFO9:=hFO7.same S79
  walk_at "rd"
  refine yga (SqL.of (SB9 _ _ hDB)) fun u hu=>?_
  rw [yts,<- List.map_drop]
  have SA:=y1 (o:=(HO.lst (List.map V.int (List.drop t bs)))) hu
  have eu:upd H9 u (HO.lst (List.map V.int (List.drop t bs))) u=some (HO.lst (List.map V.int (List.drop t bs))):=ya
  generalize upd H9 u (HO.lst (List.map V.int (List.drop t bs)))=HA at SA eu ⊢
  refine ⟨u,rfl,⟨_,SqL.of eu⟩,fun D2 hD2=>?_⟩
  refine yat (xs:=(bs.drop t).map V.int) (onI fun b=>1 - b) (SqL.of eu) hD2 (fun i y G hy SG gD=>?_) (fun HC SC eD2=>?_)
  ·obtain ⟨b,rfl,hbm,hb,hj⟩:=uo hy
   walk_at "rd"
   exact Mp.done hD2 (vf (by rw [List.length_map,List.length_drop]; omega)) hy SG gD rfl
  rw [yby] at eD2
  have S9C:=SA.trans SC
  have SBC:=SB9.trans S9C
  have hdl:(bs.drop t).length=N - t:=by rw [List.length_drop,hbl]
  have hdb:∀ b∈bs.drop t,0 <= b/\b <= 1:=fun b hb=>hbs b (List.mem_of_mem_drop hb)
  have hfb:∀ b∈(bs.drop t).map (fun b=>1 - b),0 <= b/\b <= 1:=fun b hb=>by
   obtain ⟨c,hc,rfl⟩:=List.mem_map.mp hb
   have:=hdb c hc
   omega
  have hfl:((bs.drop t).map (fun b=>1 - b)).length=N - t:=by rw [List.length_map,hdl]
  generalize hfx:(bs.drop t).map (fun b=>1 - b)=fx at eD2 hfb hfl
  walk_at "rd"
  refine ⟨pO,D2,n,kd,ps,Xt,_,WO,fx,rfl,hFO9.same S9C,eD2,fun w=>?_,hfb,by omega,fun WO1 HE hFO1 goO=>?_⟩
  ·obtain ⟨o,e⟩:=(hFO9.same SA).live D2 w
   rw [hD2] at e
   cases e
  have hFAE:=(hFA9.same S9C).frame (hFO9.same S9C) (fun c w z=>djOA c z w) goO
  have hFFE:=(hFF9.same S9C).frame (hFO9.same S9C) (fun c w z=>djOF c z w) goO
  have hkE:=(hk9.mv fun x o _ e=>S9C x o e).mv fun x o hx e=>goO.fr x o e (dkO x hx)
  have dkO1:=goO.apart (hk9.mv fun x o _ e=>S9C x o e).live dkO
  have djAO1:=goO.apart (hFA9.same S9C).live fun c w z=>djOA c z w
  have djFO1:=goO.apart (hFF9.same S9C).live fun c w z=>djOF c z w
  obtain ⟨SBE,nWO1⟩:=goO.bs SBC nWO'
  walk_at "rd"
  refine ⟨pA,n,kd,ps,Xt,_,WA,rfl,hFAE,fun r3 c3 w3 g3 HF _ tdF SF=>?_⟩
  have hkF:=hkE.mv fun x o _ e=>SF x o e
  walk_at "rd"
  refine yan tdF.sd hkF.sd (by decide) ?_
  walk_at "rd"
  refine ⟨pF,n,kd,ps,Xt,_,WF,rfl,hFFE.same SF,fun r4 c4 w4 g4 HG _ tdG SG=>?_⟩
  have SEG:=SF.trans SG
  have hkG:=hkE.mv fun x o _ e=>SEG x o e
  walk_at "rd"
  refine yan tdG.sd hkG.sd (by decide) ?_
  have hFAG:=hFAE.same SEG
  have hFFG:=hFFE.same SEG
  have hFOG:=hFO1.same SEG
  have SBG:=SBE.trans SEG
  walk_at "rd"
  refine ⟨t,N,rfl,⟨by omega,by omega,by omega,by omega⟩,j6 (lo:=(t:Int)) (n:=((N:Int) - (t:Int)).toNat) (fun i σ2 G=>∃ (v:Option V) (W:Addr->Prop),σ2=[some (.ref l),some (.ref L),some (.int N),some (.ref D),some (.int t),some (.ref pA),v,some (.ref pF),some (.ref pO),some (.ref kr),none,none]/\FW K a G pA n kd ps ((FX0 n kd).run (fa0 n ps) (bs.take (t+i))) (6+6 * (t+i)) W/\Go WA HG G W) ⟨_,WA,rfl,by rw [Nat.add_zero,hXt]; exact hFAG,Go.refl⟩ ?_ ?_⟩
  ·rintro i σ2 G hi ⟨v,W,rfl,hF,go⟩
   have hit:t+i < N:=by omega
   obtain ⟨SG',nW⟩:=go.bs SBG nWA
   rw [show (t:Int)+(i:Int)=((t+i:Nat):Int) by omega]
   have hb:bs[t+i]?=some (bs[t+i]'(by omega)):=List.getElem?_eq_getElem _
   obtain ⟨b0,b1⟩:=hbs _ (List.getElem_mem (show t+i < bs.length by omega))
   obtain ⟨A2,f2,O2,m2,hA2,_,_,_,_,_,_,hsg,_⟩:=id hF
   walk_at "rd"
   rw [show (8:Int)+((t+i:Nat):Int) / 3=((8+(t+i) / 3:Nat):Int) by omega]
   refine ⟨l,ns,8+(t+i) / 3,rfl,(SB0.trans SG').seq hS,fun c=>?_⟩
   walk_at "rd"
   refine ⟨pA,_,n,kd,ps,_,_,W,rfl,hF,by omega,fun G1 T1=>?_⟩
   have hp1:=(hA2.same T1).me
   walk_at "rd"
   refine bit (SG'.trans T1) hb ?_
   walk_at "rd"
   refine (hF.same T1).see b0 b1 (by omega) fun W' G2 hF2 go2=>?_
   walk_at "rd"
   refine ⟨_,W',rfl,?_,(go.same T1).trans go2⟩
   rw [<- Nat.add_assoc,List.take_add_one,hb]
   show FW K a G2 pA n kd ps ((FX0 n kd).run (fa0 n ps) (bs.take (t+i)++[bs[t+i]])) _ W'
   rw [ybv]
   exact hF2
  rintro σ2 J0 ⟨v,WA1,rfl,hFAJ,goA⟩
  rw [show t+((N:Int) - (t:Int)).toNat=N by omega,List.take_of_length_le (by omega)] at hFAJ
  have hFFJ:=hFFG.frame hFAG djFA goA
  have hFOJ:=hFOG.frame hFAG (fun c w z=>djAO1 c z w) goA
  have hkJ:=hkG.mv fun x o hx e=>goA.fr x o e (dkA x hx)
  have djFA1:=goA.apart hFFG.live djFA
  have djOA1:=goA.apart hFOG.live (fun c w z=>djAO1 c z w)
  obtain ⟨SBJ,nWA1⟩:=goA.bs SBG nWA
  walk_at "rd"
  refine yjw (fun σ' G=>∃ v:Option V,σ'=[some (.ref l),some (.ref L),some (.int N),some (.ref D),some (.int t),some (.ref pA),v,some (.ref pF),some (.ref pO),some (.ref kr),none,none]/\y6 J0 G) ?_ ?_
  ·walk_at "rd"
   refine z5 (fun h=>?_) (fun h=>?_)
   ·walk_at "rd"
    refine ⟨pF,n,kd,ps,Xt,_,WF,rfl,hFFJ,fun r5 c5 w5 g5 J1 _ td SJ=>?_⟩
    walk_at "rd"
    refine yan td.sd (hkJ.mv fun x o _ e=>SJ x o e).sd (by decide) ?_
    walk_at "rd"
    exact ⟨_,rfl,SJ⟩
   ·walk_at "rd"
    exact ⟨_,rfl,y6.refl _⟩
  rintro σ' J1 ⟨v,rfl,SJ1⟩
  have SB1:=SBJ.trans SJ1
  have hFA1:=hFAJ.same SJ1
  have hFF1:=hFFJ.same SJ1
  have hFO2:=hFOJ.same SJ1
  walk_at "rd"
  refine yga (SqL.of (SB1 _ _ hDB)) fun u2 hu2=>?_
  rw [yts,<- List.map_drop]
  with_reducible first | refine vg hu2 fun J2 SJ2 eu2=>?_ | refine vy hu2 fun J2 SJ2 eu2=>?_
  walk_at "rd"
  refine ⟨pF,u2,n,kd,ps,Xt,_,WF,bs.drop t,rfl,hFF1.same SJ2,eu2,fun w=>?_,hdb,by omega,fun WF1 J3 hFF3 goF=>?_⟩
  ·obtain ⟨o,e⟩:=hFF1.live u2 w
   rw [hu2] at e
   cases e
  have eX:Xt.run (fa0 n ps) (bs.drop t)=(FX0 n kd).run (fa0 n ps) bs:=by rw [<- hXt,<- ybz,List.take_append_drop]
  rw [eX] at hFF3
  have hFA3:=(hFA1.same SJ2).frame (hFF1.same SJ2) (fun c w z=>djFA1 c z w) goF
  have hFO3:=(hFO2.same SJ2).frame (hFF1.same SJ2) (fun c w z=>djFO1 c z w) goF
  obtain ⟨SB3',nWF1⟩:=goF.bs (SB1.trans SJ2) nWF'
  generalize hXe:(FX0 n kd).run (fa0 n ps) bs=Xe at hFA3 hFF3
  walk_at "rd"
  refine xi (SqL.of (SB3' _ _ hLB)) fun L2 hL20=>?_
  with_reducible first | refine vg hL20 fun J4 SJ4 eL2=>?_ | refine vy hL20 fun J4 SJ4 eL2=>?_
  walk_at "rd"
  intro pS dS npS ndS neS
  refine FW.new npS ndS eL2 n1 n6 (hRB.same (SB3'.trans SJ4)) fun WS J5 hFS nWS SJ5=>⟨rfl,?_⟩
  have SJ35:=SJ4.trans SJ5
  have SB5':=SB3'.trans SJ35
  walk_at "rd"
  refine ⟨pS,D,n,kd,ps,_,_,WS,bs,rfl,hFS,SB5' _ _ hDB,fun w=>?_,hbs,by omega,fun WS1 J6 hFS6 goS=>?_⟩
  ·have:=nWS D w
   rw [SJ4 _ _ (SB3' _ _ hDB)] at this
   cases this
  rw [hXe] at hFS6
  have dS:∀ {U:Addr->Prop},(∀ c,U c->∃ o,J3 c=some o)->∀ c,U c->¬ WS c:=fun lv c w1 w2=>by
   obtain ⟨o,e⟩:=lv c w1
   have z:=nWS c w2
   rw [SJ4 _ _ e] at z
   cases z
  have hFA6:=(hFA3.same SJ35).frame hFS (dS hFA3.live) goS
  have hFF6':=(hFF3.same SJ35).frame hFS (dS hFF3.live) goS
  have hFO6:=(hFO3.same SJ35).frame hFS (dS hFO3.live) goS
  obtain ⟨SB6',_⟩:=goS.bs SB5' fun c w=>(SB3'.trans SJ4).free (nWS c w)
  walk_at "rd"
  refine ⟨pS,n,kd,ps,Xe,_,WS1,rfl,hFS6,fun dr dc dw dg J7 hd0 hd7 SJ7=>?_⟩
  walk_at "rd"
  refine ⟨pA,n,kd,ps,Xe,_,WA1,rfl,hFA6.same SJ7,fun r6 c6 w6 g6 J8 _ td8' SJ8=>?_⟩
  walk_at "rd"
  refine yan td8'.sd (hd7.mv fun x o _ e=>SJ8 x o e).sd (by decide) ?_
  have SJ68:=SJ7.trans SJ8
  walk_at "rd"
  refine ⟨pF,n,kd,ps,Xe,_,WF1,rfl,hFF6'.same SJ68,fun r7 c7' w7 g7 J9 _ td9' SJ9=>?_⟩
  walk_at "rd"
  refine yan td9'.sd (hd7.mv fun x o _ e=>(SJ8.trans SJ9) x o e).sd (by decide) ?_
  have SJ69:=SJ68.trans SJ9
  obtain ⟨AF2,fF2,OF2,mF2,hAF2,_⟩:=id (hFF6'.same SJ69)
  have hpF9:=hAF2.me
  walk_at "rd"
  refine (hFF6'.same SJ69).fork (by omega) fun pG WG JA hFG nWG SJA=>?_
  walk_at "rd"
  refine ⟨pG,n,kd,ps,Xe,_,WG,rfl,hFG,fun r8 c8 w8 g8 JB _ tdB SJB=>?_⟩
  have SJ7B:=SJ8.trans (SJ9.trans (SJA.trans SJB))
  have hdB:=hd7.mv fun x o _ e=>SJ7B x o e
  walk_at "rd"
  refine yan tdB.sd hdB.sd (by decide) ?_
  have SJ6B:=SJ7.trans SJ7B
  have SBB:=SB6'.trans SJ6B
  have hFAB:=hFA6.same SJ6B
  have hFOB:=hFO6.same SJ6B
  walk_at "rd"
  refine xi (SqL.of (SBB _ _ hLB)) fun L3 hL30=>?_
  with_reducible first | refine vg hL30 fun JC SJC eL3=>?_ | refine vy hL30 fun JC SJC eL3=>?_
  walk_at "rd"
  intro pT dT npT ndT neT
  refine FW.new npT ndT eL3 n1 n6 (hRB.same (SBB.trans SJC)) fun WT JD hFT nWT SJD=>⟨rfl,?_⟩
  have SJBD:=SJC.trans SJD
  have SBD:=SBB.trans SJBD
  walk_at "rd"
  refine yga (SqL.of (SBD _ _ hDB)) fun u3 hu3=>?_
  rw [ybo,<- List.map_take]
  with_reducible first | refine vg hu3 fun JE SJE eu3=>?_ | refine vy hu3 fun JE SJE eu3=>?_
  walk_at "rd"
  refine yga (SqL.of (SJE _ _ (SBD _ _ hDB))) fun u4 hu4=>?_
  rw [yts,<- List.map_drop]
  have SJF:=y1 (o:=(HO.lst (List.map V.int (List.drop t bs)))) hu4
  have eu4:upd JE u4 (HO.lst (List.map V.int (List.drop t bs))) u4=some (HO.lst (List.map V.int (List.drop t bs))):=ya
  generalize upd JE u4 (HO.lst (List.map V.int (List.drop t bs)))=JF at SJF eu4 ⊢
  refine ⟨u4,rfl,⟨_,SqL.of eu4⟩,fun D3 hD3=>?_⟩
  refine yat (xs:=(bs.drop t).map V.int) (onI fun b=>1 - b) (SqL.of eu4) hD3 (fun i y G hy SG gD=>?_) (fun JG SJG eD3=>?_)
  ·obtain ⟨b,rfl,hbm,hb,hj⟩:=uo hy
   walk_at "rd"
   exact Mp.done hD3 (vf (by rw [List.length_map,List.length_drop]; omega)) hy SG gD rfl
  rw [yby,hfx] at eD3
  have eu3G:=SJG _ _ (SJF _ _ eu3)
  have htl:(bs.take t).length=t:=by rw [List.length_take]; omega
  walk_at "rd"
  refine ⟨u3,D3,_,_,rfl,rfl,eu3G,eD3,yd5 (by rw [List.length_map,List.length_map,htl,hfl]; omega),fun u5 hu5=>?_⟩
  rw [<- List.map_append]
  with_reducible first | refine vg hu5 fun JH SJH eu5=>?_ | refine vy hu5 fun JH SJH eu5=>?_
  have SJDH:=SJE.trans (SJF.trans (SJG.trans SJH))
  walk_at "rd"
  refine ⟨pT,u5,n,kd,ps,_,_,WT,bs.take t++fx,rfl,hFT.same SJDH,eu5,fun w=>?_,fun b hb=>?_,by rw [List.length_append,htl,hfl]; omega,fun WT1 JI hFT1 goT=>?_⟩
  ·obtain ⟨o,e⟩:=(hFT.same (SJE.trans (SJF.trans SJG))).live u5 w
   rw [hu5] at e
   cases e
  ·rcases List.mem_append.mp hb with z | z
   ·exact hbs b (List.mem_of_mem_take z)
   ·exact hfb b z
  rw [ybz,hXt] at hFT1
  have dT:∀ {U:Addr->Prop},(∀ c,U c->∃ o,JB c=some o)->∀ c,U c->¬ WT c:=fun lv c w1 w2=>by
   obtain ⟨o,e⟩:=lv c w1
   have z:=nWT c w2
   rw [SJC _ _ e] at z
   cases z
  have SJBH:=SJBD.trans SJDH
  have hFOI:=(hFOB.same SJBH).frame (hFT.same SJDH) (dT hFOB.live) goT
  have hFAI:=(hFAB.same SJBH).frame (hFT.same SJDH) (dT hFAB.live) goT
  have hdI:=(hdB.mv fun x o _ e=>SJBH x o e).mv fun x o hx e=>goT.fr x o e (dT hdB.live x hx)
  walk_at "rd"
  refine ⟨pO,n,kd,ps,_,_,WO1,rfl,hFOI,fun r9 c9 w9 g9 JJ _ tdJ SJJ=>?_⟩
  walk_at "rd"
  refine ⟨pT,n,kd,ps,_,_,WT1,rfl,hFT1.same SJJ,fun ra ca wa ga JK _ tdK SJK=>?_⟩
  refine yan (tdJ.mv fun x o _ e=>SJK x o e).sd tdK.sd (by decide) ?_
  walk_at "rd"
  refine ⟨pA,n,kd,ps,Xe,_,WA1,rfl,hFAI.same (SJJ.trans SJK),fun rb cb wb gb JL _ tdL SJL=>?_⟩
  walk_at "rd"
  refine yan tdL.sd (hdI.mv fun x o _ e=>(SJJ.trans (SJK.trans SJL)) x o e).sd (by decide) ?_
  exact k _
end
theorem all_mk {l:W.OpenLaw} {w:World} {K:W.Frag} {h:Heap} {mg:Str->Option Value} {fa:Addr} (X:K.In h) (G:h.Ns mainGlobals mg) (hfa:mg "law"=some (.ref fa))
  {C_Even:Addr}
  {C_Quick:Addr}
  {C_Run:Addr}
  {C_Book:Addr}
  {C_Mx:Addr}
  {C_Ft:Addr}
  {C_NC:Addr}
  {C_NB:Addr}
  {C_NL:Addr}
  {f_q1 f_q2 f_q3 f_q4 f_q5 f_q6 f_q7 f_q8 f_q9 f_q10 f_q11 f_q12 f_q13 f_q14 f_q15 f_q16 f_q17 f_q18 f_q19 f_q20 f_q21 f_q22 f_q23 f_q24 f_q25 f_q26 f_q27 f_q28 f_q29 f_q30 f_q31 f_q32 f_q33 f_q34 f_q35 f_q36 f_q37 f_q38 f_q39 f_q40 f_q41 f_q42 f_q43 f_q44 f_q45 f_q46 f_q47 f_q48 f_q49 f_q50 f_q51 f_law:Addr} {d_q1 d_q2 d_q3 d_q4 d_q5 d_q6 d_q7 d_q8 d_q9 d_q10 d_q11 d_q12 d_q13 d_q14 d_q15 d_q16 d_q17 d_q18 d_q19 d_q20 d_q21 d_q22 d_q23 d_q24 d_q25 d_q26 d_q27 d_q28 d_q29 d_q30 d_q31 d_q32 d_q33 d_q34 d_q35 d_q36 d_q37 d_q38 d_q39 d_q40 d_q41 d_q42 d_q43 d_q44 d_q45 d_q46 d_q47 d_q48 d_q49 d_q50 d_q51 d_law:FuncData}
  {t_LEAST:Tok}
  {t_ONE:Tok}
  {t_MOST_COUNTED:Tok}
  {t_FARTHEST:Tok}
  {t_MOST_PLACES:Tok}
  {t_MOST_LOOKS:Tok}
  {t_NO_SIGN:Tok}
  {t_FIRST_WEIGHT:Tok}
  {t_OWN_PARTS:Tok}
  {t_MOST_FIGURES:Tok}
  {t_NODES_END:Tok}
  {W_KINDS:Addr} {wd_KINDS:Option Addr} {wn_KINDS:Nat} {ws_KINDS:Array (Option Value)} {wt_KINDS_0 wt_KINDS_1 wt_KINDS_2:Tok}
  (aC_Even:W.nsIn K mainGlobals "Even"=some (some (.ref C_Even)))
  (aC_Quick:W.nsIn K mainGlobals "Quick"=some (some (.ref C_Quick)))
  (aC_Run:W.nsIn K mainGlobals "Run"=some (some (.ref C_Run)))
  (aC_Book:W.nsIn K mainGlobals "Book"=some (some (.ref C_Book)))
  (aC_Mx:W.nsIn K mainGlobals "Mixer"=some (some (.ref C_Mx)))
  (aC_Ft:W.nsIn K mainGlobals "Foreteller"=some (some (.ref C_Ft)))
  (aC_NC:W.nsIn K mainGlobals "NoChance"=some (some (.ref C_NC)))
  (aC_NB:W.nsIn K mainGlobals "NoBit"=some (some (.ref C_NB)))
  (aC_NL:W.nsIn K mainGlobals "NoLooks"=some (some (.ref C_NL)))
  (y_q1:Dgf K mg "is_whole" ytz f_q1 d_q1)
  (y_q2:Dgf K mg "is_bit" yub f_q2 d_q2)
  (y_q3:Dgf K mg "is_chance" ytt f_q3 d_q3)
  (y_q4:Dgf K mg "check_chance" yua f_q4 d_q4)
  (y_q5:Dgf K mg "check_bit" yt3 f_q5 d_q5)
  (y_q6:Dgf K mg "gives" ytu f_q6 d_q6)
  (y_q7:Dgm K C_Even "__init__" "Even.__init__" yt7 f_q7 d_q7)
  (y_q8:Dgm K C_Even "chance" "Even.chance" ytr f_q8 d_q8)
  (y_q9:Dgm K C_Even "seen" "Even.seen" yt0 f_q9 d_q9)
  (y_q10:Dgm K C_Even "twin" "Even.twin" yoa f_q10 d_q10)
  (y_q11:Dgm K C_Quick "__init__" "Quick.__init__" yoo f_q11 d_q11)
  (y_q12:Dgm K C_Quick "chance" "Quick.chance" yoi f_q12 d_q12)
  (y_q13:Dgm K C_Quick "seen" "Quick.seen" ynz f_q13 d_q13)
  (y_q14:Dgm K C_Quick "twin" "Quick.twin" yn8 f_q14 d_q14)
  (y_q15:Dgm K C_Run "__init__" "Run.__init__" yob f_q15 d_q15)
  (y_q16:Dgm K C_Run "chance" "Run.chance" ynt f_q16 d_q16)
  (y_q17:Dgm K C_Run "seen" "Run.seen" yns f_q17 d_q17)
  (y_q18:Dgm K C_Run "twin" "Run.twin" yom f_q18 d_q18)
  (y_q19:Dgf K mg "slot_of" yon f_q19 d_q19)
  (y_q20:Dgf K mg "is_kind" ynv f_q20 d_q20)
  (y_q21:Dgf K mg "is_place" yoj f_q21 d_q21)
  (y_q22:Dgf K mg "are_places" ynu f_q22 d_q22)
  (y_q23:Dgf K mg "is_look" yoe f_q23 d_q23)
  (y_q24:Dgf K mg "checked_looks" yn9 f_q24 d_q24)
  (y_q25:Dgf K mg "sign_back" yof f_q25 d_q25)
  (y_q26:Dgf K mg "context_of" yn5 f_q26 d_q26)
  (y_q27:Dgm K C_Book "__init__" "Book.__init__" ynm f_q27 d_q27)
  (y_q28:Dgm K C_Book "slot_at" "Book.slot_at" yn4 f_q28 d_q28)
  (y_q29:Dgm K C_Book "twin" "Book.twin" yn6 f_q29 d_q29)
  (y_q30:Dgm K C_Mx "__init__" "Mixer.__init__" ync f_q30 d_q30)
  (y_q31:Dgm K C_Mx "weights" "Mixer.weights" ynx f_q31 d_q31)
  (y_q32:Dgm K C_Mx "mixed" "Mixer.mixed" yod f_q32 d_q32)
  (y_q33:Dgm K C_Mx "learn" "Mixer.learn" yn7 f_q33 d_q33)
  (y_q34:Dgm K C_Mx "twin" "Mixer.twin" yok f_q34 d_q34)
  (y_q35:Dgm K C_Ft "__init__" "Foreteller.__init__" yng f_q35 d_q35)
  (y_q36:Dgm K C_Ft "arrive" "Foreteller.arrive" yn0 f_q36 d_q36)
  (y_q37:Dgm K C_Ft "chances" "Foreteller.chances" yno f_q37 d_q37)
  (y_q38:Dgm K C_Ft "chance" "Foreteller.chance" ynp f_q38 d_q38)
  (y_q39:Dgm K C_Ft "weights" "Foreteller.weights" ynq f_q39 d_q39)
  (y_q40:Dgm K C_Ft "node" "Foreteller.node" ynf f_q40 d_q40)
  (y_q41:Dgm K C_Ft "signs" "Foreteller.signs" yn1 f_q41 d_q41)
  (y_q42:Dgm K C_Ft "see" "Foreteller.see" yny f_q42 d_q42)
  (y_q43:Dgm K C_Ft "step" "Foreteller.step" yni f_q43 d_q43)
  (y_q44:Dgm K C_Ft "step_in_sign" "Foreteller.step_in_sign" ynk f_q44 d_q44)
  (y_q45:Dgm K C_Ft "fork" "Foreteller.fork" ym8 f_q45 d_q45)
  (y_q46:Dgf K mg "_law_cell_at" yoh f_q46 d_q46)
  (y_q47:Dgf K mg "_law_look" ynd f_q47 d_q47)
  (y_q48:Dgf K mg "_law_looks" yna f_q48 d_q48)
  (y_q49:Dgf K mg "_law_told" ym9 f_q49 d_q49)
  (y_q50:Dgf K mg "_law_ask" ynh f_q50 d_q50)
  (y_q51:Dgf K mg "_law_see" ynj f_q51 d_q51)
  (y_law:Dgf K mg "law" yol f_law d_law)
  (pg_Even:W.plainGet K C_Even Str.empty=true)
  (hd_Even:W.hasDictIn K C_Even=true)
  (po_Even:W.plainOver K C_Even=true)
  (sa_Even:W.findIn K (.ref C_Even) "__setattr__"=some (some (.builtin "object.__setattr__")))
  (mk_Even:W.makesIn K C_Even=true)
  (kc_Even:W.keepIn K (.ref C_Even)=true)
  (n_Even_noughts:W.findIn K (.ref C_Even) "noughts"=some none)
  (n_Even_ones:W.findIn K (.ref C_Even) "ones"=some none)
  (pg_Quick:W.plainGet K C_Quick Str.empty=true)
  (hd_Quick:W.hasDictIn K C_Quick=true)
  (po_Quick:W.plainOver K C_Quick=true)
  (sa_Quick:W.findIn K (.ref C_Quick) "__setattr__"=some (some (.builtin "object.__setattr__")))
  (mk_Quick:W.makesIn K C_Quick=true)
  (kc_Quick:W.keepIn K (.ref C_Quick)=true)
  (n_Quick_held:W.findIn K (.ref C_Quick) "held"=some none)
  (pg_Run:W.plainGet K C_Run Str.empty=true)
  (hd_Run:W.hasDictIn K C_Run=true)
  (po_Run:W.plainOver K C_Run=true)
  (sa_Run:W.findIn K (.ref C_Run) "__setattr__"=some (some (.builtin "object.__setattr__")))
  (mk_Run:W.makesIn K C_Run=true)
  (kc_Run:W.keepIn K (.ref C_Run)=true)
  (n_Run_last:W.findIn K (.ref C_Run) "last"=some none)
  (n_Run_length:W.findIn K (.ref C_Run) "length"=some none)
  (pg_Book:W.plainGet K C_Book Str.empty=true)
  (hd_Book:W.hasDictIn K C_Book=true)
  (po_Book:W.plainOver K C_Book=true)
  (sa_Book:W.findIn K (.ref C_Book) "__setattr__"=some (some (.builtin "object.__setattr__")))
  (mk_Book:W.makesIn K C_Book=true)
  (kc_Book:W.keepIn K (.ref C_Book)=true)
  (n_Book_look:W.findIn K (.ref C_Book) "look"=some none)
  (n_Book_slots:W.findIn K (.ref C_Book) "slots"=some none)
  (pg_Mx:W.plainGet K C_Mx Str.empty=true)
  (hd_Mx:W.hasDictIn K C_Mx=true)
  (po_Mx:W.plainOver K C_Mx=true)
  (sa_Mx:W.findIn K (.ref C_Mx) "__setattr__"=some (some (.builtin "object.__setattr__")))
  (mk_Mx:W.makesIn K C_Mx=true)
  (kc_Mx:W.keepIn K (.ref C_Mx)=true)
  (n_Mx_kept:W.findIn K (.ref C_Mx) "kept"=some none)
  (pg_Ft:W.plainGet K C_Ft Str.empty=true)
  (hd_Ft:W.hasDictIn K C_Ft=true)
  (po_Ft:W.plainOver K C_Ft=true)
  (sa_Ft:W.findIn K (.ref C_Ft) "__setattr__"=some (some (.builtin "object.__setattr__")))
  (mk_Ft:W.makesIn K C_Ft=true)
  (kc_Ft:W.keepIn K (.ref C_Ft)=true)
  (n_Ft_looks:W.findIn K (.ref C_Ft) "looks"=some none)
  (n_Ft_books:W.findIn K (.ref C_Ft) "books"=some none)
  (n_Ft_mixer:W.findIn K (.ref C_Ft) "mixer"=some none)
  (n_Ft_ended:W.findIn K (.ref C_Ft) "ended"=some none)
  (n_Ft_place:W.findIn K (.ref C_Ft) "place"=some none)
  (n_Ft_present:W.findIn K (.ref C_Ft) "present"=some none)
  (x_NC:XCls K C_NC)
  (r_NC:W.excIn K C_NC [.type "ValueError",.type "Exception",.type "BaseException",.type "object"] "ValueError.__new__"=true)
  (x_NB:XCls K C_NB)
  (r_NB:W.excIn K C_NB [.type "ValueError",.type "Exception",.type "BaseException",.type "object"] "ValueError.__new__"=true)
  (x_NL:XCls K C_NL)
  (r_NL:W.excIn K C_NL [.type "ValueError",.type "Exception",.type "BaseException",.type "object"] "ValueError.__new__"=true)
  (igg:W.specialIn K (.builtin "object.__class__") "__get__"=some (some (.builtin "getset_descriptor.__get__")))
  (itk:W.takesIn K (.builtin "object.__class__")=some true)
  (ica_Ft:W.findIn K (.ref C_Ft) "__class__"=some (some (.builtin "object.__class__")))
  (imo_Ft:W.mroIn K C_Ft (.type "object")=some true)
  (iki_Ft_Ft:W.kitOne K (.ref C_Ft) (.ref C_Ft)=some true)
  (z_isinstance:W.nsIn K mainGlobals "isinstance"=some none)
  (z_int:W.nsIn K mainGlobals "int"=some none)
  (z_bool:W.nsIn K mainGlobals "bool"=some none)
  (z_min:W.nsIn K mainGlobals "min"=some none)
  (z_max:W.nsIn K mainGlobals "max"=some none)
  (z_str:W.nsIn K mainGlobals "str"=some none)
  (z_all:W.nsIn K mainGlobals "all"=some none)
  (z_tuple:W.nsIn K mainGlobals "tuple"=some none)
  (z_len:W.nsIn K mainGlobals "len"=some none)
  (z_zip:W.nsIn K mainGlobals "zip"=some none)
  (z_list:W.nsIn K mainGlobals "list"=some none)
  (z_sum:W.nsIn K mainGlobals "sum"=some none)
  (z_range:W.nsIn K mainGlobals "range"=some none)
  (v_LEAST:W.nsIn K mainGlobals "LEAST"=some (some (.int 32768 t_LEAST)))
  (v_ONE:W.nsIn K mainGlobals "ONE"=some (some (.int 16777216 t_ONE)))
  (v_MOST_COUNTED:W.nsIn K mainGlobals "MOST_COUNTED"=some (some (.int 255 t_MOST_COUNTED)))
  (v_FARTHEST:W.nsIn K mainGlobals "FARTHEST"=some (some (.int 8 t_FARTHEST)))
  (v_MOST_PLACES:W.nsIn K mainGlobals "MOST_PLACES"=some (some (.int 4 t_MOST_PLACES)))
  (v_MOST_LOOKS:W.nsIn K mainGlobals "MOST_LOOKS"=some (some (.int 6 t_MOST_LOOKS)))
  (v_NO_SIGN:W.nsIn K mainGlobals "NO_SIGN"=some (some (.int 256 t_NO_SIGN)))
  (v_FIRST_WEIGHT:W.nsIn K mainGlobals "FIRST_WEIGHT"=some (some (.int 1099511627776 t_FIRST_WEIGHT)))
  (v_OWN_PARTS:W.nsIn K mainGlobals "OWN_PARTS"=some (some (.int 31 t_OWN_PARTS)))
  (v_MOST_FIGURES:W.nsIn K mainGlobals "MOST_FIGURES"=some (some (.int 48 t_MOST_FIGURES)))
  (v_NODES_END:W.nsIn K mainGlobals "NODES_END"=some (some (.int 256 t_NODES_END)))
  (wa_KINDS:W.nsIn K mainGlobals "KINDS"=some (some (.ref W_KINDS)))
  (wl_KINDS:K.lookup W_KINDS=some ⟨.type "tuple",wd_KINDS,.seq #[.str "even" wt_KINDS_0,.str "quick" wt_KINDS_1,.str "run" wt_KINDS_2] wn_KINDS,ws_KINDS⟩)
 :∃ fd:FuncData,(∀ (s:Shared) (v:Value),BindsTo s fd ⟨[v],[]⟩ [("_law_script",v)])/\∀ base:Heap,K.In base->base.Ns mainGlobals mg->we l.prog w K mg base CX0 9 fa fd ["_law_script"] (ye8 K):=by
 have e:=hfa.symm.trans y_law.m
 cases e
 have T:Txt K mg ⟨f_q1,d_q1,f_q2,d_q2,f_q3,d_q3,f_q4,d_q4,f_q5,d_q5,f_q6,d_q6,f_q7,d_q7,f_q8,d_q8,f_q9,d_q9,f_q10,d_q10,f_q11,d_q11,f_q12,d_q12,f_q13,d_q13,f_q14,d_q14,f_q15,d_q15,f_q16,d_q16,f_q17,d_q17,f_q18,d_q18,f_q19,d_q19,f_q20,d_q20,f_q21,d_q21,f_q22,d_q22,f_q23,d_q23,f_q24,d_q24,f_q25,d_q25,f_q26,d_q26,f_q27,d_q27,f_q28,d_q28,f_q29,d_q29,f_q30,d_q30,f_q31,d_q31,f_q32,d_q32,f_q33,d_q33,f_q34,d_q34,f_q35,d_q35,f_q36,d_q36,f_q37,d_q37,f_q38,d_q38,f_q39,d_q39,f_q40,d_q40,f_q41,d_q41,f_q42,d_q42,f_q43,d_q43,f_q44,d_q44,f_q45,d_q45,f_q46,d_q46,f_q47,d_q47,f_q48,d_q48,f_q49,d_q49,f_q50,d_q50,f_q51,d_q51,fa,d_law,C_Even,C_Quick,C_Run,C_Book,C_Mx,C_Ft,C_NC,C_NB,C_NL,t_LEAST,t_ONE,t_MOST_COUNTED,t_FARTHEST,t_MOST_PLACES,t_MOST_LOOKS,t_NO_SIGN,t_FIRST_WEIGHT,t_OWN_PARTS,t_MOST_FIGURES,t_NODES_END,W_KINDS⟩:=⟨
  y_q1.d1 fun _ _ _ _ _ _ _=>rfl,
  y_q2.d1 fun _ _ _ _ _ _ _=>rfl,
  y_q3.d1 fun _ _ _ _ _ _ _=>rfl,
  y_q4.d1 fun _ _ _ _ _ _ _=>rfl,
  y_q5.d1 fun _ _ _ _ _ _ _=>rfl,
  y_q6.d2 fun _ _ _ _ _ _ _ _=>rfl,
  y_q7.d1 fun _ _ _ _ _ _ _=>rfl,
  y_q8.d1 fun _ _ _ _ _ _ _=>rfl,
  y_q9.d2 fun _ _ _ _ _ _ _ _=>rfl,
  y_q10.d1 fun _ _ _ _ _ _ _=>rfl,
  y_q11.d1 fun _ _ _ _ _ _ _=>rfl,
  y_q12.d1 fun _ _ _ _ _ _ _=>rfl,
  y_q13.d2 fun _ _ _ _ _ _ _ _=>rfl,
  y_q14.d1 fun _ _ _ _ _ _ _=>rfl,
  y_q15.d1 fun _ _ _ _ _ _ _=>rfl,
  y_q16.d1 fun _ _ _ _ _ _ _=>rfl,
  y_q17.d2 fun _ _ _ _ _ _ _ _=>rfl,
  y_q18.d1 fun _ _ _ _ _ _ _=>rfl,
  y_q19.d1 fun _ _ _ _ _ _ _=>rfl,
  y_q20.d1 fun _ _ _ _ _ _ _=>rfl,
  y_q21.d1 fun _ _ _ _ _ _ _=>rfl,
  y_q22.d1 fun _ _ _ _ _ _ _=>rfl,
  y_q23.d1 fun _ _ _ _ _ _ _=>rfl,
  y_q24.d1 fun _ _ _ _ _ _ _=>rfl,
  y_q25.d2 fun _ _ _ _ _ _ _ _=>rfl,
  y_q26.d3 fun _ _ _ _ _ _ _ _ _=>rfl,
  y_q27.d2 fun _ _ _ _ _ _ _ _=>rfl,
  y_q28.d3 fun _ _ _ _ _ _ _ _ _=>rfl,
  y_q29.d1 fun _ _ _ _ _ _ _=>rfl,
  y_q30.d2 fun _ _ _ _ _ _ _ _=>rfl,
  y_q31.d1 fun _ _ _ _ _ _ _=>rfl,
  y_q32.d2 fun _ _ _ _ _ _ _ _=>rfl,
  y_q33.d3 fun _ _ _ _ _ _ _ _ _=>rfl,
  y_q34.d1 fun _ _ _ _ _ _ _=>rfl,
  y_q35.d2 fun _ _ _ _ _ _ _ _=>rfl,
  y_q36.d1 fun _ _ _ _ _ _ _=>rfl,
  y_q37.d1 fun _ _ _ _ _ _ _=>rfl,
  y_q38.d1 fun _ _ _ _ _ _ _=>rfl,
  y_q39.d1 fun _ _ _ _ _ _ _=>rfl,
  y_q40.d1 fun _ _ _ _ _ _ _=>rfl,
  y_q41.d1 fun _ _ _ _ _ _ _=>rfl,
  y_q42.d2 fun _ _ _ _ _ _ _ _=>rfl,
  y_q43.d2 fun _ _ _ _ _ _ _ _=>rfl,
  y_q44.d2 fun _ _ _ _ _ _ _ _=>rfl,
  y_q45.d1 fun _ _ _ _ _ _ _=>rfl,
  y_q46.d2 fun _ _ _ _ _ _ _ _=>rfl,
  y_q47.d1 fun _ _ _ _ _ _ _=>rfl,
  y_q48.d1 fun _ _ _ _ _ _ _=>rfl,
  y_q49.d1 fun _ _ _ _ _ _ _=>rfl,
  y_q50.d2 fun _ _ _ _ _ _ _ _=>rfl,
  y_q51.d2 fun _ _ _ _ _ _ _ _=>rfl,
  y_law.d1 fun _ _ _ _ _ _ _=>rfl,
  ⟨pg_Even,hd_Even,po_Even,sa_Even⟩,
  W.mg_of X G aC_Even,
  ⟨mk_Even,y_q7.m.1,y_q7.m.2,kc_Even⟩,
  n_Even_noughts,
  n_Even_ones,
  ⟨pg_Quick,hd_Quick,po_Quick,sa_Quick⟩,
  W.mg_of X G aC_Quick,
  ⟨mk_Quick,y_q11.m.1,y_q11.m.2,kc_Quick⟩,
  n_Quick_held,
  ⟨pg_Run,hd_Run,po_Run,sa_Run⟩,
  W.mg_of X G aC_Run,
  ⟨mk_Run,y_q15.m.1,y_q15.m.2,kc_Run⟩,
  n_Run_last,
  n_Run_length,
  ⟨pg_Book,hd_Book,po_Book,sa_Book⟩,
  W.mg_of X G aC_Book,
  ⟨mk_Book,y_q27.m.1,y_q27.m.2,kc_Book⟩,
  n_Book_look,
  n_Book_slots,
  ⟨pg_Mx,hd_Mx,po_Mx,sa_Mx⟩,
  W.mg_of X G aC_Mx,
  ⟨mk_Mx,y_q30.m.1,y_q30.m.2,kc_Mx⟩,
  n_Mx_kept,
  ⟨pg_Ft,hd_Ft,po_Ft,sa_Ft⟩,
  W.mg_of X G aC_Ft,
  ⟨mk_Ft,y_q35.m.1,y_q35.m.2,kc_Ft⟩,
  n_Ft_looks,
  n_Ft_books,
  n_Ft_mixer,
  n_Ft_ended,
  n_Ft_place,
  n_Ft_present,
  W.mg_of X G aC_NC,
  W.mg_of X G aC_NB,
  W.mg_of X G aC_NL,
  x_NC,
  r_NC,
  x_NB,
  r_NB,
  x_NL,
  r_NL,
  igg,
  itk,
  ica_Ft,
  imo_Ft,
  iki_Ft_Ft,
  W.mg_none_of X G z_isinstance,
  W.mg_none_of X G z_int,
  W.mg_none_of X G z_bool,
  W.mg_none_of X G z_min,
  W.mg_none_of X G z_max,
  W.mg_none_of X G z_str,
  W.mg_none_of X G z_all,
  W.mg_none_of X G z_tuple,
  W.mg_none_of X G z_len,
  W.mg_none_of X G z_zip,
  W.mg_none_of X G z_list,
  W.mg_none_of X G z_sum,
  W.mg_none_of X G z_range,
  W.mg_of X G v_LEAST,
  W.mg_of X G v_ONE,
  W.mg_of X G v_MOST_COUNTED,
  W.mg_of X G v_FARTHEST,
  W.mg_of X G v_MOST_PLACES,
  W.mg_of X G v_MOST_LOOKS,
  W.mg_of X G v_NO_SIGN,
  W.mg_of X G v_FIRST_WEIGHT,
  W.mg_of X G v_OWN_PARTS,
  W.mg_of X G v_MOST_FIGURES,
  W.mg_of X G v_NODES_END,
  W.mg_of X G wa_KINDS,
  fun H=>.inr ⟨_,_,_,wl_KINDS,rfl,rfl,(by show 3 <= sizeLine; decide),(.cons ⟨_,rfl⟩ (.cons ⟨_,rfl⟩ (.cons ⟨_,rfl⟩ .nil)))⟩⟩
 refine ⟨d_law,fun s v=>?_,fun base _ _=>yo0 T⟩
 obtain ⟨_,_,_,_,_,_,_,_,_,rfl,_,_⟩:=y_law.F.ex
 exact .of_eq rfl
theorem walk {l:W.OpenLaw} {q:Program} {loose:List Str} {XP:(Str->Option Value)->Heap->Prop} {YP:World->Heap->Prop} {d:DefRec} {K:Params->W.Frag} (hn:l.most=some 63) (hdf:d.params.defaults=[])
  (hY:∀ (w:World) (h:Heap),YP w h->(K w.params).In h)
  (F:∀ (w:World) (mg:Str->Option Value) (fa:Addr) (h:Heap),(K w.params).In h->h.Ns mainGlobals mg->mg d.name=some (.ref fa) ->
   ∃ fd:FuncData,(∀ (s:Shared) (u:Value),BindsTo s fd ⟨[u],[]⟩ [("_law_script",u)])/\∀ base:Heap,(K w.params).In base->base.Ns mainGlobals mg->we l.prog w (K w.params) mg base CX0 9 fa fd ["_law_script"] (ye8 (K w.params))) :
  W.WalkO q loose XP YP l.row.toRowW d [] (fun f vs=>PySem.call f vs) :=
 L2.walk_of (n:=63) (k:=9) (x:="_law_script") (CX:=fun _=>CX0) (sp:=fun w=>ye8 (K w.params)) hn (by decide) hdf ⟨rfl,by decide,by decide⟩ hY F (fun _ _ a ns hl _ hS=>⟨a,ns,rfl,hS,hl,fun _=>rfl⟩) fun _ _ _ _ _ z=>z
end Law
open PySem PySem.W PyProof.Rows
def PySem.W.Fast.tw13654074083061310949 : Unit := ()
def PySem.W.Fast.tw4320080758142926492 : Unit := ()
def PySem.W.Fast.tw13871637732560864878 : Unit := ()
def PySem.W.Fast.tw1859222361756846429 : Unit := ()
def PySem.W.Fast.tw5018856604103968716 : Unit := ()
def PySem.W.Fast.tw6480535085124140653 : Unit := ()
def PySem.W.Fast.tw12930376906937287955 : Unit := ()
def PySem.W.Fast.tw10378406475128731708 : Unit := ()
def PySem.W.Fast.tw11192628558671083442 : Unit := ()
def PySem.W.Fast.tw1384453580614020879 : Unit := ()
def PySem.W.Fast.tw14062056797020802013 : Unit := ()
def PySem.W.Fast.tw16687956741913176269 : Unit := ()
def PySem.W.Fast.tw16922600088262666484 : Unit := ()
set_option maxRecDepth 100000 in
set_option maxHeartbeats 0 in
theorem PySem.Challenge.cw_foretell_k24_forks_and_askings_holds : PySem.Challenge.rw_foretell_k24_forks_and_askings.Holds := by
 w_on; o_law; k_head; (case hw => w_witness2)
 k_fill
 refine Law.walk (l := PySem.Challenge.rw_foretell_k24_forks_and_askings) rfl rfl (fun w h Y => PySem.W.kIn_of Y) ?F
 case F =>
  intro w mg fa h KX G hmg
  refine' Law.all_mk KX G hmg ?_ ?_ ?_ ?_ ?_ ?_ ?_ ?_ ?_ ?_ ?_ ?_ ?_ ?_ ?_ ?_ ?_ ?_ ?_ ?_ ?_ ?_ ?_ ?_ ?_ ?_ ?_ ?_ ?_ ?_ ?_ ?_ ?_ ?_ ?_ ?_ ?_ ?_ ?_ ?_ ?_ ?_ ?_ ?_ ?_ ?_ ?_ ?_ ?_ ?_ ?_ ?_ ?_ ?_ ?_ ?_ ?_ ?_ ?_ ?_ ?_ ?_ ?_ ?_ ?_ ?_ ?_ ?_ ?_ ?_ ?_ ?_ ?_ ?_ ?_ ?_ ?_ ?_ ?_ ?_ ?_ ?_ ?_ ?_ ?_ ?_ ?_ ?_ ?_ ?_ ?_ ?_ ?_ ?_ ?_ ?_ ?_ ?_ ?_ ?_ ?_ ?_ ?_ ?_ ?_ ?_ ?_ ?_ ?_ ?_ ?_ ?_ ?_ ?_ ?_ ?_ ?_ ?_ ?_ ?_ ?_ ?_ ?_ ?_ ?_ ?_ ?_ ?_ ?_ ?_ ?_ ?_ ?_ ?_ ?_ ?_ ?_ ?_ ?_ ?_ ?_ ?_ ?_ ?_ ?_ ?_ ?_ ?_
  any_goals first | (refine' L2.dgf_mk KX G ?_ ?_ ?_ ?_; any_goals k_is; done) | (refine' L2.dgm_mk ?_ ?_ ?_ ?_ ?_; any_goals k_is; done) | (refine' L2.XCls.mk ?_ ?_ ?_ ?_ ?_ ?_ ?_ ?_ <;> k_is) | k_is | kit_is | k_exc
#print axioms PySem.Challenge.cw_foretell_k24_forks_and_askings_holds
