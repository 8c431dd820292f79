import PyProof.Rows.All
import Wide.All
import OpenK.AllK
import Wide.FinOn
import PyProof.EqAt
import PyProof.EqKinds
import PyProof.TupleCall
import Lean
import PySem.Challenge.RW_foretell_k34_press_refused
set_option Elab.async false
set_option linter.all false
set_option maxRecDepth 100000
set_option maxHeartbeats 4000000
namespace L2
open PySem PySem.Spec PyProof.Rows
abbrev Key:=Sum Int Str
def ykf:Key->Value->Bool
 | .inl k,v=>Value.isInt k v
 | .inr x,v=>Value.isStrOf x v
def vb2 (w:World):Key->Int
 | .inl k=>hashInt k
 | .inr x=>hashStr w x
theorem wn:∀ {k:Key} {v:Value},ykf k v = true->(∃ i t,k = Sum.inl i/\v = Value.int i t)\/(∃ x t,k = Sum.inr x/\v = Value.str x t)
 | .inl i,v,h=>by
  obtain ⟨t,e⟩:=Value.isInt_shape (k:=i) (v:=v) h
  exact .inl ⟨i,t,rfl,e⟩
 | .inr x,v,h=>by
  obtain ⟨t,e⟩:=Value.isStrOf_shape (x:=x) (v:=v) h
  exact .inr ⟨x,t,rfl,e⟩
theorem yly (i:Int) (t:Tok):ykf (.inl i) (.int i t) = true:=by simp [ykf,Value.isInt]
theorem yk0 (x:Str) (t:Tok):ykf (.inr x) (.str x t) = true:=by simp [ykf,Value.isStrOf]
theorem yxk (a b:Int):decide ((Sum.inl a:Key) = Sum.inl b) = (a == b):=by
 by_cases e:a = b
 ·subst e; simp
 ·have h:¬ (Sum.inl a:Key) = Sum.inl b:=fun q=>e (Sum.inl.inj q)
  rw [decide_eq_false h]
  exact (beq_eq_false_iff_ne.mpr e).symm
theorem yvu (a b:Str):decide ((Sum.inr a:Key) = Sum.inr b) = decide (a = b):=by
 by_cases e:a = b
 ·subst e; simp
 ·have h:¬ (Sum.inr a:Key) = Sum.inr b:=fun q=>e (Sum.inr.inj q)
  rw [decide_eq_false h,decide_eq_false e]
theorem yu5 (a:Int) (b:Str):decide ((Sum.inl a:Key) = Sum.inr b) = false:=decide_eq_false (fun q=>nomatch q)
theorem yvq (a:Str) (b:Int):decide ((Sum.inr a:Key) = Sum.inl b) = false:=decide_eq_false (fun q=>nomatch q)
def xn (prog:Program) (w:World):PySem.KeyKind prog w Key where
 is:=ykf
 hash:=vb2 w
 inj:=fun v a b ha hb=>by
  rcases wn ha with ⟨i,t,rfl,rfl⟩ | ⟨x,t,rfl,rfl⟩
  ·rcases wn hb with ⟨j,u,rfl,e⟩ | ⟨y,u,rfl,e⟩
   ·injection e with e1 _; rw [e1]
   ·exact nomatch e
  ·rcases wn hb with ⟨j,u,rfl,e⟩ | ⟨y,u,rfl,e⟩
   ·exact nomatch e
   ·injection e with e1 _; rw [e1]
 byValue:=fun k v h=>by
  rcases wn h with ⟨i,t,rfl,rfl⟩ | ⟨x,t,rfl,rfl⟩ <;> rfl
 pyHash:=fun hv h=>by
  rcases wn hv with ⟨i,t,rfl,rfl⟩ | ⟨x,t,rfl,rfl⟩
  ·exact wpAny_pyHash_int h
  ·exact wpAny_pyHash_str h
 eqBool:=fun hu hv h=>by
  rcases wn hu with ⟨i,t,rfl,rfl⟩ | ⟨x,t,rfl,rfl⟩
  ·rcases wn hv with ⟨j,u,rfl,rfl⟩ | ⟨y,u,rfl,rfl⟩
   ·rw [yxk] at h; exact wpAny_eqBool_int h
   ·rw [yu5] at h; exact SeqAt.EqAt.int_str i t y u _ _ _ _ h
  ·rcases wn hv with ⟨j,u,rfl,rfl⟩ | ⟨y,u,rfl,rfl⟩
   ·rw [yvq] at h; exact SeqAt.EqAt.str_int x t j u _ _ _ _ h
   ·rw [yvu] at h; exact wpAny_eqBool_str h
 «strs»:=fun k x t v h=>by
  rcases wn h with ⟨i,u,rfl,e⟩ | ⟨y,u,rfl,e⟩
  ·exact nomatch e
  ·injection e with e1 _
   subst e1
   cases v <;> rfl
theorem ygv (prog:Program) (w:World) (i:Int) (t:Tok):(xn prog w).is (.inl i) (.int i t) = true:=yly i t
theorem ygn (prog:Program) (w:World) (x:Str) (t:Tok):(xn prog w).is (.inr x) (.str x t) = true:=yk0 x t
end L2
namespace L2
open PySem PySem.Spec PyProof.Rows
inductive V where
 | non | bl (b:Bool) | int (i:Int) | str (x:Str) | byt (b:Array UInt8) | flt (b:UInt64) | ref (a:Addr) | ty (n:String)
 deriving DecidableEq
def w8:V->Value->Prop
 | .non,u=>u = Value.none
 | .bl b,u=>u = Value.bool b
 | .int i,u=>∃ t,u = Value.int i t
 | .str x,u=>∃ t,u = Value.str x t
 | .byt b,u=>∃ t,u = Value.bytes b t
 | .flt b,u=>∃ t,u = Value.float b t
 | .ref a,u=>u = Value.ref a
 | .ty n,u=>u = Value.type n
abbrev wg:List V->List Value->Prop:=Paired w8
theorem wg.length {xs:List V} {us:List Value} (r:wg xs us):xs.length = us.length:=Paired.length r
theorem wg.get:∀ {xs:List V} {us:List Value} {i:Nat} {x:V},wg xs us->xs[i]? = some x->∃ u,us[i]? = some u/\w8 x u
 | _,_,_,_,.nil,e=>by simp at e
 | _,_,0,_,.cons r _,e=>by simp at e; subst e; exact ⟨_,rfl,r⟩
 | _,_,i + 1,x,.cons _ t,e=>by
  obtain ⟨u,h1,h2⟩:=wg.get (i:=i) (x:=x) t (by simpa using e)
  exact ⟨u,by simpa using h1,h2⟩
theorem wg.set {x:V} {u:Value} (r:w8 x u):∀ {xs:List V} {us:List Value} (i:Nat),wg xs us->wg (xs.set i x) (us.set i u)
 | _,_,_,.nil=>.nil
 | _,_,0,.cons _ t=>.cons r t
 | _,_,i + 1,.cons q t=>.cons q (wg.set r i t)
theorem wg.append:∀ {xs ys:List V} {us ws:List Value},wg xs us->wg ys ws->wg (xs ++ ys) (us ++ ws)
 | _,_,_,_,.nil,s=>s
 | _,_,_,_,.cons r t,s=>.cons r (wg.append t s)
theorem wg.take:∀ {xs:List V} {us:List Value} (n:Nat),wg xs us->wg (xs.take n) (us.take n)
 | _,_,0,_=>.nil
 | _,_,_ + 1,.nil=>.nil
 | _,_,n + 1,.cons r t=>.cons r (wg.take n t)
theorem wg.drop:∀ {xs:List V} {us:List Value} (n:Nat),wg xs us->wg (xs.drop n) (us.drop n)
 | _,_,0,r=>r
 | _,_,_ + 1,.nil=>.nil
 | _,_,n + 1,.cons _ t=>wg.drop n t
def ygh:Option V->Option Value->Prop
 | some v,some u=>w8 v u
 | none,none=>True
 | _,_=>False
def KV {κ:Type}:List (κ × V)->List (κ × Value)->Prop:=Paired fun (p:κ × V) (q:κ × Value)=>p.1 = q.1/\w8 p.2 q.2
def kV:Key->V
 | .inl i=>.int i
 | .inr x=>.str x
inductive HO where
 | lst (xs:List V)
 | tup (xs:List V)
 | dK (kvs:List (Key × V)) | dT (kvs:List (List Key × V))
 | set (S:Int->Bool) (n:Nat)
 | ins (C dx:Addr) (fs:List (Str × V))
 | own (x:Addr)
 | xd (fs:List (Str × V))
 | met (f x:Addr)
 | rng (lo hi:Int)
 | frz (o:Obj) (u:HO)
 | tbl (ps:Array Value)
 | ext (φ:Heap->Prop)
abbrev Hp:=Addr->Option HO
def upd (H:Hp) (a:Addr) (o:HO):Hp:=fun b=>if b = a then some o else H b
theorem yd {H:Hp} {a:Addr} {o:HO}:upd H a o a = some o:=by unfold upd; rw [if_pos rfl]
theorem yu {H:Hp} {a b:Addr} {o:HO} (h:b ≠ a):upd H a o b = H b:=by unfold upd; rw [if_neg h]
theorem xw {H:Hp} {a b:Addr} {o u:HO} (h:H a = some o) (h':H b = some u) (d:o ≠ u):a ≠ b:=by
 intro e; subst e; rw [h] at h'; exact d (Option.some.inj h')
theorem ye {H:Hp} {a b:Addr} {o:HO} (h:H a = some o) (h':H b = none):a ≠ b:=by
 intro e; subst e; rw [h] at h'; cases h'
section
variable (P:Program) (w:World)
def xk (H:Hp) (h:Heap) (a:Addr):HO->Prop
 | .lst xs=>xs.length <= sizeLine/\∃ (its:List Value) (n:Nat),wg xs its/\h.get? a = some { cls:=.type "list",data:=.seq its.toArray n }
 | .tup xs=>xs.length <= sizeLine/\∃ its:List Value,wg xs its/\IsTup h a its.toArray
 | .dK kvs=>kvs.length <= sizeLine/\(a == sysModules) = false/\∃ vs,KV kvs vs/\h.DictOf (xn P w) a vs
 | .dT kvs=>kvs.length <= sizeLine/\(a == sysModules) = false/\∃ xs:List (List Key × Addr × Value),
   Paired (fun (p:List Key × V) (q:List Key × Addr × Value)=>p.1 = q.1/\H q.2.1 = some (.tup (p.1.map kV))/\w8 p.2 q.2.2) kvs xs /\
   ∃ o es ep,h.get? a = some o/\o.ExactDict/\o.data = .dict es ep/\es.toList = xs.map (entryOfKey (tupleKind (xn P w)))/\(xs.map (·.1)).Nodup
 | .set S n=>h.SetOf (intKind P w) a S n
 | .ins C dx fs=>H dx = some (.own a)/\fs.length <= 1000/\dx ≠ a/\h.get? a = some (W.instObj C dx) /\
   ∃ mA,h.Ns1 dx mA/\(∀ f,ygh (fs.lookup f) (mA f))/\PySem.Within mA (fs.map (·.1))
 | .own _=>∃ o,h.get? a = some o
 | .xd fs=>∃ mA,h.Ns1 a mA/\∀ f,ygh (fs.lookup f) (mA f)
 | .rng lo hi=>∃ t u v,h.get? a = some { cls:=.type "range",data:=.fields #[.int lo t,.int hi u,.int 1 v] }
 | .frz o u=>h.get? a = some o/\xk H h a u
 | .tbl ps=>h.get? a = some { cls:=.none,data:=.fields ps }
 | .met f x=>h.get? a = some (W.methodObj (.ref f) (.ref x))
 | .ext φ=>φ h/\(∃ o,h.get? a = some o)/\∀ h1 h2:Heap,φ h1->(∀ o,h1.get? a = some o->h2.get? a = some o)->φ h2
def HOk (H:Hp) (h:Heap):Prop:=∀ a o,H a = some o->xk P w H h a o
end
section
variable {P:Program} {w:World} {H H':Hp} {h h':Heap} {a:Addr} {o:HO}
theorem xk.lt (x:xk P w H h a o):a < h.objs.size:=by
 cases o with
 | lst xs=>obtain ⟨_,_,_,_,e⟩:=x; exact Heap.lt_size e
 | tup xs=>obtain ⟨_,_,_,p⟩:=x; exact p.lt
 | dK kvs=>obtain ⟨_,_,_,_,o,_,_,e,_⟩:=x; exact Heap.lt_size e
 | dT kvs=>obtain ⟨_,_,_,_,o,_,_,e,_⟩:=x; exact Heap.lt_size e
 | set S n=>obtain ⟨o,_,_,_,e,_⟩:=x; exact Heap.lt_size e
 | ins C dx fs=>obtain ⟨_,_,_,e,_⟩:=x; exact Heap.lt_size e
 | own y=>obtain ⟨_,e⟩:=x; exact Heap.lt_size e
 | xd fs=>obtain ⟨_,⟨_,_,_,e,_⟩,_⟩:=x; exact Heap.lt_size e
 | rng lo hi=>obtain ⟨_,_,_,e⟩:=x; exact Heap.lt_size e
 | frz ob u=>obtain ⟨e,_⟩:=x; exact Heap.lt_size e
 | tbl ps=>exact Heap.lt_size (show h.get? a = some _ from x)
 | met f y=>exact Heap.lt_size (show h.get? a = some _ from x)
 | ext φ=>obtain ⟨_,⟨_,e⟩,_⟩:=x; exact Heap.lt_size e
theorem Paired.mapP {α β:Type} {F G:α->β->Prop}:∀ {l₁:List α} {l₂:List β},Paired F l₁ l₂->(∀ a b,F a b->G a b)->Paired G l₁ l₂
 | _,_,.nil,_=>.nil
 | _,_,.cons r t,f=>.cons (f _ _ r) (Paired.mapP t f)
theorem xk.stay (x:xk P w H h a o) (k:∀ b u,(b = a\/H b = some (.own a))->h.get? b = some u->h'.get? b = some u)
  (ho:∀ b,H b = some (.own a)->H' b = some (.own a)) (ht:∀ b xs,H b = some (.tup xs)->H' b = some (.tup xs)):xk P w H' h' a o:=by
 induction o with
 | lst xs=>obtain ⟨z,its,n,r,e⟩:=x; exact ⟨z,its,n,r,k _ _ (.inl rfl) e⟩
 | tup xs=>obtain ⟨z,its,r,ob,e,c⟩:=x; exact ⟨z,its,r,ob,k _ _ (.inl rfl) e,c⟩
 | dK kvs=>obtain ⟨z,y,vs,r,ob,es,ep,e,c⟩:=x; exact ⟨z,y,vs,r,ob,es,ep,k _ _ (.inl rfl) e,c⟩
 | dT kvs =>
  obtain ⟨z,y,xs,r,ob,es,ep,e,c⟩:=x
  exact ⟨z,y,xs,Paired.mapP r fun p q z=>⟨z.1,ht _ _ z.2.1,z.2.2⟩,ob,es,ep,k _ _ (.inl rfl) e,c⟩
 | set S n=>obtain ⟨ob,es,ep,t,e,c⟩:=x; exact ⟨ob,es,ep,t,k _ _ (.inl rfl) e,c⟩
 | ins C dx fs =>
  obtain ⟨d,z,ne,e,mA,⟨od,es,ep,e2,c⟩,r⟩:=x
  exact ⟨ho _ d,z,ne,k _ _ (.inl rfl) e,mA,⟨od,es,ep,k _ _ (.inr d) e2,c⟩,r⟩
 | own y=>obtain ⟨ob,e⟩:=x; exact ⟨ob,k _ _ (.inl rfl) e⟩
 | xd fs=>obtain ⟨mA,⟨od,es,ep,e,c⟩,r⟩:=x; exact ⟨mA,⟨od,es,ep,k _ _ (.inl rfl) e,c⟩,r⟩
 | rng lo hi=>obtain ⟨t,u,v,e⟩:=x; exact ⟨t,u,v,k _ _ (.inl rfl) e⟩
 | frz ob u ih=>obtain ⟨e,q⟩:=x; exact ⟨k _ _ (.inl rfl) e,ih q⟩
 | tbl ps =>
  have e:h.get? a = some { cls:=.none,data:=.fields ps }:=x
  show h'.get? a = some { cls:=.none,data:=.fields ps }
  exact k a _ (.inl rfl) e
 | met f y =>
  have e:h.get? a = some (W.methodObj (.ref f) (.ref y)):=x
  show h'.get? a = some (W.methodObj (.ref f) (.ref y))
  exact k a _ (.inl rfl) e
 | ext φ=>obtain ⟨p,⟨o,e⟩,st⟩:=x; exact ⟨st _ _ p fun o q=>k _ _ (.inl rfl) q,⟨o,k _ _ (.inl rfl) e⟩,st⟩
theorem HOk.lt (x:HOk P w H h) (e:H a = some o):a < h.objs.size:=(x a o e).lt
theorem HOk.fresh (x:HOk P w H h) (e:h.objs.size <= a):H a = none:=by
 cases q:H a with
 | none=>rfl
 | some u=>exact absurd (Nat.lt_of_lt_of_le (x.lt q) e) (Nat.lt_irrefl _)
theorem HOk.kept (x:HOk P w H h) (k:∀ b u,h.get? b = some u->h'.get? b = some u):HOk P w H h':=fun a o e =>
 (x a o e).stay (fun b u _ q=>k b u q) (fun _ q=>q) fun _ _ q=>q
theorem HOk.laid (x:HOk P w H h) (k:∀ b u,h.get? b = some u->h'.get? b = some u) (hp:h.objs.size <= a) (new:xk P w (upd H a o) h' a o):HOk P w (upd H a o) h':=fun b u e=>by
 have hn:=x.fresh hp
 by_cases hb:b = a
 ·subst hb; rw [yd] at e; cases e; exact new
 ·rw [yu hb] at e
  exact (x b u e).stay (fun c v _ q=>k c v q) (fun c q=>by rw [yu (ye q hn)]; exact q) fun c xs q=>by rw [yu (ye q hn)]; exact q
end
def Rd (H:Hp) (a:Addr) (u:HO):Prop:=H a = some u\/∃ o,H a = some (.frz o u)
theorem Rd.ok {P:Program} {w:World} {H:Hp} {h:Heap} {a:Addr} {u:HO} (r:Rd H a u) (x:HOk P w H h):xk P w H h a u:=by
 rcases r with r | ⟨o,r⟩
 ·exact x a u r
 ·obtain ⟨_,q⟩:=x a _ r
  exact q
def Mut:Option HO->Prop
 | some (.lst _)=>True
 | some (.dK _)=>True
 | some (.dT _)=>True
 | some (.set _ _)=>True
 | some (.ins _ _ _)=>True
 | some (.ext _)=>True
 | _=>False
section
variable {P:Program} {w:World} {H:Hp} {h h':Heap} {x e:Addr} {o':HO}
theorem HOk.write (ok:HOk P w H h) (mu:Mut (H x)) (he:e = x\/H e = some (.own x)) (k:∀ b u,b ≠ e->h.get? b = some u->h'.get? b = some u) (heo:∃ u,h'.get? e = some u)
  (new:xk P w (upd H x o') h' x o'):HOk P w (upd H x o') h':=fun b u q=>by
 have nown:∀ c y,H c = some (.own y)->c ≠ x:=fun c y r z=>by subst z; rw [r] at mu; exact mu
 have ntup:∀ c xs,H c = some (.tup xs)->c ≠ x:=fun c xs r z=>by subst z; rw [r] at mu; exact mu
 by_cases hb:b = x
 ·subst hb; rw [yd] at q; cases q; exact new
 ·rw [yu hb] at q
  by_cases hbe:b = e
  ·have q':H b = some (.own x):=by
    rcases he with z | z
    ·exact absurd (hbe.trans z) hb
    ·rw [hbe]; exact z
   rw [q] at q'; cases q'
   obtain ⟨v,hv⟩:=heo
   exact ⟨v,by rw [hbe]; exact hv⟩
  ·refine (ok b u q).stay (fun c v hc r=>k c v ?_ r) (fun c r=>by rw [yu (nown c b r)]; exact r) fun c xs r=>by rw [yu (ntup c xs r)]; exact r
   rcases hc with rfl | hc
   ·exact hbe
   ·rintro rfl
    rcases he with z | z
    ·exact nown c b hc z
    ·rw [hc] at z; cases z; exact hb rfl
end
structure Un (fs ex:List Addr) (H H':Hp) (h h':Heap):Prop where
 keep:∀ b o,h.get? b = some o->H b = none->b ∉ fs->b ∉ ex->h'.get? b = some o
 slot:∀ b o,h.get? b = some o->H b = none->b ∈ fs->b ∉ ex->∃ sl,h'.get? b = some { o with slots:=sl }
 free:∀ b o,h.get? b = some o->H b = none->b ∉ ex->H' b = none
 there:∀ b o,h.get? b = some o->b ∉ ex->∃ o',h'.get? b = some o'
 tups:∀ b xs,H b = some (.tup xs)->H' b = some (.tup xs)
 frzs:∀ b o u,H b = some (.frz o u)->H' b = some (.frz o u)
 tbls:∀ b ps,H b = some (.tbl ps)->∃ more,H' b = some (.tbl (ps ++ more))
section
variable {fs fs' ex ex':List Addr} {H H1 H2:Hp} {h h1 h2 h':Heap} {a x e:Addr} {o:HO}
theorem Un.any (u:Un fs ex H H1 h h1) {b:Addr} {ob:Obj} (q:h.get? b = some ob) (n:H b = none) (hx:b ∉ ex):∃ sl,h1.get? b = some { ob with slots:=sl }:=by
 by_cases hb:b ∈ fs
 ·exact u.slot b ob q n hb hx
 ·exact ⟨ob.slots,u.keep b ob q n hb hx⟩
theorem Un.kept (k:∀ b u,h.get? b = some u->h'.get? b = some u):Un fs ex H H h h' :=
 ⟨fun b ob q _ _ _=>k b ob q,fun b ob q _ _ _=>⟨ob.slots,k b ob q⟩,fun _ _ _ n _=>n,fun b ob q _=>⟨ob,k b ob q⟩,fun _ _ q=>q,fun _ _ _ q=>q,fun _ ps q=>⟨#[],by rw [q]; simp⟩⟩
theorem Un.refl:Un fs ex H H h h:=Un.kept fun _ _ q=>q
theorem Un.laid (k:∀ b u,h.get? b = some u->h'.get? b = some u) (hp:h.objs.size <= a) (hn:H a = none):Un fs ex H (upd H a o) h h' where
 keep:=fun b u q _ _ _=>k b u q
 slot:=fun b u q _ _ _=>⟨u.slots,k b u q⟩
 free:=fun b u q n _=>by rw [yu (Nat.ne_of_lt (Nat.lt_of_lt_of_le (Heap.lt_size q) hp))]; exact n
 there:=fun b u q _=>⟨u,k b u q⟩
 tups:=fun b xs q=>by rw [yu (ye q hn)]; exact q
 frzs:=fun b u xs q=>by rw [yu (ye q hn)]; exact q
 tbls:=fun b ps q=>⟨#[],by rw [yu (ye q hn),q]; simp⟩
theorem Un.write (mu:Mut (H x)) (he:e = x\/H e = some (.own x)) (k:∀ b u,b ≠ e->h.get? b = some u->h'.get? b = some u) (heo:∃ u,h'.get? e = some u):Un fs ex H (upd H x o) h h':=by
 have hx:∀ b,H b = none->b ≠ x:=fun b n z=>by subst z; rw [n] at mu; exact mu
 have hb:∀ b,H b = none->b ≠ e:=fun b n z=>by
  subst z
  rcases he with r | r
  ·exact hx b n r
  ·rw [n] at r; cases r
 have hm:∀ b u,H b = some u->¬ Mut (some u)->b ≠ x:=fun b u q nm z=>by subst z; rw [q] at mu; exact nm mu
 refine ⟨fun b u q n _ _=>k b u (hb b n) q,fun b u q n _ _=>⟨u.slots,k b u (hb b n) q⟩,fun b u q n _=>by rw [yu (hx b n)]; exact n,fun b u q _=>?_,
  fun b xs q=>by rw [yu (hm b _ q fun z=>z)]; exact q,fun b u xs q=>by rw [yu (hm b _ q fun z=>z)]; exact q,fun b ps q=>⟨#[],by rw [yu (hm b _ q fun z=>z),q]; simp⟩⟩
 by_cases hbe:b = e
 ·subst hbe; exact heo
 ·exact ⟨u,k b u hbe q⟩
end
def trk (h:Heap) (H:Hp):List Addr:=(List.range h.objs.size).filter fun a=>(H a).isSome
def ypy (h:Heap) (H:Hp):Heap:=W.hideAll h (trk h H)
theorem ylc (h:Heap) (H:Hp):(ypy h H).objs.size = h.objs.size:=W.hideAll_size _ _
theorem yny {h:Heap} {H:Hp} {b:Addr} {o:Obj} (e:h.get? b = some o) (n:H b = none):(ypy h H).get? b = some o :=
 W.hideAll_get _ e fun hm=>by
  have q:(H b).isSome = true:=(List.mem_filter.mp hm).2
  rw [n] at q; simp at q
theorem yr0 {h:Heap} {H:Hp} {b:Addr} {o:Obj} (e:(ypy h H).get? b = some o):h.get? b = some o/\H b = none:=by
 have e':h.get? b = some o:=W.of_hideAll (trk h H) e
 refine ⟨e',?_⟩
 cases q:H b with
 | none=>rfl
 | some x =>
  have hm:b ∈ trk h H:=List.mem_filter.mpr ⟨List.mem_range.mpr (Heap.lt_size e'),by simp [q]⟩
  have z:(ypy h H).get? b = none:=W.hideAll_none (trk h H) hm
  rw [z] at e; cases e
def ytl (g h:Heap) (L:Addr):List (Addr × Obj):=(List.range h.objs.size).filterMap fun a=>if a = L\/(g.get? a).isSome = true then none else (h.get? a).map fun o=>(a,o)
def j5 (g h:Heap) (L d:Addr):List (Addr × Obj):=(ytl g h L).filter fun p=>decide (p.1 ≠ d)
end L2
namespace L2
open PySem PySem.Spec PyProof.Rows
structure Mod (K:W.Frag) (mg:Str->Option Value) (base:Heap):Prop where
 kin:K.In base
 glob:base.Ns mainGlobals mg
 blt:∃ mb,base.Ns builtinsNs mb/\∀ x:Str,x ≠ "__name__"->mb x = bootBuiltins x
 nolimit:base.NoLimit
structure Cx where
 prog:Program
 w:World
 K:W.Frag
 mg:Str->Option Value
 base:Heap
 A:Around
 N:List Str
 s₀:Shared
 H₀:Hp
 env:Env
 outer:List Env
 stack:List Env
 ex:List Addr
 fn:Str->Bool
 calm:Bool
 pn:List (Addr × Obj)
 xe:Value->Shared->Prop
def frs (l:List Env):List Addr:=l.filterMap (·.frame)
abbrev Cx.fs (X:Cx):List Addr:=frs X.outer
def Vis (sc:Scope) (x:Str):Prop:=sc.names.lookup x = some .local\/sc.names.lookup x = some .cell\/sc.names.lookup x = some .free
def Loc (sc:Scope) (x:Str):Prop:=sc.names.lookup x = some .local\/sc.names.lookup x = some .cell
def vbu (env:Env) (h:Heap) (m:Str->Option Value) (x:Str) (u:Value):Prop :=
 (env.kindOf x = some .local/\m x = some u)\/((env.kindOf x = some .cell\/env.kindOf x = some .free)/\∃ c,env.cells.lookup x = some c/\h.IsCell c (some u))
structure Cx.Ok (X:Cx):Prop where
 mod:Mod X.K X.mg X.base
 kind:X.env.scope.kind = .function
 glob:X.env.globals = mainGlobals
 blt:X.env.builtins = builtinsNs
 above:X.s₀.heap.objs.size <= X.env.locals
 inj:∀ x y c,X.env.cells.lookup x = some c->X.env.cells.lookup y = some c->x = y
 has:∀ x,(X.env.kindOf x = some .cell\/X.env.kindOf x = some .free)->∃ c,X.env.cells.lookup x = some c
 cab:∀ x c,X.fn x = true->X.env.cells.lookup x = some c->X.s₀.heap.objs.size <= c
 hd:X.calm = true->X.A.handled = none
 frames:X.A.frames = some X.stack
 stk:X.stack = X.outer\/(X.stack = X.env :: X.outer/\X.env.frame = some X.env.locals)
 exf:∀ b ∈ X.ex,b ≠ X.env.locals/\∀ x c,X.env.cells.lookup x = some c->c ≠ b
 bs:∀ b o,X.base.get? b = some o->X.s₀.heap.get? b = some o/\X.H₀ b = none
 bsz:X.base.objs.size <= X.s₀.heap.objs.size
 noex:∀ b o,X.base.get? b = some o->b ∉ X.ex
 exfs:∀ b ∈ X.ex,b ∉ X.fs
 funs:X.s₀.heap.FunFrames X.base X.outer
 frf:∀ b ∈ X.fs,X.H₀ b = none
structure Inv (X:Cx) (pins:List (Addr × Obj)) (σ:List (Option V)) (H:Hp) (s:Shared):Prop where
 ok:X.Ok
 os:s.os = X.s₀.os
 bare:AllBare s.gens
 base:Un X.fs X.ex X.H₀ H X.s₀.heap s.heap
 loc:∃ m,s.heap.Ns X.env.locals m/\∀ (i:Nat) (x:Str) (v:V),X.N[i]? = some x->σ[i]? = some (some v)->Vis X.env.scope x->∃ u,w8 v u/\vbu X.env s.heap m x u
 cell:∀ x c,X.env.cells.lookup x = some c->∃ v,s.heap.IsCell c v
 free:H X.env.locals = none
 freeC:∀ x c,X.env.cells.lookup x = some c->H c = none
 pin:∀ p ∈ X.pn ++ pins,s.heap.get? p.1 = some p.2/\H p.1 = none/\p.1 ≠ X.env.locals/\p.1 ∉ X.fs/\∀ v,p.2.data ≠ .cell v
 hok:HOk X.prog X.w H s.heap
 len:σ.length = X.N.length
section
variable {X:Cx} {pins:List (Addr × Obj)} {σ:List (Option V)} {H H':Hp} {s:Shared} {h':Heap}
theorem Cx.Ok.nofr (ok:X.Ok) {b:Addr} {o:Obj} (e:X.base.get? b = some o):b ∉ X.fs:=fun hb=>by
 have:=(ok.funs.mem hb).1
 rw [e] at this; cases this
theorem Inv.bs (I:Inv X pins σ H s):∀ b o,X.base.get? b = some o->s.heap.get? b = some o/\H b = none:=fun b o e =>
 ⟨I.base.keep b o (I.ok.bs b o e).1 (I.ok.bs b o e).2 (I.ok.nofr e) (I.ok.noex b o e),I.base.free b o (I.ok.bs b o e).1 (I.ok.bs b o e).2 (I.ok.noex b o e)⟩
theorem Inv.bk (I:Inv X pins σ H s):∀ b o,X.base.get? b = some o->s.heap.get? b = some o:=fun b o e=>(I.bs b o e).1
theorem Inv.mod (I:Inv X pins σ H s):Mod X.K X.mg X.base:=I.ok.mod
theorem Inv.kIn (I:Inv X pins σ H s):X.K.In s.heap:=I.ok.mod.kin.keeps I.bk
theorem Inv.lt (I:Inv X pins σ H s):X.env.locals < s.heap.objs.size:=let ⟨_,hn,_⟩:=I.loc; hn.lt
theorem Inv.sz (I:Inv X pins σ H s):X.s₀.heap.objs.size <= s.heap.objs.size:=Nat.le_trans I.ok.above (Nat.le_of_lt I.lt)
theorem Inv.nofs (I:Inv X pins σ H s) {a:Addr} (h:s.heap.objs.size <= a):a ∉ X.fs:=fun hb=>by
 obtain ⟨_,o,ho,_⟩:=I.ok.funs.mem hb
 exact absurd (Nat.lt_of_lt_of_le (Heap.lt_size ho) (Nat.le_trans I.sz h)) (Nat.lt_irrefl _)
theorem Inv.cne (I:Inv X pins σ H s):∀ x c,X.env.cells.lookup x = some c->c ≠ X.env.locals:=fun x c e z=>by
 obtain ⟨v,o,ho,hd⟩:=I.cell x c e
 obtain ⟨m,⟨o',es,ep,ho',hd',_⟩,_⟩:=I.loc
 rw [z,ho'] at ho; cases ho; rw [hd'] at hd; cases hd
theorem Inv.funs (I:Inv X pins σ H s):s.heap.FunFrames X.base X.outer:=by
 have all:∀ (l:List Env),(∀ b ∈ frs l,b ∈ X.fs)->X.s₀.heap.FunFrames X.base l->s.heap.FunFrames X.base l:=by
  intro l
  induction l with
  | nil=>intro _ _; trivial
  | cons env r ih =>
   intro hs hl
   obtain ⟨hk,⟨L,o,hf,hn,ho,hd⟩,hr⟩:=hl
   have hL:L ∈ X.fs:=hs L (by unfold frs; rw [List.filterMap_cons,hf]; exact List.mem_cons_self)
   obtain ⟨sl,e⟩:=I.base.slot L o ho (I.ok.frf L hL) hL fun z=>I.ok.exfs L z hL
   exact ⟨hk,⟨L,_,hf,hn,e,hd⟩,ih (fun b hb=>hs b (by unfold frs; rw [List.filterMap_cons,hf]; exact List.mem_cons_of_mem _ hb)) hr⟩
 exact all X.outer (fun _ hb=>hb) I.ok.funs
theorem Inv.stack (I:Inv X pins σ H s):s.heap.FunFrames X.base X.stack:=by
 rcases I.ok.stk with e | ⟨e,hf⟩
 ·rw [e]; exact I.funs
 ·rw [e]
  obtain ⟨m,hn,_⟩:=I.loc
  refine .cons (by rw [I.ok.kind]; decide) hf hn ?_ I.funs
  exact Heap.get?_none_of_le (Nat.le_trans I.ok.bsz I.ok.above)
theorem Inv.stkSub (I:Inv X pins σ H s):∀ b ∈ frs X.stack,b ∈ X.env.locals :: X.fs:=fun b hb=>by
 rcases I.ok.stk with e | ⟨e,hf⟩
 ·rw [e] at hb; exact List.mem_cons_of_mem _ hb
 ·rw [e] at hb
  unfold frs at hb
  rw [List.filterMap_cons,hf] at hb
  exact hb
theorem Inv.stkFree (I:Inv X pins σ H s):∀ b ∈ frs X.stack,H b = none:=fun b hb=>by
 rcases List.mem_cons.mp (I.stkSub b hb) with e | hb
 ·rw [e]; exact I.free
 ·obtain ⟨_,o,ho,_⟩:=I.ok.funs.mem hb
  exact I.base.free b o ho (I.ok.frf b hb) fun z=>I.ok.exfs b z hb
theorem Inv.step {g':Array GenState} {t':Nat} {d':Drawn} {ch:List Addr} (I:Inv X pins σ H s)
  (hch:∀ b ∈ ch,(b ∈ X.ex\/X.s₀.heap.objs.size <= b)/\b ≠ X.env.locals/\(∀ x c,X.env.cells.lookup x = some c->c ≠ b)/\∀ p ∈ X.pn ++ pins,p.1 ≠ b)
  (keep:∀ b o,b ≠ X.env.locals->b ∉ X.fs->b ∉ ch->s.heap.get? b = some o->H b = none->h'.get? b = some o)
  (slot:∀ b o,b ≠ X.env.locals->b ∈ X.fs->b ∉ ch->s.heap.get? b = some o->H b = none->∃ sl,h'.get? b = some { o with slots:=sl }) (free:∀ b o,b ∉ ch->s.heap.get? b = some o->H b = none->H' b = none)
  (there:∀ b o,b ∉ ch->s.heap.get? b = some o->∃ o',h'.get? b = some o')
  (tups:∀ b xs,H b = some (.tup xs)->H' b = some (.tup xs)) (frzs:∀ b o u,H b = some (.frz o u)->H' b = some (.frz o u)) (tbls:∀ b ps,H b = some (.tbl ps)->∃ more,H' b = some (.tbl (ps ++ more)))
  (ns:∀ m,s.heap.Ns X.env.locals m->h'.Ns X.env.locals m) (hok:HOk X.prog X.w H' h') (hg:AllBare g') :
  Inv X pins σ H' { s with heap:=h',gens:=g',drawn:=d',toks:=t' }:=by
 have neL:∀ b o,X.s₀.heap.get? b = some o->b ≠ X.env.locals:=fun b o e=>Nat.ne_of_lt (Nat.lt_of_lt_of_le (Heap.lt_size e) I.ok.above)
 have neC:∀ b o,X.s₀.heap.get? b = some o->b ∉ X.ex->b ∉ ch:=fun b o e hx hb=>by
  rcases (hch b hb).1 with z | z
  ·exact hx z
  ·exact absurd (Nat.lt_of_lt_of_le (Heap.lt_size e) z) (Nat.lt_irrefl _)
 have cellK:∀ x c,X.env.cells.lookup x = some c->∀ v,s.heap.IsCell c v->h'.IsCell c v:=fun x c e v ⟨o,ho,hd⟩=>by
  have nch:c ∉ ch:=fun z=>(hch c z).2.2.1 x c e rfl
  by_cases hc:c ∈ X.fs
  ·obtain ⟨sl,q⟩:=slot c o (I.cne x c e) hc nch ho (I.freeC x c e)
   exact ⟨_,q,hd⟩
  ·exact ⟨o,keep c o (I.cne x c e) hc nch ho (I.freeC x c e),hd⟩
 refine ⟨I.ok,I.os,hg,⟨fun b o e n hb hx=>?_,fun b o e n hb hx=>?_,fun b o e n hx=>?_,fun b o e hx=>?_,fun b xs e=>tups b xs (I.base.tups b xs e),fun b o xs e=>frzs b o xs (I.base.frzs b o xs e),fun b ps e=>?_⟩,?_,fun x c e=>?_,?_,fun x c e=>?_,fun p hp=>?_,hok,I.len⟩
 ·exact keep b o (neL b o e) hb (neC b o e hx) (I.base.keep b o e n hb hx) (I.base.free b o e n hx)
 ·obtain ⟨sl,e1⟩:=I.base.slot b o e n hb hx
  obtain ⟨sl',e2⟩:=slot b _ (neL b o e) hb (neC b o e hx) e1 (I.base.free b o e n hx)
  exact ⟨sl',e2⟩
 ·obtain ⟨o',e1⟩:=I.base.there b o e hx
  exact free b o' (neC b o e hx) e1 (I.base.free b o e n hx)
 ·obtain ⟨o',e1⟩:=I.base.there b o e hx
  exact there b o' (neC b o e hx) e1
 ·obtain ⟨m1,e1⟩:=I.base.tbls b ps e
  obtain ⟨m2,e2⟩:=tbls b _ e1
  exact ⟨m1 ++ m2,by rw [e2,Array.append_assoc]⟩
 ·obtain ⟨m,hn,hl⟩:=I.loc
  refine ⟨m,ns m hn,fun i x v e1 e2 e3=>?_⟩
  obtain ⟨u,r,l⟩:=hl i x v e1 e2 e3
  refine ⟨u,r,?_⟩
  rcases l with l | ⟨k,c,e,z⟩
  ·exact .inl l
  ·exact .inr ⟨k,c,e,cellK x c e _ z⟩
 ·obtain ⟨v,z⟩:=I.cell x c e
  exact ⟨v,cellK x c e v z⟩
 ·obtain ⟨m,⟨o,_,_,ho,_⟩,_⟩:=I.loc
  exact free _ o (fun z=>(hch _ z).2.1 rfl) ho I.free
 ·obtain ⟨v,o,ho,hd⟩:=I.cell x c e
  exact free c o (fun z=>(hch c z).2.2.1 x c e rfl) ho (I.freeC x c e)
 ·obtain ⟨e,n,ne,nf,d⟩:=I.pin p hp
  have nch:p.1 ∉ ch:=fun z=>(hch p.1 z).2.2.2 p hp rfl
  exact ⟨keep p.1 p.2 ne nf nch e n,free p.1 p.2 nch e n,ne,nf,d⟩
theorem Inv.un {t':Nat} (I:Inv X pins σ H s) (u:Un X.fs [] H H' s.heap h') (hok:HOk X.prog X.w H' h'):Inv X pins σ H' { s with heap:=h',toks:=t' }:=by
 obtain ⟨m,⟨o,es,ep,ho,r⟩,_⟩:=id I.loc
 obtain ⟨sl,hL⟩:=u.any ho I.free (by simp)
 exact I.step (g':=s.gens) (d':=s.drawn) (ch:=[]) (fun _ z=>nomatch z) (fun b o _ hb _ e n=>u.keep b o e n hb (by simp)) (fun b o _ hb _ e n=>u.slot b o e n hb (by simp)) (fun b o _ e n=>u.free b o e n (by simp)) (fun b o _ e=>u.there b o e (by simp)) u.tups u.frzs u.tbls (fun m' hm=>by
  obtain ⟨o',es',ep',ho',r'⟩:=hm
  rw [ho] at ho'; cases ho'
  exact ⟨_,es',ep',hL,r'⟩) hok I.bare
theorem Inv.call {g':Array GenState} {t':Nat} {d':Drawn} {ch:List Addr} (I:Inv X pins σ H s) (u:Un (frs X.stack) ch H H' s.heap h') (hok:HOk X.prog X.w H' h') (hg:AllBare g')
  (hch:∀ b ∈ ch,(b ∈ X.ex\/X.s₀.heap.objs.size <= b)/\b ≠ X.env.locals/\(∀ x c,X.env.cells.lookup x = some c->c ≠ b)/\∀ p ∈ X.pn ++ pins,p.1 ≠ b) :
  Inv X pins σ H' { s with heap:=h',gens:=g',drawn:=d',toks:=t' }:=by
 obtain ⟨m,⟨o,es,ep,ho,r⟩,_⟩:=id I.loc
 obtain ⟨sl,hL⟩:=u.any ho I.free fun z=>(hch _ z).2.1 rfl
 exact I.step (ch:=ch) hch (fun b o hL hb hc e n=>u.keep b o e n (fun z=>(List.mem_cons.mp (I.stkSub b z)).elim hL hb) hc) (fun b o _ _ hc e n=>u.any e n hc) (fun b o hc e n=>u.free b o e n hc) (fun b o hc e=>u.there b o e hc) u.tups u.frzs u.tbls (fun m' hm=>by
  obtain ⟨o',es',ep',ho',r'⟩:=hm
  rw [ho] at ho'; cases ho'
  exact ⟨_,es',ep',hL,r'⟩) hok hg
theorem Inv.turned {t':Nat} {it:Addr} (I:Inv X pins σ H s) (k:∀ b o,b ≠ it->s.heap.get? b = some o->h'.get? b = some o) (hn:H it = none) (hL:it ≠ X.env.locals)
  (h1:it ∈ X.ex\/X.s₀.heap.objs.size <= it) (h2:∀ x c,X.env.cells.lookup x = some c->c ≠ it) (h3:∀ p ∈ X.pn ++ pins,p.1 ≠ it):Inv X pins σ H { s with heap:=h',toks:=t' }:=by
 have nit:∀ b u,H b = some u->b ≠ it:=fun b u e z=>by rw [z,hn] at e; cases e
 refine I.step (g':=s.gens) (d':=s.drawn) (ch:=[it]) (fun b hb=>?_) (fun b o _ _ hc e _=>k b o (fun z=>hc (by simp [z])) e) (fun b o _ _ hc e _=>⟨o.slots,k b o (fun z=>hc (by simp [z])) e⟩) (fun _ _ _ _ n=>n)
  (fun b o hc e=>⟨o,k b o (fun z=>hc (by simp [z])) e⟩) (fun _ _ e=>e) (fun _ _ _ e=>e) (fun b ps e=>⟨#[],by rw [e]; simp⟩) (fun m hm=>?_) (fun b u e=>?_) I.bare
 ·have e:b = it:=by simpa using hb
  subst e
  exact ⟨h1,hL,h2,h3⟩
 ·obtain ⟨o,es,ep,ho,r⟩:=hm
  exact ⟨o,es,ep,k _ o (Ne.symm hL) ho,r⟩
 ·refine (I.hok b u e).stay (fun c v hc q=>k c v ?_ q) (fun _ q=>q) fun _ _ q=>q
  rcases hc with z | z
  ·rw [z]; exact nit b u e
  ·exact nit c _ z
theorem Inv.tok (I:Inv X pins σ H s) (t:Nat):Inv X pins σ H { s with toks:=t }:=I.un (h':=s.heap) (t':=t) Un.refl I.hok
theorem Inv.kept {t':Nat} (I:Inv X pins σ H s) (k:∀ b u,s.heap.get? b = some u->h'.get? b = some u):Inv X pins σ H { s with heap:=h',toks:=t' }:=I.un (Un.kept k) (I.hok.kept k)
theorem Inv.laid {a:Addr} {o:HO} {t':Nat} (I:Inv X pins σ H s) (k:∀ b u,s.heap.get? b = some u->h'.get? b = some u) (hp:s.heap.objs.size <= a) (new:xk X.prog X.w (upd H a o) h' a o) :
  Inv X pins σ (upd H a o) { s with heap:=h',toks:=t' }:=I.un (Un.laid k hp (I.hok.fresh hp)) (I.hok.laid k hp new)
theorem Inv.write {x e:Addr} {o:HO} {t':Nat} (I:Inv X pins σ H s) (mu:Mut (H x)) (he:e = x\/H e = some (.own x)) (k:∀ b u,b ≠ e->s.heap.get? b = some u->h'.get? b = some u) (heo:∃ u,h'.get? e = some u)
  (new:xk X.prog X.w (upd H x o) h' x o):Inv X pins σ (upd H x o) { s with heap:=h',toks:=t' }:=I.un (Un.write mu he k heo) (I.hok.write mu he k heo new)
theorem Inv.pins_of {pins':List (Addr × Obj)} (I:Inv X pins σ H s) (h:∀ p ∈ pins',s.heap.get? p.1 = some p.2/\H p.1 = none/\p.1 ≠ X.env.locals/\p.1 ∉ X.fs/\∀ v,p.2.data ≠ .cell v):Inv X pins' σ H s :=
 ⟨I.ok,I.os,I.bare,I.base,I.loc,I.cell,I.free,I.freeC,fun p hp=>(List.mem_append.mp hp).elim (fun z=>I.pin p (List.mem_append_left _ z)) (h p),I.hok,I.len⟩
theorem yh0 {N:List Str} (hN:N.Nodup) {i j:Nat} {x:Str} (a:N[i]? = some x) (b:N[j]? = some x):i = j:=by
 obtain ⟨h1,e1⟩:=List.getElem?_eq_some_iff.mp a
 obtain ⟨h2,e2⟩:=List.getElem?_eq_some_iff.mp b
 exact (List.getElem_inj hN).mp (e1.trans e2.symm)
theorem jj {M:Model} {A:Around} {E:Value->Shared->Prop} {i:Nat} {x:Str} {v:V} {u:Value} {Q:Unit->Shared->Prop} (I:Inv X pins σ H s) (hN:X.N.Nodup) (hi:X.N[i]? = some x) (hx:Loc X.env.scope x) (r:w8 v u)
  (h:∀ s',Inv X pins (σ.set i (some v)) H s'->(∃ a,Heap.SameBut a s.heap s'.heap/\(a = X.env.locals\/X.env.cells.lookup x = some a))->Q () s') (hf:X.fn x = true\/X.env.scope.names.lookup x = some .local:=by first | exact .inl rfl | exact .inr rfl | assumption):wpAny M A (storeName X.env x u) Q E s:=by
 obtain ⟨m,hn,hl⟩:=id I.loc
 have hcls:(X.env.scope.kind == .class || (X.env.scope.kind == .module && X.env.locals != X.env.globals)) = false:=by rw [I.ok.kind]; rfl
 have hiσ:i < σ.length:=by rw [I.len]; exact (List.getElem?_eq_some_iff.mp hi).1
 have cne:=I.cne
 have tracked:∀ {a:Addr} {h':Heap},(∃ o,s.heap.get? a = some o/\H a = none)->Heap.SameBut a s.heap h'->HOk X.prog X.w H h':=fun {a h'} ha hs b ob e=>by
  obtain ⟨_,_,hfree⟩:=ha
  refine (I.hok b ob e).stay (fun c w' hc q=>(hs.2 c ?_).trans q) (fun _ q=>q) fun _ _ q=>q
  rintro rfl
  rcases hc with rfl | hc
  ·rw [hfree] at e; cases e
  ·rw [hfree] at hc; cases hc
 rcases hx with hk | hk
 ·refine wpAny_storeName_local hk hn (fun h' hn' hs=>?_) hcls
  obtain ⟨oL,_,_,hoL,_⟩:=id hn
  refine h _ ⟨I.ok,I.os,I.bare,⟨fun b o e n hb hx=>?_,fun b o e n hb hx=>?_,I.base.free,fun b o e hx=>?_,I.base.tups,I.base.frzs,I.base.tbls⟩,⟨_,hn',fun j y v' e1 e2 e3=>?_⟩,fun y c e=>?_,I.free,I.freeC,fun p hp=>?_,tracked ⟨oL,hoL,I.free⟩ hs,by simpa using I.len⟩ ⟨_,hs,.inl rfl⟩
  ·exact (hs.2 b (Nat.ne_of_lt (Nat.lt_of_lt_of_le (Heap.lt_size e) I.ok.above))).trans (I.base.keep b o e n hb hx)
  ·obtain ⟨sl,e1⟩:=I.base.slot b o e n hb hx
   exact ⟨sl,(hs.2 b (Nat.ne_of_lt (Nat.lt_of_lt_of_le (Heap.lt_size e) I.ok.above))).trans e1⟩
  ·obtain ⟨o',e1⟩:=I.base.there b o e hx
   exact ⟨o',(hs.2 b (Nat.ne_of_lt (Nat.lt_of_lt_of_le (Heap.lt_size e) I.ok.above))).trans e1⟩
  ·by_cases hj:j = i
   ·subst hj
    rw [hi] at e1; cases e1
    rw [List.getElem?_set_self hiσ] at e2
    cases e2
    exact ⟨u,r,.inl ⟨hk,by simp⟩⟩
   ·rw [List.getElem?_set_ne (Ne.symm hj)] at e2
    obtain ⟨u',r',q⟩:=hl j y v' e1 e2 e3
    refine ⟨u',r',?_⟩
    rcases q with ⟨k,e⟩ | ⟨k,c,e,z⟩
    ·refine .inl ⟨k,?_⟩
     have:y ≠ x:=fun e=>hj (yh0 hN e1 (e ▸ hi))
     simp [this,e]
    ·exact .inr ⟨k,c,e,z.sameBut hs (cne y c e)⟩
  ·obtain ⟨w',z⟩:=I.cell y c e
   exact ⟨w',z.sameBut hs (cne y c e)⟩
  ·obtain ⟨e,n,ne,nf,d⟩:=I.pin p hp
   exact ⟨(hs.2 p.1 ne).trans e,n,ne,nf,d⟩
 ·have hfn:X.fn x = true:=by
   rcases hf with z | z
   ·exact z
   ·rw [z] at hk; cases hk
  obtain ⟨c,hc⟩:=I.ok.has x (.inl hk)
  obtain ⟨w',z⟩:=I.cell x c hc
  refine wpAny_storeName_cell I.ok.kind hk hc z (fun h' hc' hs=>?_)
  obtain ⟨oc,hoc,hocd⟩:=id z
  refine h { s with heap:=h' } ⟨I.ok,I.os,I.bare,⟨fun b o e n hb hx=>?_,fun b o e n hb hx=>?_,I.base.free,fun b o e hx=>?_,I.base.tups,I.base.frzs,I.base.tbls⟩,⟨m,hn.sameBut hs (Ne.symm (cne x c hc)),fun j y v' e1 e2 e3=>?_⟩,fun y c' e=>?_,I.free,I.freeC,fun p hp=>?_,tracked ⟨oc,hoc,I.freeC x c hc⟩ hs,by simpa using I.len⟩ ⟨c,hs,.inr hc⟩
  ·exact (hs.2 b (Nat.ne_of_lt (Nat.lt_of_lt_of_le (Heap.lt_size e) (I.ok.cab x c hfn hc)))).trans (I.base.keep b o e n hb hx)
  ·obtain ⟨sl,e1⟩:=I.base.slot b o e n hb hx
   exact ⟨sl,(hs.2 b (Nat.ne_of_lt (Nat.lt_of_lt_of_le (Heap.lt_size e) (I.ok.cab x c hfn hc)))).trans e1⟩
  ·obtain ⟨o',e1⟩:=I.base.there b o e hx
   exact ⟨o',(hs.2 b (Nat.ne_of_lt (Nat.lt_of_lt_of_le (Heap.lt_size e) (I.ok.cab x c hfn hc)))).trans e1⟩
  ·by_cases hj:j = i
   ·subst hj
    rw [hi] at e1; cases e1
    rw [List.getElem?_set_self hiσ] at e2
    cases e2
    exact ⟨u,r,.inr ⟨.inl hk,c,hc,hc'⟩⟩
   ·rw [List.getElem?_set_ne (Ne.symm hj)] at e2
    obtain ⟨u',r',q⟩:=hl j y v' e1 e2 e3
    refine ⟨u',r',?_⟩
    rcases q with q | ⟨k,c',e,z'⟩
    ·exact .inl q
    ·refine .inr ⟨k,c',e,z'.sameBut hs ?_⟩
     rintro rfl
     exact hj (yh0 hN e1 (I.ok.inj _ _ _ e hc ▸ hi))
  ·by_cases hcc:c' = c
   ·subst hcc; exact ⟨_,hc'⟩
   ·obtain ⟨w2,z2⟩:=I.cell y c' e
    exact ⟨w2,z2.sameBut hs hcc⟩
  ·obtain ⟨e,n,ne,nf,d⟩:=I.pin p hp
   refine ⟨(hs.2 p.1 ?_).trans e,n,ne,nf,d⟩
   intro q
   rw [q,hoc] at e
   have q':oc = p.2:=Option.some.inj e
   exact d w' (by rw [<- q']; exact hocd)
theorem jq {M:Model} {A:Around} {E:Value->Shared->Prop} {i:Nat} {x:Str} {v:V} {u:Value} {Q:Unit->Shared->Prop} (I:Inv X pins σ H s) (hN:X.N.Nodup) (hi:X.N[i]? = some x) (hx:Loc X.env.scope x) (r:w8 v u)
  (h:∀ s',Inv X pins (σ.set i (some v)) H s'->Q () s') (hf:X.fn x = true\/X.env.scope.names.lookup x = some .local:=by first | exact .inl rfl | exact .inr rfl | assumption):wpAny M A (storeName X.env x u) Q E s :=
 jj I hN hi hx r (fun s' I' _=>h s' I') hf
theorem Inv.call' {s':Shared} {ch:List Addr} (I:Inv X pins σ H s) (ho:s'.os = s.os) (u:Un (frs X.stack) ch H H' s.heap s'.heap) (hok:HOk X.prog X.w H' s'.heap) (hg:AllBare s'.gens)
  (hch:∀ b ∈ ch,(b ∈ X.ex\/X.s₀.heap.objs.size <= b)/\b ≠ X.env.locals/\(∀ x c,X.env.cells.lookup x = some c->c ≠ b)/\∀ p ∈ X.pn ++ pins,p.1 ≠ b):Inv X pins σ H' s':=by
 obtain ⟨h',g',d',t',o'⟩:=s'
 have e:o' = s.os:=ho
 subst e
 exact I.call (g':=g') (t':=t') (d':=d') u hok hg hch
end
abbrev XK:=Value->Option Addr->Hp->Prop
abbrev St:=List (Option V)
abbrev VK:=V->Hp->Prop
abbrev TE:=St->Hp->VK->Prop
abbrev TT:=St->Hp->(Bool->Hp->Prop)->Prop
abbrev TA:=St->Hp->(List V->Hp->Prop)->Prop
structure ygk where
 nx:St->Hp->Prop
 rt:VK
 bk:St->Hp->Prop:=fun _ _=>False
 ct:St->Hp->Prop:=fun _ _=>False
abbrev TS:=ygk->St->Hp->Prop
def EP (X:Cx) (pins:List (Addr × Obj)) (σ:St) (Q:VK) (u:Value) (s':Shared):Prop:=∃ v H',Inv X pins σ H' s'/\w8 v u/\Q v H'
def TP (X:Cx) (pins:List (Addr × Obj)) (σ:St) (Q:Bool->Hp->Prop) (b:Bool) (s':Shared):Prop:=∃ H',Inv X pins σ H' s'/\Q b H'
def AP (X:Cx) (pins:List (Addr × Obj)) (σ:St) (Q:List V->Hp->Prop) (us:List Value) (s':Shared):Prop:=∃ vs H',Inv X pins σ H' s'/\wg vs us/\Q vs H'
def SP (X:Cx) (pins:List (Addr × Obj)) (D:ygk) (f:Flow) (s':Shared):Prop :=
 match f with
 | .next=>∃ σ' H',Inv X pins σ' H' s'/\D.nx σ' H'
 | .brk=>∃ σ' H',Inv X pins σ' H' s'/\D.bk σ' H'
 | .cont=>∃ σ' H',Inv X pins σ' H' s'/\D.ct σ' H'
 | .ret u=>∃ v σ' H',Inv X pins σ' H' s'/\w8 v u/\D.rt v H'
def PE (X:Cx) (e:Expr) (t:TE):Prop :=
 ∀ (pins:List (Addr × Obj)) (s:Shared) (σ:St) (H:Hp) (Q:VK),Inv X pins σ H s->t σ H Q->wpAny (model X.prog X.w) X.A (eval e X.env) (EP X pins σ Q) X.xe s
def PT (X:Cx) (e:Expr) (t:TT):Prop :=
 ∀ (pins:List (Addr × Obj)) (s:Shared) (σ:St) (H:Hp) (Q:Bool->Hp->Prop),Inv X pins σ H s->t σ H Q->wpAny (model X.prog X.w) X.A (isTrue e X.env (eval e X.env)) (TP X pins σ Q) X.xe s
def PW (X:Cx) (e:Expr) (t:TT):Prop :=
 ∀ (whole:Sem Value) (pins:List (Addr × Obj)) (s:Shared) (σ:St) (H:Hp) (Q:Bool->Hp->Prop),Inv X pins σ H s->t σ H Q->wpAny (model X.prog X.w) X.A (isTrue e X.env whole) (TP X pins σ Q) X.xe s
theorem PW.pt {X:Cx} {e:Expr} {t:TT} (h:PW X e t):PT X e t:=h _
def PA (X:Cx) (es:List Expr) (t:TA):Prop :=
 ∀ (pos:Pos) (pins:List (Addr × Obj)) (s:Shared) (σ:St) (H:Hp) (Q:List V->Hp->Prop),Inv X pins σ H s->t σ H Q->wpAny (model X.prog X.w) X.A (spliced (backTo pos (starEach es X.env))) (AP X pins σ Q) X.xe s
def PS (X:Cx) (st:Stmt) (t:TS):Prop :=
 ∀ (pins:List (Addr × Obj)) (s:Shared) (σ:St) (H:Hp) (D:ygk),Inv X pins σ H s->t D σ H->wpAny (model X.prog X.w) X.A (exec st X.env) (SP X pins D) X.xe s
def PSs (X:Cx) (st:List Stmt) (t:TS):Prop :=
 ∀ (pins:List (Addr × Obj)) (s:Shared) (σ:St) (H:Hp) (D:ygk),Inv X pins σ H s->t D σ H->wpAny (model X.prog X.w) X.A (execs st X.env) (SP X pins D) X.xe s
theorem thn {α:Type} {t:Sem α} {Q Q':α->Shared->Prop} {M:Model} {A:Around} {E:Value->Shared->Prop} {s:Shared} (h:wpAny M A t Q E s) (hQ:∀ a s,Q a s->Q' a s):wpAny M A t Q' E s:=wpAny_mono h hQ fun _ _ x=>x
end L2
namespace L2
open PySem PySem.Spec PyProof.Rows
section
variable {X:Cx}
def vax (i:Nat):TE:=fun σ H Q=>∃ v,σ[i]? = some (some v)/\Q v H
def tC (v:V):TE:=fun _ H Q=>Q v H
theorem yv2 {i:Nat} {x:Str} {pos:Pos} (hN:X.N[i]? = some x) (hv:Vis X.env.scope x) (hd:(x == ("__debug__":Str)) = false:=by decide) (hcd:(x == ("__classdict__":Str)) = false:=by decide):PE X (.Name x pos) (vax i):=by
 intro pins s σ H Q I h
 obtain ⟨v,e,h⟩:=h
 obtain ⟨m,hn,hl⟩:=I.loc
 obtain ⟨u,r,l⟩:=hl i x v hN e hv
 have fin:EP X pins σ Q u s:=⟨v,H,I,r,h⟩
 rcases l with ⟨hk,hm⟩ | ⟨hk,c,hc,hcell⟩
 ·exact wpAny_Name (wpAny_loadName_local I.ok.kind hk hn hm fin) hd
 ·rcases hk with hk | hk
  ·exact wpAny_Name (wpAny_loadName_cell I.ok.kind hk hc hcell fin) hd
  ·exact wpAny_Name (wpAny_loadName_free I.ok.kind hk hc hcell fin hcd) hd
theorem yj {i j pos}:PE X (.Constant (.int i) j pos) (tC (.int i)):=fun _ _ _ H _ I h=>wpAny_Constant_int ⟨.int i,H,I.tok _,⟨_,rfl⟩,h⟩
theorem ybk {b j pos}:PE X (.Constant (.bool b) j pos) (tC (.bl b)):=fun _ _ _ H _ I h=>Constant_bool ⟨.bl b,H,I,rfl,h⟩
theorem yah {j pos}:PE X (.Constant .none j pos) (tC .non):=fun _ _ _ H _ I h=>Constant_none ⟨.non,H,I,rfl,h⟩
theorem xy {x j pos}:PE X (.Constant (.str x) j pos) (tC (.str x)):=fun _ _ _ H _ I h=>Calls.Constant_str ⟨.str x,H,I.tok _,⟨_,rfl⟩,h⟩
def Gl (X:Cx) (x:Str):Prop:=X.env.kindOf x = some .globalImplicit
theorem zj {E:Value->Shared->Prop} {pins:List (Addr × Obj)} {s:Shared} {σ:St} {H:Hp} {x:Str} {u:Value} {pos:Pos} {Q:Value->Shared->Prop} (I:Inv X pins σ H s) (hg:Gl X x) (hm:X.mg x = some u) (h:Q u s)
  (hd:(x == ("__debug__":Str)) = false:=by decide):wpAny (model X.prog X.w) X.A (eval (.Name x pos) X.env) Q E s :=
 Calls.Name_function_global I.ok.kind hg (Calls.loadGlobal_global (by rw [I.ok.glob]; exact I.mod.glob.keeps I.bk) hm h) hd
theorem ya9 {E:Value->Shared->Prop} {pins:List (Addr × Obj)} {s:Shared} {σ:St} {H:Hp} {x:Str} {u:Value} {pos:Pos} {Q:Value->Shared->Prop} (I:Inv X pins σ H s) (hg:Gl X x) (hm:X.mg x = none) (hv:bootBuiltins x = some u) (h:Q u s)
  (hn:x ≠ "__name__":=by decide) (hd:(x == ("__debug__":Str)) = false:=by decide):wpAny (model X.prog X.w) X.A (eval (.Name x pos) X.env) Q E s:=by
 obtain ⟨mb,h1,h2⟩:=I.mod.blt
 exact Calls.Name_function_global I.ok.kind hg (Calls.loadGlobal_builtin (by rw [I.ok.glob]; exact I.mod.glob.keeps I.bk) hm (by rw [I.ok.blt]; exact h1.keeps I.bk) ((h2 x hn).trans hv) h) hd
theorem yma {x:Str} {v:V} {u:Value} {pos:Pos} (hg:Gl X x) (hm:X.mg x = some u) (r:w8 v u) (hd:(x == ("__debug__":Str)) = false:=by decide):PE X (.Name x pos) (tC v) :=
 fun _ _ _ H _ I h=>zj I hg hm ⟨v,H,I,r,h⟩ hd
theorem yts {x:Str} {v:V} {u:Value} {pos:Pos} (hg:Gl X x) (hm:X.mg x = none) (hv:bootBuiltins x = some u) (r:w8 v u) (hn:x ≠ "__name__":=by decide) (hd:(x == ("__debug__":Str)) = false:=by decide):PE X (.Name x pos) (tC v) :=
 fun _ _ _ H _ I h=>ya9 I hg hm hv ⟨v,H,I,r,h⟩ hn hd
variable {a b:Expr} {ta tb:TE} {pos:Pos}
def PC (X:Cx) (op:CmpOp) (a b:Expr) (t:TE):Prop :=
 ∀ (pins:List (Addr × Obj)) (s:Shared) (σ:St) (H:Hp) (Q:VK),Inv X pins σ H s->t σ H Q ->
  wpAny (model X.prog X.w) X.A (eval a X.env) (fun v s₁=>wpAny (model X.prog X.w) X.A (eval b X.env) (fun u s₂=>wpAny (model X.prog X.w) X.A (compareOp op v u) (EP X pins σ Q) X.xe s₂) X.xe s₁) X.xe s
def tB (t:TE):TT:=fun σ H Q=>t σ H fun x H1=>∃ c,x = .bl c/\Q c H1
theorem yvo {op:CmpOp} {t:TE} (h:PC X op a b t) (h1:behindInMarks op b = false:=by first | exact nobehind _ (by decide) (by decide) | rfl):PT X (.Compare a [op] [b] pos) (tB t):=by
 intro pins s σ H Q I hw
 refine wpAny_isTrue_Compare1 (thn (h pins s σ H _ I hw) fun v s1 h1=>thn h1 fun u s2 h2=>thn h2 fun c s3 ⟨x,H1,I1,r1,q1⟩=>?_) h1
 obtain ⟨d,rfl,q⟩:=q1
 cases r1
 exact wpAny_truthy_bool ⟨H1,I1,q⟩
theorem xj {e:Expr} {t:TE} (h:PE X e t) (he:∀ whole,isTrue e X.env whole = (do let v <- whole; standAt e.pos; holding [v] (truthy v)):=by intro _; rfl):PT X e (tB t):=by
 intro pins s σ H Q I hw
 refine isTrue_plain (thn (h pins s σ H _ I hw) fun v s1 ⟨x,H1,I1,r1,q1⟩=>?_) (he _)
 obtain ⟨d,rfl,q⟩:=q1
 cases r1
 exact wpAny_truthy_bool ⟨H1,I1,q⟩
variable {tA tB':TT} {j5:List Expr}
def vbo (t u:TT):TT:=fun σ H Q=>t σ H fun c H1=>if c = true then u σ H1 Q else Q false H1
def tOr (t u:TT):TT:=fun σ H Q=>t σ H fun c H1=>if c = true then Q true H1 else u σ H1 Q
def vbl (t:TT):TT:=fun σ H Q=>t σ H fun c H1=>Q (!c) H1
theorem ysj (ha:PT X a tA):PW X (.BoolOp .And [a] pos) tA:=by
 intro wh pins s σ H Q I h
 refine isTrue_and (thn (ha pins s σ H Q I h) fun c s1 e=>?_)
 cases c with
 | true=>exact isTrue_and_nil e
 | false=>exact e
theorem ybb (ha:PT X a tA):PW X (.BoolOp .Or [a] pos) tA:=by
 intro wh pins s σ H Q I h
 refine isTrue_or (thn (ha pins s σ H Q I h) fun c s1 e=>?_)
 cases c with
 | false=>exact isTrue_or_nil e
 | true=>exact e
theorem yxf (ha:PT X a tA) (hb:PW X (.BoolOp .And (b :: j5) pos) tB'):PW X (.BoolOp .And (a :: b :: j5) pos) (vbo tA tB'):=by
 intro wh pins s σ H Q I h
 refine isTrue_and (thn (ha pins s σ H _ I h) fun c s1 ⟨H1,I1,q1⟩=>?_)
 cases c with
 | true=>exact hb wh pins s1 σ H1 Q I1 q1
 | false=>exact ⟨H1,I1,q1⟩
theorem yaf (ha:PT X a tA) (hb:PW X (.BoolOp .Or (b :: j5) pos) tB'):PW X (.BoolOp .Or (a :: b :: j5) pos) (tOr tA tB'):=by
 intro wh pins s σ H Q I h
 refine isTrue_or (thn (ha pins s σ H _ I h) fun c s1 ⟨H1,I1,q1⟩=>?_)
 cases c with
 | true=>exact ⟨H1,I1,q1⟩
 | false=>exact hb wh pins s1 σ H1 Q I1 q1
theorem xa (ha:PT X a tA):PT X (.UnaryOp .Not a pos) (vbl tA):=by
 intro pins s σ H Q I h
 exact isTrue_not (ha pins s σ H (fun c H1=>Q (!c) H1) I h)
def yyp (ta tb:TE):TE:=fun σ H Q=>ta σ H fun x H1=>∃ c,x = .bl c/\if c = true then tb σ H1 Q else Q (.bl false) H1
def yza (ta:TE):TE:=fun σ H Q=>ta σ H fun x H1=>∃ c,x = .bl c/\Q (.bl (!c)) H1
theorem yal {op} {t:TE} (h:PE X a t):PE X (.BoolOp op [a] pos) t:=fun pins s σ H Q I hw=>BoolOp_one (h pins s σ H Q I hw)
theorem zl (ha:PE X a ta) (hb:PE X (.BoolOp .And (b :: j5) pos) tb):PE X (.BoolOp .And (a :: b :: j5) pos) (yyp ta tb):=by
 intro pins s σ H Q I h
 refine BoolOp_and (thn (ha pins s σ H _ I h) fun v s1 ⟨x,H1,I1,r1,q1⟩=>?_)
 obtain ⟨c,rfl,q1⟩:=q1
 cases r1
 refine wpAny_truthy_bool ?_
 cases c with
 | true=>exact hb pins s1 σ H1 Q I1 q1
 | false=>exact ⟨.bl false,H1,I1,rfl,q1⟩
theorem yuq (ha:PE X a ta):PE X (.UnaryOp .Not a pos) (yza ta):=by
 intro pins s σ H Q I h
 refine UnaryOp_ (thn (ha pins s σ H _ I h) fun v s1 ⟨x,H1,I1,r1,q1⟩=>?_)
 obtain ⟨c,rfl,q1⟩:=q1
 cases r1
 exact not_of (wpAny_truthy_bool ⟨.bl (!c),H1,I1,rfl,q1⟩)
def tIf (t:TT) (ta tb:TE):TE:=fun σ H Q=>t σ H fun c H1=>if c = true then ta σ H1 Q else tb σ H1 Q
theorem jr {c:Expr} (hc:PT X c tA) (ha:PE X a ta) (hb:PE X b tb):PE X (.IfExp c a b pos) (tIf tA ta tb):=by
 intro pins s σ H Q I h
 refine wpAny_IfExp (thn (hc pins s σ H _ I h) fun d s1 ⟨H1,I1,q1⟩=>?_)
 cases d with
 | true=>exact ha pins s1 σ H1 Q I1 q1
 | false=>exact hb pins s1 σ H1 Q I1 q1
end
end L2
namespace L2
open PySem PySem.Spec PyProof.Rows
def SqL (K:W.Frag) (H:Hp) (a:Addr) (xs:List V):Prop :=
 Rd H a (.lst xs) \/
  ∃ (o:Obj) (its:Array Value) (n:Nat),K.lookup a = some o/\o.cls = .type "list"/\o.dict = none/\o.data = .seq its n/\its.size <= sizeLine/\wg xs its.toList
def SqT (K:W.Frag) (H:Hp) (a:Addr) (xs:List V):Prop :=
 Rd H a (.tup xs) \/
  ∃ (o:Obj) (its:Array Value) (n:Nat),K.lookup a = some o/\o.cls = .type "tuple"/\o.data = .seq its n/\its.size <= sizeLine/\wg xs its.toList
def vb4:Value->Option V
 | .none=>some .non
 | .bool b=>some (.bl b)
 | .int i _=>some (.int i)
 | .str x _=>some (.str x)
 | .bytes b _=>some (.byt b)
 | .float b _=>some (.flt b)
 | .ref a=>some (.ref a)
 | .type n=>some (.ty n)
 | _=>none
theorem w8.abs {x:V} {u:Value} (r:w8 x u):vb4 u = some x:=by
 cases x with
 | non=>cases r; rfl
 | bl _=>cases r; rfl
 | int _=>obtain ⟨t,rfl⟩:=r; rfl
 | str _=>obtain ⟨t,rfl⟩:=r; rfl
 | byt _=>obtain ⟨t,rfl⟩:=r; rfl
 | flt _=>obtain ⟨t,rfl⟩:=r; rfl
 | ref _=>cases r; rfl
 | ty _=>cases r; rfl
theorem w8.inj {x y:V} {u:Value} (r:w8 x u) (q:w8 y u):x = y:=Option.some.inj (r.abs.symm.trans q.abs)
theorem wg.inj:∀ {xs ys:List V} {us:List Value},wg xs us->wg ys us->xs = ys
 | _,_,_,.nil,.nil=>rfl
 | _,_,_,.cons r t,.cons r' t'=>by rw [r.inj r',wg.inj t t']
section
variable {X:Cx} {pins:List (Addr × Obj)} {σ:St} {H:Hp} {s:Shared} {a:Addr} {xs ys:List V}
theorem SqL.of {K:W.Frag} (h:H a = some (.lst xs)):SqL K H a xs:=.inl (.inl h)
theorem SqT.of {K:W.Frag} (h:H a = some (.tup xs)):SqT K H a xs:=.inl (.inl h)
theorem Inv.list (I:Inv X pins σ H s) (h:SqL X.K H a xs):∃ its:List Value,wg xs its/\PlainL s.heap a its.toArray/\xs.length <= sizeLine:=by
 rcases h with h | ⟨o,its,n,hk,hc,hd,hs,hz,r⟩
 ·obtain ⟨z,its,n,r,e⟩:=h.ok I.hok
  exact ⟨its,r,⟨_,n,e,rfl,rfl,rfl⟩,z⟩
 ·refine ⟨its.toList,r,⟨o,n,I.kIn a o hk,hc,hd,by simpa using hs⟩,?_⟩
  have e:=r.length
  simp only [Array.length_toList] at e
  omega
theorem Inv.tuple (I:Inv X pins σ H s) (h:SqT X.K H a xs):∃ its:List Value,wg xs its/\IsTup s.heap a its.toArray/\xs.length <= sizeLine:=by
 rcases h with h | ⟨o,its,n,hk,hc,hs,hz,r⟩
 ·obtain ⟨z,its,r,p⟩:=h.ok I.hok
  exact ⟨its,r,p,z⟩
 ·refine ⟨its.toList,r,⟨o,I.kIn a o hk,hc,n,by simpa using hs⟩,?_⟩
  have e:=r.length
  simp only [Array.length_toList] at e
  omega
theorem Inv.list_inj (I:Inv X pins σ H s) (h:SqL X.K H a xs) (h':SqL X.K H a ys):xs = ys:=by
 obtain ⟨its,r,⟨o,n,e,_,_,d⟩,_⟩:=I.list h
 obtain ⟨its',r',⟨o',n',e',_,_,d'⟩,_⟩:=I.list h'
 rw [e] at e'; cases e'
 rw [d] at d'
 injection d' with d1 _
 have:its = its':=by simpa using congrArg Array.toList d1
 subst this
 exact r.inj r'
theorem Inv.tuple_inj (I:Inv X pins σ H s) (h:SqT X.K H a xs) (h':SqT X.K H a ys):xs = ys:=by
 obtain ⟨its,r,⟨o,e,_,n,d⟩,_⟩:=I.tuple h
 obtain ⟨its',r',⟨o',e',_,n',d'⟩,_⟩:=I.tuple h'
 rw [e] at e'; cases e'
 rw [d] at d'
 injection d' with d1 _
 have:its = its':=by simpa using congrArg Array.toList d1
 subst this
 exact r.inj r'
end
abbrev Cx.wish (X:Cx) (E:Value->Shared->Prop):Cx:={ X with xe:=E }
abbrev Cx.nox (X:Cx):Cx:=X.wish fun _ _=>False
theorem Cx.Ok.wish {X:Cx} (ok:X.Ok) (E:Value->Shared->Prop):(X.wish E).Ok :=
 ⟨ok.mod,ok.kind,ok.glob,ok.blt,ok.above,ok.inj,ok.has,ok.cab,ok.hd,ok.frames,ok.stk,ok.exf,ok.bs,ok.bsz,ok.noex,ok.exfs,ok.funs,ok.frf⟩
theorem Cx.Ok.unwish {X:Cx} {E:Value->Shared->Prop} (ok:(X.wish E).Ok):X.Ok :=
 ⟨ok.mod,ok.kind,ok.glob,ok.blt,ok.above,ok.inj,ok.has,ok.cab,ok.hd,ok.frames,ok.stk,ok.exf,ok.bs,ok.bsz,ok.noex,ok.exfs,ok.funs,ok.frf⟩
section
variable {X:Cx} {pins:List (Addr × Obj)} {σ:St} {H:Hp} {s:Shared} {E:Value->Shared->Prop}
theorem Inv.wish (I:Inv X pins σ H s) (E:Value->Shared->Prop):Inv (X.wish E) pins σ H s:=⟨I.ok.wish E,I.os,I.bare,I.base,I.loc,I.cell,I.free,I.freeC,I.pin,I.hok,I.len⟩
theorem Inv.unwish (I:Inv (X.wish E) pins σ H s):Inv X pins σ H s:=⟨I.ok.unwish,I.os,I.bare,I.base,I.loc,I.cell,I.free,I.freeC,I.pin,I.hok,I.len⟩
theorem SP.unwish {D:ygk} {f:Flow} {s':Shared} (h:SP (X.wish E) pins D f s'):SP X pins D f s':=by
 cases f with
 | next=>obtain ⟨σ',H',I,q⟩:=h; exact ⟨σ',H',I.unwish,q⟩
 | brk=>obtain ⟨σ',H',I,q⟩:=h; exact ⟨σ',H',I.unwish,q⟩
 | cont=>obtain ⟨σ',H',I,q⟩:=h; exact ⟨σ',H',I.unwish,q⟩
 | ret u=>obtain ⟨v,σ',H',I,r,q⟩:=h; exact ⟨v,σ',H',I.unwish,r,q⟩
theorem PSs.nox {st:List Stmt} {t:TS} (h:PSs X.nox st t):PSs X st t:=fun pins s σ H D I hw =>
 wpAny_mono (h pins s σ H D (I.wish _) hw) (fun _ _ q=>q.unwish) fun _ _ z=>False.elim z
end
section
variable {X:Cx} {st:Stmt} {j5:List Stmt} {t u:TS} {e:Expr} {te:TE} {pos:Pos}
def yy3:TS:=fun D σ H=>D.nx σ H
def vaw (t u:TS):TS:=fun D σ H=>t { D with nx:=u D } σ H
theorem ve:PSs X [] yy3:=fun _ _ σ H _ I h=>wpAny_execs_nil ⟨σ,H,I,h⟩
theorem yk (h1:PS X st t) (h2:PSs X j5 u):PSs X (st :: j5) (vaw t u):=by
 intro pins s σ H D I h
 refine wpAny_execs_cons (thn (h1 pins s σ H { D with nx:=u D } I h) fun f s1 q=>?_)
 cases f with
 | next =>
  obtain ⟨σ',H',I',q⟩:=q
  exact h2 pins s1 σ' H' D I' q
 | ret v=>exact q
 | brk=>exact q
 | cont=>exact q
theorem yi (h1:PS X st t):PSs X [st] t:=by
 intro pins s σ H D I h
 refine wpAny_execs_cons (thn (h1 pins s σ H D I h) fun f s1 q=>?_)
 cases f with
 | next=>exact wpAny_execs_nil q
 | ret v=>exact q
 | brk=>exact q
 | cont=>exact q
theorem Inv.quiet {pins:List (Addr × Obj)} {σ:St} {H:Hp} {s:Shared} (I:Inv X pins σ H s):interactive X.env = false:=by simp [interactive,I.ok.kind]
def yzc (te:TE):TS:=fun D σ H=>te σ H fun _ H1=>D.nx σ H1
theorem vj (he:PE X e te) (hs:swapsWith e none pos.line X.env = pure false:=by rfl):PS X (.Expr e pos) (yzc te):=by
 intro pins s σ H D I h
 exact wpAny_Expr_any (thn (he pins s σ H _ I h) fun v s1 ⟨x,H1,I1,r1,q1⟩=>⟨σ,H1,I1,q1⟩) I.quiet hs
def va8 (te:TE):TS:=fun D σ H=>te σ H D.rt
theorem yv (he:PE X e te):PS X (.Return (some e) pos) (va8 te):=by
 intro pins s σ H D I h
 exact wpAny_Return_some (thn (he pins s σ H _ I h) fun v s1 ⟨x,H1,I1,r1,q1⟩=>⟨x,σ,H1,I1,r1,q1⟩)
def vbc (c:TT) (t u:TS):TS:=fun D σ H=>c σ H fun b H1=>if b = true then t D σ H1 else u D σ H1
theorem wd {c:Expr} {a b:List Stmt} {tc:TT} (hc:PT X c tc) (ha:PSs X a t) (hb:PSs X b u):PS X (.If c a b pos) (vbc tc t u):=by
 intro pins s σ H D I h
 refine wpAny_If (thn (hc pins s σ H _ I h) fun d s1 ⟨H1,I1,q1⟩=>?_)
 cases d with
 | true=>exact ha pins s1 σ H1 D I1 q1
 | false=>exact hb pins s1 σ H1 D I1 q1
def yu1:TS:=fun _ _ _=>False
theorem yct:PS X st yu1:=fun _ _ _ _ _ _ h=>h.elim
end
abbrev TG:=V->St->Hp->(St->Hp->Prop)->Prop
abbrev TGs:=List V->St->Hp->(St->Hp->Prop)->Prop
def PG (X:Cx) (target:Expr) (t:TG):Prop :=
 ∀ (pins:List (Addr × Obj)) (s:Shared) (σ:St) (H:Hp) (v:V) (u:Value) (Q:St->Hp->Prop),Inv X pins σ H s->w8 v u->t v σ H Q ->
  wpAny (model X.prog X.w) X.A (assign target X.env u) (fun _ s'=>∃ σ' H',Inv X pins σ' H' s'/\Q σ' H') X.xe s
def PGs (X:Cx) (ts:List Expr) (t:TGs):Prop :=
 ∀ (pins:List (Addr × Obj)) (s:Shared) (σ:St) (H:Hp) (vs:List V) (us:List Value) (Q:St->Hp->Prop),Inv X pins σ H s->wg vs us->t vs σ H Q ->
  wpAny (model X.prog X.w) X.A (assignInOrder ((assignEach ts X.env).map (·.2)) us) (fun _ s'=>∃ σ' H',Inv X pins σ' H' s'/\Q σ' H') X.xe s
abbrev yzn:=V->V->V->Hp->(Hp->Prop)->Prop
def vbp (X:Cx) (t:yzn):Prop :=
 ∀ (pins:List (Addr × Obj)) (s:Shared) (σ:St) (H:Hp) (o i v:V) (ov iv u:Value) (Q:Hp->Prop),Inv X pins σ H s->w8 o ov->w8 i iv->w8 v u->t o i v H Q ->
  wpAny (model X.prog X.w) X.A (setItem ov iv u) (fun _ s'=>∃ H',Inv X pins σ H' s'/\Q H') X.xe s
section
variable {X:Cx} {pos:Pos}
def w5 (i:Nat):TG:=fun v σ H Q=>Q (σ.set i (some v)) H
theorem w6 {i:Nat} {x:Str} (hN:X.N.Nodup) (hi:X.N[i]? = some x) (hx:Loc X.env.scope x) (hf:X.fn x = true\/X.env.scope.names.lookup x = some .local:=by first | exact .inl rfl | exact .inr rfl | assumption):PG X (.Name x pos) (w5 i):=by
 intro pins s σ H v u Q I r h
 exact wpAny_assign_Name (jq I hN hi hx r (fun s' I'=>⟨_,H,I',h⟩) hf)
def yp2:TGs:=fun vs σ H Q=>vs = []/\Q σ H
def z7 (t:TG) (u:TGs):TGs:=fun vs σ H Q=>∃ v r,vs = v :: r/\t v σ H fun σ' H'=>u r σ' H' Q
theorem yhi:PGs X [] yp2:=by
 intro pins s σ H vs us Q I r h
 obtain ⟨e,h⟩:=h
 subst e
 cases r
 exact assignInOrder_nil ⟨σ,H,I,h⟩
theorem zw {e:Expr} {es:List Expr} {t:TG} {u:TGs} (h1:PG X e t) (h2:PGs X es u)
  (hs:(assignEach (e :: es) X.env).map (·.2) = assign e X.env :: (assignEach es X.env).map (·.2):=by rfl):PGs X (e :: es) (z7 t u):=by
 intro pins s σ H vs us Q I r h
 obtain ⟨v,vr,e1,h⟩:=h
 subst e1
 cases r with
 | cons r rr =>
  rw [hs]
  refine assignInOrder_cons (thn (h1 pins s σ H _ _ _ I r h) fun _ s1 ⟨σ1,H1,I1,q1⟩=>?_)
  exact h2 pins s1 σ1 H1 _ _ Q I1 rr q1
def yul (K:W.Frag) (n:Nat) (t:TGs):TG:=fun v σ H Q=>∃ a xs,v = .ref a/\SqT K H a xs/\xs.length = n/\t xs σ H Q
theorem ynh {es:List Expr} {k:Nat} {t:TGs} {n:Nat} (hc:X.calm = true) (h:PGs X es t)
  (hn:(assignEach es X.env).length = n:=by rfl) (hst:(assignEach es X.env).findIdx? (·.1) = none:=by rfl):PG X (.Tuple es k pos) (yul X.K n t):=by
 intro pins s σ H v u Q I r hw
 obtain ⟨a,xs,e1,hq,hl,hw⟩:=hw
 subst e1
 cases r
 obtain ⟨its,rv,ht,hz⟩:=I.tuple hq
 refine assign_Tuple_tuple (I.ok.hd hc) ht (by simp [hn,<- hl,rv.length]) hst fun h' hx=>?_
 have I1:Inv X pins σ H { s with heap:=h' }:=I.kept (t':=s.toks) fun b o e=>hx b o (Nat.ne_of_lt (Heap.lt_size e)) e
 exact h pins _ σ H xs _ Q I1 (by simpa using rv) hw
def vbi (to ti:TE) (t:yzn):TG:=fun v σ H Q=>to σ H fun o H1=>ti σ H1 fun i H2=>t o i v H2 fun H3=>Q σ H3
theorem yxs {o i:Expr} {to ti:TE} {t:yzn} (ho:PE X o to) (hi:PE X i ti) (hs:vbp X t)
  (ha:∀ v,assign (.Subscript o i pos) X.env v = (do
   let ov <- holding [v] (eval o X.env)
   let iv <- holding [v,ov] (eval i X.env)
   standAt pos
   holding [v,ov,iv] (setItem ov iv v)
   release [v,ov,iv] []):=by intro _; rfl):PG X (.Subscript o i pos) (vbi to ti t):=by
 intro pins s σ H v u Q I r h
 rw [ha]
 refine wpAny_bind (wpAny_holding (thn (ho pins s σ H _ I h) fun ov s1 ⟨x,H1,I1,r1,q1⟩=>?_))
 refine wpAny_bind (wpAny_holding (thn (hi pins s1 σ H1 _ I1 q1) fun iv s2 ⟨y,H2,I2,r2,q2⟩=>?_))
 refine wpAny_bind (wpAny_standAt (wpAny_bind (wpAny_holding (thn (hs pins s2 σ H2 x y v ov iv u _ I2 r1 r2 r q2) fun _ s3 ⟨H3,I3,q3⟩=>?_))))
 exact wpAny_release ⟨σ,H3,I3,q3⟩
def yuj (te:TE) (g:TG):TS:=fun D σ H=>te σ H fun x H1=>g x σ H1 D.nx
theorem yww {tg e:Expr} {te:TE} {g:TG} (he:PE X e te) (hg:PG X tg g) (hs:swapsWithSole [tg] e pos.line X.env = pure false:=by rfl) (hw:swappedStores [tg] e X.env = pure none:=by rfl)
  (h1:(assignEach [tg] X.env).map (·.2) = [assign tg X.env]:=by rfl):PS X (.Assign [tg] e pos) (yuj te g):=by
 intro pins s σ H D I h
 refine wpAny_Assign_stores (thn (he pins s σ H _ I h) fun v s1 ⟨x,H1,I1,r1,q1⟩=>?_) hs hw
 rw [h1]
 exact thn (hg pins s1 σ H1 x v _ I1 r1 q1) fun _ s2 q=>q
theorem vd {i:Nat} {x:Str} {e:Expr} {te:TE} {pos':Pos} (hN:X.N.Nodup) (hi:X.N[i]? = some x) (hx:Loc X.env.scope x) (he:PE X e te) (hs:swapsWith e (some (.Name x pos')) pos.line X.env = pure false:=by rfl) (hf:X.fn x = true\/X.env.scope.names.lookup x = some .local:=by first | exact .inl rfl | exact .inr rfl | assumption) :
  PS X (.Assign [.Name x pos'] e pos) (yuj te (w5 i)):=by
 intro pins s σ H D I h
 refine wpAny_Assign_Name (thn (he pins s σ H _ I h) fun v s1 ⟨y,H1,I1,r1,q1⟩=>?_) hs
 exact jq I1 hN hi hx r1 (fun s2 I2=>⟨_,H1,I2,q1⟩) hf
end
section
variable {X:Cx} {pos:Pos}
def yvl (c:TT) (tb:TS):TS:=fun D σ H=>∃ W:Nat->St->Hp->Prop,(∃ m,W m σ H)/\∀ m σ H,W m σ H ->
 c σ H fun b H1=>if b = true then ∃ N:St->Hp->Prop,(∀ σ' H',N σ' H'->∃ m',m' < m/\W m' σ' H')/\tb { D with nx:=N,ct:=N,bk:=D.nx } σ H1 else D.nx σ H1
theorem jt {c:Expr} {body:List Stmt} {tc:TT} {tb:TS} (hp:PassesOwn (model X.prog X.w) X.A X.env X.xe) (hc:PT X c tc) (hb:PSs X body tb):PS X (.While c body [] pos) (yvl tc tb):=by
 intro pins s σ H D I h
 obtain ⟨W,⟨m0,w0⟩,turn⟩:=h
 refine wpAny_While (codeAny_whileLoop (fun n s'=>∃ σ' H',Inv X pins σ' H' s'/\W n σ' H') ?_ m0 ⟨σ,H,I,w0⟩)
 rintro n s1 ⟨σ1,H1,I1,w1⟩
 refine wpAny_passesOwn hp (thn (hc pins s1 σ1 H1 _ I1 (turn n σ1 H1 w1)) fun b s2 ⟨H2,I2,q2⟩=>?_)
 cases b with
 | true =>
  obtain ⟨N,hN,q2⟩:=q2
  rw [if_pos rfl]
  refine wpAny_passesOwn hp (thn (hb pins s2 σ1 H2 _ I2 q2) fun f s3 q3=>?_)
  cases f with
  | next =>
   obtain ⟨σ3,H3,I3,n3⟩:=q3
   obtain ⟨m',hm,w3⟩:=hN σ3 H3 n3
   exact ⟨m',hm,σ3,H3,I3,w3⟩
  | cont =>
   obtain ⟨σ3,H3,I3,n3⟩:=q3
   obtain ⟨m',hm,w3⟩:=hN σ3 H3 n3
   exact ⟨m',hm,σ3,H3,I3,w3⟩
  | brk=>exact q3
  | ret v=>exact q3
 | false =>
  rw [if_neg Bool.false_ne_true]
  exact wpAny_execs_nil ⟨σ1,H2,I2,q2⟩
end
structure It where
 go:Nat->Hp->Prop
 yld:Nat->Hp->V->Hp->Prop
 stop:Nat->Hp->Prop
def ye3 (X:Cx) (pins:List (Addr × Obj)) (H:Hp) (b:Addr):Prop :=
 H b = none/\b ≠ X.env.locals/\b ∉ X.fs/\(b ∈ X.ex\/X.s₀.heap.objs.size <= b)/\(∀ x c,X.env.cells.lookup x = some c->c ≠ b)/\∀ p ∈ X.pn ++ pins,p.1 ≠ b
theorem Inv.fpOk {X:Cx} {pins:List (Addr × Obj)} {σ:St} {H H':Hp} {s:Shared} {b:Addr} (I:Inv X pins σ H s) (hb:s.heap.objs.size <= b) (hn:H' b = none):ye3 X pins H' b:=by
 refine ⟨hn,Nat.ne_of_gt (Nat.lt_of_lt_of_le I.lt hb),I.nofs hb,.inr (Nat.le_trans I.sz hb),fun x c e z=>?_,fun p hp z=>?_⟩
 ·obtain ⟨v,q⟩:=I.cell x c e
  exact absurd (Nat.lt_of_lt_of_le q.lt (by rw [z]; exact hb)) (Nat.lt_irrefl _)
 ·exact absurd (Nat.lt_of_lt_of_le (Heap.lt_size (I.pin p hp).1) (by rw [z]; exact hb)) (Nat.lt_irrefl _)
structure ynr (P:Program) (w:World) (K:W.Frag) (tg:Expr) (J:It) (fp:List Addr) (it:Addr) (tn:Nat->Heap->Prop):Prop where
 mem:it ∈ fp
 obj:∀ i h,tn i h->∀ b ∈ fp,∃ o,h.get? b = some o/\∀ v,o.data ≠ .cell v
 keep:∀ i h h',tn i h->(∀ b ∈ fp,∀ o,h.get? b = some o->h'.get? b = some o)->tn i h'
 item:∀ (X:Cx),X.prog = P->X.w = w->X.K = K->X.calm = true->∀ (i:Nat) (pins:List (Addr × Obj)) (s:Shared) (σ:St) (H:Hp) (E:Value->Shared->Prop),Inv X pins σ H s->(∀ b ∈ fp,ye3 X pins H b)->tn i s.heap->J.go i H ->
  wpAny (model P w) X.A (pyNext (.ref it)) (fun r s1=>∃ u,r = some u /\
   wpAny (model P w) X.A (letOwnedTupleGo tg (.ref it) u) (fun _ s2=>∃ x H',Inv X pins σ H' s2/\w8 x u/\J.yld i H x H'/\tn (i + 1) s2.heap/\∀ b ∈ fp,H' b = none) E s1) E s
 done:∀ (X:Cx),X.prog = P->X.w = w->X.K = K->X.calm = true->∀ (i:Nat) (pins:List (Addr × Obj)) (s:Shared) (σ:St) (H:Hp) (E:Value->Shared->Prop),Inv X pins σ H s->(∀ b ∈ fp,ye3 X pins H b)->tn i s.heap->J.stop i H ->
  wpAny (model P w) X.A (pyNext (.ref it)) (fun r s1=>r = none/\Inv X pins σ H s1) E s
 self:∀ (A:Around) (i:Nat) (s:Shared) (Q:Value->Shared->Prop) (E:Value->Shared->Prop),tn i s.heap->Q (.ref it) s->wpAny (model P w) A (pyIter (.ref it)) Q E s
abbrev TI:=St->Hp->(It->Hp->Prop)->Prop
def PIE (X:Cx) (pins:List (Addr × Obj)) (σ:St) (tg:Expr) (R:It->Hp->Prop) (itv:Value) (s2:Shared):Prop :=
 ∃ (it:Addr) (fp:List Addr) (tn:Nat->Heap->Prop) (J:It) (H':Hp),itv = .ref it/\Inv X pins σ H' s2/\ynr X.prog X.w X.K tg J fp it tn/\tn 0 s2.heap/\(∀ b ∈ fp,ye3 X pins H' b)/\R J H'
def PI (X:Cx) (tg iter:Expr) (wi:TI):Prop :=
 ∀ (pins:List (Addr × Obj)) (s:Shared) (σ:St) (H:Hp) (R:It->Hp->Prop),Inv X pins σ H s->wi σ H R ->
  wpAny (model X.prog X.w) X.A (eval iter X.env) (fun v s1=>wpAny (model X.prog X.w) X.A (pyIter v) (PIE X pins σ tg R) X.xe s1) X.xe s
theorem yt8 {M:Model} {A:Around} {E:Value->Shared->Prop} {s:Shared} {tg:Expr} {it:Addr} {u:Value} {o:Obj} {n:String} {vs:Array Value} {Q:Unit->Shared->Prop} (ho:s.heap.get? it = some o) (hc:o.cls = .type n) (hd:o.data = .fields vs)
  (hn:["enumerate","zip","dict_itemiterator","dict_reverseitemiterator","odict_iterator","itertools.zip_longest","itertools.pairwise"].contains n = false) (hQ:Q () s):wpAny M A (letOwnedTupleGo tg (.ref it) u) Q E s:=by
 unfold letOwnedTupleGo
 cases tg <;> first
  | exact wpAny_pure hQ
  | (cases u <;> first
    | exact wpAny_pure hQ
    | (refine wpAny_bind (wpAny_load ho ?_)
       rw [hc,hd]
       show wpAny M A (if (["enumerate","zip","dict_itemiterator","dict_reverseitemiterator","odict_iterator","itertools.zip_longest","itertools.pairwise"].contains n && vs[0]? == some (rawInt _)) = true then _ else _) Q E s
       rw [if_neg (by intro h; rw [hn,Bool.false_and] at h; cases h)]
       exact wpAny_pure hQ))
def Itl (K:W.Frag) (a:Addr):It :=
 ⟨fun i H=>∃ xs x,SqL K H a xs/\xs[i]? = some x,fun i H x H'=>H' = H/\∀ xs,SqL K H a xs->xs[i]? = some x,fun i H=>∃ xs,SqL K H a xs/\xs.length <= i⟩
def Itt (K:W.Frag) (a:Addr):It :=
 ⟨fun i H=>∃ xs x,SqT K H a xs/\xs[i]? = some x,fun i H x H'=>H' = H/\∀ xs,SqT K H a xs->xs[i]? = some x,fun i H=>∃ xs,SqT K H a xs/\xs.length <= i⟩
def Itr (lo:Int) (n:Nat):It:=⟨fun i _=>i < n,fun i H x H'=>H' = H/\x = .int (lo + i),fun i _=>n <= i⟩
theorem ylj {P:Program} {w:World} {K:W.Frag} {tg:Expr} (a it:Addr):ynr P w K tg (Itl K a) [it] it (fun i h=>h.IsListIter it a i) where
 mem:=by simp
 obj:=fun i h st b hb=>by
  have e:b = it:=by simpa using hb
  subst e
  obtain ⟨o,e,c,d⟩:=st
  exact ⟨o,e,fun v z=>by rw [d] at z; cases z⟩
 keep:=fun i h h' st k=>st.at fun o e=>k it (by simp) o e
 item:=by
  intro X hP hw hK hc i pins s σ H E I hf st hg
  subst hP hw hK
  obtain ⟨xs,x,hq,hx⟩:=hg
  obtain ⟨its,rv,p,hz⟩:=I.list hq
  obtain ⟨u,hu,ru⟩:=rv.get hx
  obtain ⟨f0,f1,f2,f3,f4,f5⟩:=hf it (by simp)
  refine wpAny_pyNext_list_item st p.isList (x:=u) (by simpa using hu) fun h' st' sb=>?_
  have I1:Inv X pins σ H { s with heap:=h' }:=I.turned (t':=s.toks) (fun b o hb e=>(sb.2 b hb).trans e) f0 f1 f3 f4 f5
  obtain ⟨o,e,c,d⟩:=id st'
  exact ⟨u,rfl,yt8 (s:={ s with heap:=h' }) e c d (by decide) ⟨x,H,I1,ru,⟨rfl,fun ys hy=>by rw [I.list_inj hy hq]; exact hx⟩,st',fun b hb=>(hf b hb).1⟩⟩
 done:=by
  intro X hP hw hK hc i pins s σ H E I hf st hg
  subst hP hw hK
  obtain ⟨xs,hq,hx⟩:=hg
  obtain ⟨its,rv,p,hz⟩:=I.list hq
  obtain ⟨f0,f1,f2,f3,f4,f5⟩:=hf it (by simp)
  have hl:=rv.length
  exact wpAny_pyNext_list_end (I.ok.hd hc) st p.isList (by simp; omega) fun h' eb=>⟨rfl,I.turned (t':=s.toks) (fun b o hb e=>eb b o hb e) f0 f1 f3 f4 f5⟩
 self:=fun _ _ _ _ _ st h=>wpAny_pyIter_listiter st h
theorem yjo {P:Program} {w:World} {K:W.Frag} {tg:Expr} (a it:Addr):ynr P w K tg (Itt K a) [it] it (fun i h=>h.IsTupleIter it a i) where
 mem:=by simp
 obj:=fun i h st b hb=>by
  have e:b = it:=by simpa using hb
  subst e
  obtain ⟨o,e,c,d⟩:=st
  exact ⟨o,e,fun v z=>by rw [d] at z; cases z⟩
 keep:=fun i h h' st k=>st.at fun o e=>k it (by simp) o e
 item:=by
  intro X hP hw hK hc i pins s σ H E I hf st hg
  subst hP hw hK
  obtain ⟨xs,x,hq,hx⟩:=hg
  obtain ⟨its,rv,p,hz⟩:=I.tuple hq
  obtain ⟨u,hu,ru⟩:=rv.get hx
  obtain ⟨f0,f1,f2,f3,f4,f5⟩:=hf it (by simp)
  refine wpAny_pyNext_tuple_item st (show s.heap.IsTuple a its.toArray from p) (x:=u) (by simpa using hu) fun h' st' sb=>?_
  have I1:Inv X pins σ H { s with heap:=h' }:=I.turned (t':=s.toks) (fun b o hb e=>(sb.2 b hb).trans e) f0 f1 f3 f4 f5
  obtain ⟨o,e,c,d⟩:=id st'
  exact ⟨u,rfl,yt8 (s:={ s with heap:=h' }) e c d (by decide) ⟨x,H,I1,ru,⟨rfl,fun ys hy=>by rw [I.tuple_inj hy hq]; exact hx⟩,st',fun b hb=>(hf b hb).1⟩⟩
 done:=by
  intro X hP hw hK hc i pins s σ H E I hf st hg
  subst hP hw hK
  obtain ⟨xs,hq,hx⟩:=hg
  obtain ⟨its,rv,p,hz⟩:=I.tuple hq
  obtain ⟨f0,f1,f2,f3,f4,f5⟩:=hf it (by simp)
  have hl:=rv.length
  exact wpAny_pyNext_tuple_end (I.ok.hd hc) st (show s.heap.IsTuple a its.toArray from p) (by simp; omega) fun h' eb=>⟨rfl,I.turned (t':=s.toks) (fun b o hb e=>eb b o hb e) f0 f1 f3 f4 f5⟩
 self:=fun _ _ _ _ _ st h=>wpAny_pyIter_tupleiter st h
theorem yjk {P:Program} {w:World} {K:W.Frag} {tg:Expr} (it:Addr) (lo:Int) (n:Nat):ynr P w K tg (Itr lo n) [it] it (fun i h=>IsRangeIter h it (lo + (i:Nat) * 1) ((n:Int) - (i:Nat)) 1) where
 mem:=by simp
 obj:=fun i h st b hb=>by
  have e:b = it:=by simpa using hb
  subst e
  exact ⟨_,st,fun v z=>by
   have z':Data.fields _ = Data.cell v:=z
   cases z'⟩
 keep:=fun i h h' st k=>k it (by simp) _ st
 item:=by
  intro X hP hw hK hc i pins s σ H E I hf st hg
  subst hP hw hK
  obtain ⟨f0,f1,f2,f3,f4,f5⟩:=hf it (by simp)
  have W:=Walks.range (prog:=X.prog) (w:=X.w) (I.ok.hd hc) it lo 1 n
  refine W.item i s _ _ hg st fun v h' tk hv st' kk=>?_
  obtain ⟨t,rfl⟩:=hv
  have I1:Inv X pins σ H { s with heap:=h',toks:=tk }:=I.turned (fun b o hb e=>kk b o (by simpa using hb) e) f0 f1 f3 f4 f5
  refine ⟨_,rfl,yt8 (s:={ s with heap:=h',toks:=tk }) (n:="range_iterator") st' rfl rfl (by decide) ⟨.int (lo + i),H,I1,⟨t,?_⟩,⟨rfl,rfl⟩,st',fun b hb=>(hf b hb).1⟩⟩
  rw [Int.mul_one]
 done:=by
  intro X hP hw hK hc i pins s σ H E I hf st hg
  subst hP hw hK
  obtain ⟨f0,f1,f2,f3,f4,f5⟩:=hf it (by simp)
  exact wpAny_pyNext_range_end (I.ok.hd hc) st (by have:n <= i:=hg; omega) fun h' eb=>⟨rfl,I.turned (t':=s.toks) (fun b o hb e=>eb b o hb e) f0 f1 f3 f4 f5⟩
 self:=fun _ _ _ _ _ st h=>wpAny_pyIter_rangeiter st h
end L2
namespace L2
open PySem PySem.Spec PyProof.Rows
section
variable {X:Cx} {tg:Expr}
def yys (K:W.Frag) (tl:TE):TI:=fun σ H R=>tl σ H fun x H1=>∃ a,x = .ref a/\(∃ xs,SqL K H1 a xs)/\R (Itl K a) H1
def vbh (K:W.Frag) (tl:TE):TI:=fun σ H R=>tl σ H fun x H1=>∃ a,x = .ref a/\(∃ xs,SqT K H1 a xs)/\R (Itt K a) H1
theorem wt {l:Expr} {tl:TE} (hl:PE X l tl):PI X tg l (yys X.K tl):=by
 intro pins s σ H R I h
 refine thn (hl pins s σ H _ I h) fun v s1 ⟨x,H1,I1,r1,q1⟩=>?_
 obtain ⟨a,e,⟨xs,hq⟩,q⟩:=q1
 subst e
 cases r1
 obtain ⟨its,rv,p,hz⟩:=I1.list hq
 refine wpAny_pyIter_list p.isList ?_
 refine ⟨s1.heap.objs.size,[s1.heap.objs.size],_,_,H1,rfl,I1.kept (t':=s1.toks) fun b o e=>Heap.get?_push_of_some _ e,ylj a _,⟨_,Heap.get?_push_size _ rfl,rfl,rfl⟩,fun b hb=>?_,q⟩
 have e:b = s1.heap.objs.size:=by simpa using hb
 subst e
 exact I1.fpOk (Nat.le_refl _) (I1.hok.fresh (Nat.le_refl _))
theorem yio {l:Expr} {tl:TE} (hl:PE X l tl):PI X tg l (vbh X.K tl):=by
 intro pins s σ H R I h
 refine thn (hl pins s σ H _ I h) fun v s1 ⟨x,H1,I1,r1,q1⟩=>?_
 obtain ⟨a,e,⟨xs,hq⟩,q⟩:=q1
 subst e
 cases r1
 obtain ⟨its,rv,p,hz⟩:=I1.tuple hq
 refine wpAny_pyIter_tuple (show s1.heap.IsTuple a its.toArray from p) ?_
 refine ⟨s1.heap.objs.size,[s1.heap.objs.size],_,_,H1,rfl,I1.kept (t':=s1.toks) fun b o e=>Heap.get?_push_of_some _ e,yjo a _,⟨_,Heap.get?_push_size _ rfl,rfl,rfl⟩,fun b hb=>?_,q⟩
 have e:b = s1.heap.objs.size:=by simpa using hb
 subst e
 exact I1.fpOk (Nat.le_refl _) (I1.hok.fresh (Nat.le_refl _))
theorem yim {pins:List (Addr × Obj)} {σ:St} {H:Hp} {s:Shared} {R:It->Hp->Prop} {E:Value->Shared->Prop} {lo hi:Int} {t u v:Tok} {tk:Nat} (I:Inv X pins σ H s) (h1:-(2 ^ 62) <= lo) (h2:lo < 2 ^ 62) (h3:-(2 ^ 62) <= hi) (h4:hi < 2 ^ 62)
  (q:R (Itr lo (hi - lo).toNat) H):wpAny (model X.prog X.w) X.A (pyIter (.ref s.heap.objs.size)) (PIE X pins σ tg R) E { s with heap:=s.heap.push { cls:=.type "range",data:=.fields #[.int lo t,.int hi u,.int 1 v] },toks:=tk }:=by
 refine wpAny_pyIter_range (IsRange.new ..) (small_one h1 h2 h3 h4) ?_
 have I1:Inv X pins σ H { s with heap:=s.heap.push { cls:=.type "range",data:=.fields #[.int lo t,.int hi u,.int 1 v] },toks:=tk }:=I.kept fun b o e=>Heap.get?_push_of_some _ e
 refine ⟨(s.heap.push { cls:=.type "range",data:=.fields #[.int lo t,.int hi u,.int 1 v] }).objs.size,[(s.heap.push { cls:=.type "range",data:=.fields #[.int lo t,.int hi u,.int 1 v] }).objs.size],_,_,H,rfl,
  I1.kept (t':=tk) fun b o e=>Heap.get?_push_of_some _ e,yjk _ lo (hi - lo).toNat,?_,fun b hb=>?_,q⟩
 ·have e1:lo + ((0:Nat):Int) * 1 = lo:=by simp
  have e2:(((hi - lo).toNat:Nat):Int) - ((0:Nat):Int) = Builtin.Range.rangeSize lo hi 1:=by rw [rangeSize_one]; split <;> omega
  show IsRangeIter _ _ (lo + ((0:Nat):Int) * 1) ((((hi - lo).toNat:Nat):Int) - ((0:Nat):Int)) 1
  rw [e1,e2]
  exact Heap.get?_push_size _ rfl
 ·have e:b = (s.heap.push { cls:=.type "range",data:=.fields #[.int lo t,.int hi u,.int 1 v] }).objs.size:=by simpa using hb
  subst e
  exact I1.fpOk (Nat.le_refl _) (I1.hok.fresh (Nat.le_refl _))
def yyy (ta:TA):TI:=fun σ H R=>ta σ H fun vs H1=>∃ j:Int,vs = [.int j]/\-(2 ^ 62) <= j/\j < 2 ^ 62/\R (Itr 0 j.toNat) H1
def yyt (ta:TA):TI:=fun σ H R=>ta σ H fun vs H1=>∃ i j:Int,vs = [.int i,.int j]/\(-(2 ^ 62) <= i/\i < 2 ^ 62/\-(2 ^ 62) <= j/\j < 2 ^ 62)/\R (Itr i (j - i).toNat) H1
theorem zg {a:Expr} {ta:TA} {p pos:Pos} (hg:Gl X "range") (hm:X.mg "range" = none) (ha:PA X [a] ta) (hs:starEach [a] X.env = [(false,eval a X.env)]:=by rfl):PI X tg (.Call (.Name "range" p) [a] [] pos) (yyy ta):=by
 intro pins s σ H R I h
 refine Call_ (ya9 I hg hm boot_range (PyProof.Rows.callWith_type1 (thn (ha pos pins s σ H _ I h) fun us s1 ⟨vs,H1,I1,r1,q1⟩=>?_) hs rfl))
 obtain ⟨j,e,q1,q2,q⟩:=q1
 subst e
 cases r1 with
 | cons r rr =>
  cases rr
  obtain ⟨t,rfl⟩:=r
  exact call_range_1 (yim I1 (by omega) (by omega) q1 q2 (by simpa using q))
theorem yk1 {a b:Expr} {ta:TA} {p pos:Pos} (hg:Gl X "range") (hm:X.mg "range" = none) (ha:PA X [a,b] ta) (hs:starEach [a,b] X.env = [(false,eval a X.env),(false,eval b X.env)]:=by rfl) (hs2:starEach [b] X.env = [(false,eval b X.env)]:=by rfl) :
  PI X tg (.Call (.Name "range" p) [a,b] [] pos) (yyt ta):=by
 intro pins s σ H R I h
 refine Call_ (ya9 I hg hm boot_range (PyProof.Rows.callWith_type1 (thn (ha pos pins s σ H _ I h) fun us s1 ⟨vs,H1,I1,r1,q1⟩=>?_) (by rw [hs,hs2]) (by rw [hs2]; rfl)))
 obtain ⟨i,j,e,⟨q1,q2,q3,q4⟩,q⟩:=q1
 subst e
 cases r1 with
 | cons r rr =>
  cases rr with
  | cons r' rr =>
   cases rr
   obtain ⟨t,rfl⟩:=r
   obtain ⟨t',rfl⟩:=r'
   exact call_range_2 (yim I1 q1 q2 q3 q4 q)
def vbb (wi:TI) (g:TG) (tb:TS):TS:=fun D σ H=>wi σ H fun J H1=>∃ W:Nat->Nat->St->Hp->Prop,(∃ m,W 0 m σ H1)/\∀ i m σ H,W i m σ H ->
 (J.stop i H/\D.nx σ H)\/(J.go i H/\∃ N:St->Hp->Prop,(∀ σ' H',N σ' H'->∃ m',m' < m/\W (i + 1) m' σ' H')/\∀ x H',J.yld i H x H'->g x σ H' fun σ2 H2=>tb { D with nx:=N,ct:=N,bk:=D.nx } σ2 H2)
def yis (fp:List Addr) (h:Heap):List (Addr × Obj):=fp.filterMap fun b=>(h.get? b).map fun o=>(b,o)
theorem wf {fp:List Addr} {h:Heap} {b:Addr} {o:Obj} (hb:b ∈ fp) (e:h.get? b = some o):(b,o) ∈ yis fp h:=List.mem_filterMap.mpr ⟨b,hb,by rw [e]; rfl⟩
theorem ykr {fp:List Addr} {h:Heap} {p:Addr × Obj} (hp:p ∈ yis fp h):p.1 ∈ fp/\h.get? p.1 = some p.2:=by
 obtain ⟨b,hb,e⟩:=List.mem_filterMap.mp hp
 cases q:h.get? b with
 | none=>rw [q] at e; cases e
 | some o =>
  rw [q] at e
  have e':(b,o) = p:=Option.some.inj e
  subst e'
  exact ⟨hb,q⟩
theorem Inv.pinned {pins:List (Addr × Obj)} {σ:St} {H:Hp} {s:Shared} {fp:List Addr} (I:Inv X pins σ H s) (hf:∀ b ∈ fp,ye3 X pins H b) (ho:∀ b ∈ fp,∃ o,s.heap.get? b = some o/\∀ v,o.data ≠ .cell v):Inv X (pins ++ yis fp s.heap) σ H s :=
 I.pins_of fun p hp=>(List.mem_append.mp hp).elim (fun z=>I.pin p (List.mem_append_right _ z)) fun z=>by
  obtain ⟨hb,e⟩:=ykr z
  obtain ⟨f0,f1,f2,_⟩:=hf p.1 hb
  obtain ⟨o,e',d⟩:=ho p.1 hb
  rw [e] at e'; cases e'
  exact ⟨e,f0,f1,f2,d⟩
theorem Inv.unpinned {pins pl:List (Addr × Obj)} {σ:St} {H:Hp} {s:Shared} (I:Inv X (pins ++ pl) σ H s):Inv X pins σ H s:=I.pins_of fun p hp=>I.pin p (List.mem_append_right _ (List.mem_append_left _ hp))
theorem z8 {iter:Expr} {body:List Stmt} {wi:TI} {g:TG} {tb:TS} {pos:Pos} (hp:PassesOwn (model X.prog X.w) X.A X.env X.xe) (hc:X.calm = true) (hi:PI X tg iter wi) (hg:PG X tg g) (hb:PSs X body tb)
  (hs:∀ x,foldedSetIterable iter X.env x = pure x:=by intro _; rfl):PS X (.For tg iter body [] pos) (vbb wi g tb):=by
 intro pins s σ H D I h
 refine wpAny_For (thn (hi pins s σ H _ I h) fun v s1 h1=>thn h1 fun itv s2 h2=>?_) hs
 obtain ⟨it,fp,tn,J,H2,e,I2,T,st2,f2,W,⟨m0,w0⟩,turn⟩:=h2
 subst e
 have stat:∀ {H':Hp},(∀ b ∈ fp,H' b = none)->∀ b ∈ fp,ye3 X pins H' b:=fun hn b hb=>⟨hn b hb,(f2 b hb).2⟩
 refine codeAny_forLoop_any (fun n s'=>∃ i σ' H',Inv X pins σ' H' s'/\tn i s'.heap/\(∀ b ∈ fp,H' b = none)/\W i n σ' H') ?_ m0 ⟨0,σ,H2,I2,st2,fun b hb=>(f2 b hb).1,w0⟩
 rintro n s3 ⟨i,σ3,H3,I3,st3,fr3,w3⟩
 rcases turn i n σ3 H3 w3 with ⟨stop,qn⟩ | ⟨go,N,hN,step⟩
 ·refine wpAny_passesOwn hp (thn (T.done X rfl rfl rfl hc i pins s3 σ3 H3 X.xe I3 (stat fr3) st3 stop) fun r s4 ⟨hr,I4⟩=>?_)
  subst hr
  exact wpAny_execs_nil ⟨σ3,H3,I4,qn⟩
 ·refine wpAny_passesOwn hp (thn (T.item X rfl rfl rfl hc i pins s3 σ3 H3 X.xe I3 (stat fr3) st3 go) fun r s4 ⟨u,hr,h4⟩=>?_)
  subst hr
  refine wpAny_passesOwn hp (thn h4 fun _ s5 ⟨x,H5,I5,r5,y5,st5,fr5⟩=>?_)
  have I5':=I5.pinned (stat fr5) (T.obj _ _ st5)
  refine wpAny_passesOwn hp (thn (hg _ s5 σ3 H5 x u _ I5' r5 (step x H5 y5)) fun _ s6 ⟨σ6,H6,I6,q6⟩=>?_)
  refine wpAny_passesOwn hp (thn (hb _ s6 σ6 H6 _ I6 q6) fun f s7 q7=>?_)
  have again:∀ {σ7:St} {H7:Hp},Inv X (pins ++ yis fp s5.heap) σ7 H7 s7->N σ7 H7->∃ m,m < n/\∃ i σ' H',Inv X pins σ' H' s7/\tn i s7.heap/\(∀ b ∈ fp,H' b = none)/\W i m σ' H':=fun {σ7 H7} I7 n7=>by
   obtain ⟨m',hm,w7⟩:=hN σ7 H7 n7
   refine ⟨m',hm,i + 1,σ7,H7,I7.unpinned,T.keep _ _ _ st5 fun b hb o e=>(I7.pin (b,o) (List.mem_append_right _ (List.mem_append_right _ (wf hb e)))).1,fun b hb=>?_,w7⟩
   obtain ⟨o,e,d⟩:=T.obj _ _ st5 b hb
   exact (I7.pin (b,o) (List.mem_append_right _ (List.mem_append_right _ (wf hb e)))).2.1
  cases f with
  | next=>obtain ⟨σ7,H7,I7,n7⟩:=q7; exact again I7 n7
  | cont=>obtain ⟨σ7,H7,I7,n7⟩:=q7; exact again I7 n7
  | brk=>obtain ⟨σ7,H7,I7,q7⟩:=q7; exact ⟨σ7,H7,I7.unpinned,q7⟩
  | ret v=>obtain ⟨x7,σ7,H7,I7,r7,q7⟩:=q7; exact ⟨x7,σ7,H7,I7.unpinned,r7,q7⟩
end
theorem zu {K:W.Frag} {a:Addr} {xs:List V} {g:TG} {tb:TS} {D:ygk} {σ:St} {H:Hp} (Pv:Nat->St->Hp->Prop) (h0:Pv 0 σ H) (hl:∀ i σ H,i <= xs.length->Pv i σ H->SqL K H a xs)
  (hs:∀ i x σ H,xs[i]? = some x->Pv i σ H->g x σ H fun σ2 H2=>tb { D with nx:=Pv (i + 1),ct:=Pv (i + 1),bk:=D.nx } σ2 H2) (hd:∀ σ H,Pv xs.length σ H->D.nx σ H) :
  ∃ W:Nat->Nat->St->Hp->Prop,(∃ m,W 0 m σ H)/\∀ i m σ H,W i m σ H ->
   ((Itl K a).stop i H/\D.nx σ H)\/((Itl K a).go i H/\∃ N:St->Hp->Prop,(∀ σ' H',N σ' H'->∃ m',m' < m/\W (i + 1) m' σ' H')/\∀ x H',(Itl K a).yld i H x H'->g x σ H' fun σ2 H2=>tb { D with nx:=N,ct:=N,bk:=D.nx } σ2 H2):=by
 refine ⟨fun i m σ H=>m = xs.length - i/\i <= xs.length/\Pv i σ H,⟨xs.length,by simp,Nat.zero_le _,h0⟩,?_⟩
 rintro i m σ H ⟨rfl,hi,p⟩
 have q:=hl i σ H hi p
 by_cases hlt:i < xs.length
 ·refine .inr ⟨⟨xs,xs[i],q,by simp [hlt]⟩,Pv (i + 1),fun σ' H' p'=>⟨xs.length - (i + 1),by omega,rfl,hlt,p'⟩,fun x H' y=>?_⟩
  obtain ⟨e,y⟩:=y
  subst e
  exact hs i x σ _ (y xs q) p
 ·have e:i = xs.length:=by omega
  subst e
  exact .inl ⟨⟨xs,q,Nat.le_refl _⟩,hd σ H p⟩
theorem jn {lo:Int} {n:Nat} {g:TG} {tb:TS} {D:ygk} {σ:St} {H:Hp} (Pv:Nat->St->Hp->Prop) (h0:Pv 0 σ H)
  (hs:∀ i σ H,i < n->Pv i σ H->g (.int (lo + i)) σ H fun σ2 H2=>tb { D with nx:=Pv (i + 1),ct:=Pv (i + 1),bk:=D.nx } σ2 H2) (hd:∀ σ H,Pv n σ H->D.nx σ H) :
  ∃ W:Nat->Nat->St->Hp->Prop,(∃ m,W 0 m σ H)/\∀ i m σ H,W i m σ H ->
   ((Itr lo n).stop i H/\D.nx σ H)\/((Itr lo n).go i H/\∃ N:St->Hp->Prop,(∀ σ' H',N σ' H'->∃ m',m' < m/\W (i + 1) m' σ' H')/\∀ x H',(Itr lo n).yld i H x H'->g x σ H' fun σ2 H2=>tb { D with nx:=N,ct:=N,bk:=D.nx } σ2 H2):=by
 refine ⟨fun i m σ H=>m = n - i/\i <= n/\Pv i σ H,⟨n,by simp,Nat.zero_le _,h0⟩,?_⟩
 rintro i m σ H ⟨rfl,hi,p⟩
 by_cases hlt:i < n
 ·refine .inr ⟨hlt,Pv (i + 1),fun σ' H' p'=>⟨n - (i + 1),by omega,rfl,hlt,p'⟩,fun x H' y=>?_⟩
  obtain ⟨e,y⟩:=y
  subst e y
  exact hs i σ _ hlt p
 ·have e:i = n:=by omega
  subst e
  exact .inl ⟨Nat.le_refl _,hd σ H p⟩
end L2
namespace L2
open PySem PySem.Spec PyProof.Rows
abbrev R2:=V->V->Hp->VK->Prop
def OpR (X:Cx) (f:Value->Value->Sem Value) (r:R2):Prop :=
 ∀ (pins:List (Addr × Obj)) (s:Shared) (σ:St) (H:Hp) (x y:V) (v u:Value) (Q:VK),Inv X pins σ H s->w8 x v->w8 y u->r x y H Q ->
  wpAny (model X.prog X.w) X.A (f v u) (EP X pins σ Q) X.xe s
def UnR (X:Cx) (f:Value->Sem Value) (r:V->Hp->VK->Prop):Prop :=
 ∀ (pins:List (Addr × Obj)) (s:Shared) (σ:St) (H:Hp) (x:V) (v:Value) (Q:VK),Inv X pins σ H s->w8 x v->r x H Q ->
  wpAny (model X.prog X.w) X.A (f v) (EP X pins σ Q) X.xe s
def ybe (X:Cx) (f:Value) (r:List V->Hp->VK->Prop):Prop :=
 ∀ (pins:List (Addr × Obj)) (s:Shared) (σ:St) (H:Hp) (xs:List V) (us:List Value) (Q:VK),Inv X pins σ H s->wg xs us->r xs H Q ->
  wpAny (model X.prog X.w) X.A (call f us) (EP X pins σ Q) X.xe s
def tOp (r:R2) (ta tb:TE):TE:=fun σ H Q=>ta σ H fun x H1=>tb σ H1 fun y H2=>r x y H2 Q
def tUn (r:V->Hp->VK->Prop) (ta:TE):TE:=fun σ H Q=>ta σ H fun x H1=>r x H1 Q
def rI (C:Int->Int->Prop) (g:Int->Int->V):R2:=fun x y H Q=>∃ i j,x = .int i/\y = .int j/\C i j/\Q (g i j) H
def rI0 (g:Int->Int->V):R2:=fun x y H Q=>∃ i j,x = .int i/\y = .int j/\Q (g i j) H
def rU (g:Int->V):V->Hp->VK->Prop:=fun x H Q=>∃ i,x = .int i/\Q (g i) H
section
variable {X:Cx} {a b c:Expr} {ta tb tc:TE} {pos:Pos}
theorem vay (ha:PE X a ta) (hb:PE X b tb) {pins:List (Addr × Obj)} {s:Shared} {σ:St} {H:Hp} {R:V->V->Hp->Prop} (I:Inv X pins σ H s)
  (h:ta σ H fun x H1=>tb σ H1 fun y H2=>R x y H2) {Q:Value->Shared->Prop} {f:Value->Value->Sem Value}
  (hf:∀ v u s2 x y H2,Inv X pins σ H2 s2->w8 x v->w8 y u->R x y H2->wpAny (model X.prog X.w) X.A (f v u) Q X.xe s2) :
  wpAny (model X.prog X.w) X.A (eval a X.env) (fun v s₁=>wpAny (model X.prog X.w) X.A (eval b X.env) (fun u s₂=>wpAny (model X.prog X.w) X.A (f v u) Q X.xe s₂) X.xe s₁) X.xe s:=by
 refine thn (ha pins s σ H _ I h) fun v s1 ⟨x,H1,I1,r1,q1⟩=>?_
 refine thn (hb pins s1 σ H1 _ I1 q1) fun u s2 ⟨y,H2,I2,r2,q2⟩=>?_
 exact hf v u s2 x y H2 I2 r1 r2 q2
theorem ym {op:Operator} {r:R2} (ho:OpR X (binaryOp op) r) (ha:PE X a ta) (hb:PE X b tb):PE X (.BinOp a op b pos) (tOp r ta tb):=by
 intro pins s σ H Q I h
 exact wpAny_BinOp (vay ha hb I h fun v u s2 x y H2 I2 rx ry q=>ho pins s2 σ H2 x y v u Q I2 rx ry q)
theorem yy1 {op:UnaryOp} {r:V->Hp->VK->Prop} (ho:UnR X (unaryOp op) r) (ha:PE X a ta):PE X (.UnaryOp op a pos) (tUn r ta):=by
 intro pins s σ H Q I h
 exact UnaryOp_ (thn (ha pins s σ H _ I h) fun v s1 ⟨x,H1,I1,r1,q1⟩=>ho pins s1 σ H1 x v Q I1 r1 q1)
theorem opI {f:Value->Value->Sem Value} {C:Int->Int->Prop} {g:Int->Int->Int}
  (rule:∀ (i j:Int) (t u:Tok) (s:Shared) (Q:Value->Shared->Prop) (E:Value->Shared->Prop),C i j->Q (.int (g i j) s.toks) { s with toks:=s.toks + 1 }->wpAny (model X.prog X.w) X.A (f (.int i t) (.int j u)) Q E s) :
  OpR X f (rI C fun i j=>.int (g i j)):=by
 intro pins s σ H x y v u Q I rx ry h
 obtain ⟨i,j,rfl,rfl,hc,q⟩:=h
 obtain ⟨t,rfl⟩:=rx
 obtain ⟨t',rfl⟩:=ry
 exact rule i j t t' s _ _ hc ⟨.int (g i j),H,I.tok _,⟨_,rfl⟩,q⟩
theorem va2 {f:Value->Value->Sem Value} {g:Int->Int->Int}
  (rule:∀ (i j:Int) (t u:Tok) (s:Shared) (Q:Value->Shared->Prop) (E:Value->Shared->Prop),Q (.int (g i j) s.toks) { s with toks:=s.toks + 1 }->wpAny (model X.prog X.w) X.A (f (.int i t) (.int j u)) Q E s) :
  OpR X f (rI0 fun i j=>.int (g i j)):=by
 intro pins s σ H x y v u Q I rx ry h
 obtain ⟨i,j,rfl,rfl,q⟩:=h
 obtain ⟨t,rfl⟩:=rx
 obtain ⟨t',rfl⟩:=ry
 exact rule i j t t' s _ _ ⟨.int (g i j),H,I.tok _,⟨_,rfl⟩,q⟩
theorem yzk {f:Value->Value->Sem Value} {g:Int->Int->Bool}
  (rule:∀ (i j:Int) (t u:Tok) (s:Shared) (Q:Value->Shared->Prop) (E:Value->Shared->Prop),Q (.bool (g i j)) s->wpAny (model X.prog X.w) X.A (f (.int i t) (.int j u)) Q E s) :
  OpR X f (rI0 fun i j=>.bl (g i j)):=by
 intro pins s σ H x y v u Q I rx ry h
 obtain ⟨i,j,rfl,rfl,q⟩:=h
 obtain ⟨t,rfl⟩:=rx
 obtain ⟨t',rfl⟩:=ry
 exact rule i j t t' s _ _ ⟨.bl (g i j),H,I,rfl,q⟩
def vau (i j:Int):Prop:=(-(2 ^ 64) < i/\i < 2 ^ 64)\/(-(2 ^ 64) < j/\j < 2 ^ 64)
theorem vau.ok {i j:Int} (h:vau i j):IntMulOk i j:=by
 rcases h with ⟨h1,h2⟩ | ⟨h1,h2⟩
 ·exact .of_left (intBits_le_64 h1 h2)
 ·exact .of_right (intBits_le_64 h1 h2)
theorem yjj (k:Nat):(0:Int) <= 2 ^ k:=by
 rw [two_pow_cast]
 exact Int.natCast_nonneg _
theorem vw:OpR X (binaryOp .Add) (rI0 fun i j=>.int (i + j)):=va2 fun _ _ _ _ _ _ _ q=>add_int q
theorem ue:OpR X (binaryOp .Sub) (rI0 fun i j=>.int (i - j)):=va2 fun _ _ _ _ _ _ _ q=>sub_int q
theorem wk:OpR X (binaryOp .Mult) (rI vau fun i j=>.int (i * j)):=opI fun _ _ _ _ _ _ _ hc q=>mul_int q hc.ok
theorem vt:OpR X (binaryOp .Mod) (rI (fun _ j=>0 < j) fun i j=>.int (i % j)):=opI fun i j _ _ _ _ _ hc q=>by
 have h1:(0:Int) < j:=hc
 exact mod_int' (by omega) (by rw [Int.fmod_eq_emod_of_nonneg i (by omega)]; exact q)
theorem yqd:OpR X (binaryOp .RShift) (rI (fun _ j=>0 <= j) fun i j=>.int (i / 2 ^ j.toNat)):=opI fun i j _ _ _ _ _ hc q =>
 rshift_int hc (by rw [Int.fdiv_eq_ediv_of_nonneg i (yjj _)]; exact q)
theorem yq3:OpR X (binaryOp .BitAnd) (rI0 fun i j=>.int (Builtin.bitAnd i j)):=va2 fun _ _ _ _ _ _ _ q=>and_int q
theorem unI {f:Value->Sem Value} {g:Int->Int}
  (rule:∀ (i:Int) (t:Tok) (s:Shared) (Q:Value->Shared->Prop) (E:Value->Shared->Prop),Q (.int (g i) s.toks) { s with toks:=s.toks + 1 }->wpAny (model X.prog X.w) X.A (f (.int i t)) Q E s) :
  UnR X f (rU fun i=>.int (g i)):=by
 intro pins s σ H x v Q I rx h
 obtain ⟨i,rfl,q⟩:=h
 obtain ⟨t,rfl⟩:=rx
 exact rule i t s _ _ ⟨.int (g i),H,I.tok _,⟨_,rfl⟩,q⟩
theorem yqa:UnR X (unaryOp .USub) (rU fun i=>.int (-i)):=unI fun _ _ _ _ _ q=>neg_int q
end
def vby:V->V->Bool
 | .non,.non=>true | .non,.int _=>true | .int _,.non=>true | .non,.bl _=>true | .bl _,.non=>true | .non,.str _=>true | .str _,.non=>true
 | .int _,.int _=>true | .bl _,.bl _=>true | .str _,.str _=>true | .byt _,.byt _=>true
 | .int _,.str _=>true | .str _,.int _=>true | .bl _,.str _=>true | .str _,.bl _=>true
 | _,_=>false
def rEq:R2:=fun x y H Q=>vby x y = true/\Q (.bl (decide (x = y))) H
theorem ysn {i j:Int}:decide (V.int i = V.int j) = (i == j):=by
 rw [Bool.eq_iff_iff]
 simp
theorem ywv {i j:Bool}:decide (V.bl i = V.bl j) = (i == j):=by
 rw [Bool.eq_iff_iff]
 simp
theorem ytr {i j:Str}:decide (V.str i = V.str j) = (i == j):=by
 rw [Bool.eq_iff_iff]
 simp
theorem yto {i j:Array UInt8}:decide (V.byt i = V.byt j) = (i.toList == j.toList):=by
 rw [Bool.eq_iff_iff]
 cases i
 cases j
 simp
section
variable {X:Cx} {a b c:Expr} {ta tb tc:TE} {pos:Pos}
theorem xv {pins:List (Addr × Obj)} {σ:St} {H:Hp} {s:Shared} {Q:VK} {k k':Bool} (I:Inv X pins σ H s) (q:Q (.bl k) H) (e:k = k'):EP X pins σ Q (.bool k') s:=by
 subst e
 exact ⟨.bl k,H,I,rfl,q⟩
theorem x4:OpR X (compareOp .Eq) rEq:=by
 intro pins s σ H x y v u Q I rx ry h
 obtain ⟨hs,q⟩:=h
 cases x with
 | non =>
  cases rx
  cases y with
  | non=>cases ry; exact PySem.EqNone.eq_none_none (xv I q (by simp))
  | bl j=>cases ry; exact PySem.EqNone.eq_none_bool (xv I q (by simp))
  | int j=>obtain ⟨t',rfl⟩:=ry; exact PySem.EqNone.eq_none_int (xv I q (by simp))
  | str j=>obtain ⟨t',rfl⟩:=ry; exact PySem.EqNone.eq_none_str (xv I q (by simp))
  | _=>exact absurd (show false = true from hs) Bool.false_ne_true
 | bl i =>
  cases rx
  cases y with
  | non=>cases ry; exact PySem.EqNone.eq_bool_none (xv I q (by simp))
  | bl j=>cases ry; exact eq_bool (xv I q ywv)
  | str j=>obtain ⟨t',rfl⟩:=ry; exact PySem.EqMixed.eq_bool_str (xv I q (by simp))
  | _=>exact absurd (show false = true from hs) Bool.false_ne_true
 | int i =>
  obtain ⟨t,rfl⟩:=rx
  cases y with
  | non=>cases ry; exact PySem.EqNone.eq_int_none (xv I q (by simp))
  | int j=>obtain ⟨t',rfl⟩:=ry; exact eq_int (xv I q ysn)
  | str j=>obtain ⟨t',rfl⟩:=ry; exact PySem.EqMixed.eq_int_str (xv I q (by simp))
  | _=>exact absurd (show false = true from hs) Bool.false_ne_true
 | str i =>
  obtain ⟨t,rfl⟩:=rx
  cases y with
  | non=>cases ry; exact PySem.EqNone.eq_str_none (xv I q (by simp))
  | bl j=>cases ry; exact PySem.EqMixed.eq_str_bool (xv I q (by simp))
  | int j=>obtain ⟨t',rfl⟩:=ry; exact PySem.EqMixed.eq_str_int (xv I q (by simp))
  | str j=>obtain ⟨t',rfl⟩:=ry; exact eq_str (xv I q ytr)
  | _=>exact absurd (show false = true from hs) Bool.false_ne_true
 | byt i =>
  obtain ⟨t,rfl⟩:=rx
  cases y with
  | byt j=>obtain ⟨t',rfl⟩:=ry; exact W.eq_bytes (xv I q yto)
  | _=>exact absurd (show false = true from hs) Bool.false_ne_true
 | _=>cases y <;> exact absurd (show false = true from hs) Bool.false_ne_true
theorem ygg:OpR X (compareOp .Lt) (rI0 fun i j=>.bl (decide (i < j))):=yzk fun _ _ _ _ _ _ _ q=>lt_int q
theorem uv:OpR X (compareOp .LtE) (rI0 fun i j=>.bl (decide (i <= j))):=yzk fun _ _ _ _ _ _ _ q=>le_int q
theorem ynk:OpR X (compareOp .Gt) (rI0 fun i j=>.bl (decide (j < i))):=yzk fun _ _ _ _ _ _ _ q=>gt_int q
theorem yyl:OpR X (compareOp .GtE) (rI0 fun i j=>.bl (decide (j <= i))):=yzk fun _ _ _ _ _ _ _ q=>ge_int q
theorem ymw:OpR X (compareOp .Is) (fun x y H Q=>y = .non/\Q (.bl (decide (x = .non))) H):=by
 intro pins s σ H x y v u Q I rx ry h
 obtain ⟨rfl,q⟩:=h
 cases ry
 refine is_none_gen (xv I q ?_)
 cases x <;> first
  | (cases rx; rfl)
  | (obtain ⟨t,rfl⟩:=rx; rfl)
theorem yst:OpR X (compareOp .IsNot) (fun x y H Q=>y = .non/\Q (.bl (!decide (x = .non))) H):=by
 intro pins s σ H x y v u Q I rx ry h
 obtain ⟨rfl,q⟩:=h
 cases ry
 refine isnot_none_gen (xv I q ?_)
 cases x <;> first
  | (cases rx; rfl)
  | (obtain ⟨t,rfl⟩:=rx; rfl)
theorem vg (b:Expr) {op:CmpOp} (h:op ≠ .In:=by decide) (h2:op ≠ .NotIn:=by decide):behindInMarks op b = false:=by
 have e1:(op == CmpOp.In) = false:=by cases op <;> first | rfl | exact absurd rfl h
 have e2:(op == CmpOp.NotIn) = false:=by cases op <;> first | rfl | exact absurd rfl h2
 cases b <;> simp [behindInMarks,e1,e2]
theorem jd {op:CmpOp} {r:R2} (ho:OpR X (compareOp op) r) (ha:PE X a ta) (hb:PE X b tb) (hm:behindInMarks op b = false):PE X (.Compare a [op] [b] pos) (tOp r ta tb):=by
 intro pins s σ H Q I h
 exact wpAny_Compare1 (vay ha hb I h fun v u s2 x y H2 I2 rx ry q=>ho pins s2 σ H2 x y v u Q I2 rx ry q) hm
def yub (t:TE):TT:=fun σ H Q=>t σ H fun x H'=>∃ k,x = .bl k/\Q k H'
theorem y7 {op:CmpOp} {r:R2} (ho:OpR X (compareOp op) r) (ha:PE X a ta) (hb:PE X b tb) (hm:behindInMarks op b = false):PT X (.Compare a [op] [b] pos) (yub (tOp r ta tb)):=by
 intro pins s σ H Q I h
 refine wpAny_isTrue_Compare1 (thn (ha pins s σ H _ I h) fun v s1 ⟨x,H1,I1,r1,q1⟩=>thn (hb pins s1 σ H1 _ I1 q1) fun u s2 ⟨y,H2,I2,r2,q2⟩ =>
  thn (ho pins s2 σ H2 x y v u _ I2 r1 r2 q2) fun c s3 ⟨z,H3,I3,r3,k,e,q3⟩=>?_) hm
 subst e
 cases r3
 exact wpAny_truthy_bool ⟨H3,I3,q3⟩
def ymx (r r':R2) (ta tb tc:TE):TE:=fun σ H Q=>ta σ H fun x H1=>tb σ H1 fun y H2=>r x y H2 fun z H3=>∃ k,z = .bl k /\
 (if k = true then tc σ H3 fun w' H4=>r' y w' H4 Q else Q (.bl false) H3)
theorem yap {op op':CmpOp} {r r':R2} (ho:OpR X (compareOp op) r) (ho':OpR X (compareOp op') r') (ha:PE X a ta) (hb:PE X b tb) (hc:PE X c tc)
  (hm:lastMarks [op,op'] [b,c] = false:=by with_unfolding_all rfl):PE X (.Compare a [op,op'] [b,c] pos) (ymx r r' ta tb tc):=by
 intro pins s σ H Q I h
 refine Compare_chain (thn (ha pins s σ H _ I h) fun v s1 ⟨x,H1,I1,r1,q1⟩=>chain_link (thn (hb pins s1 σ H1 _ I1 q1) fun u s2 ⟨y,H2,I2,r2,q2⟩ =>
  thn (ho pins s2 σ H2 x y v u _ I2 r1 r2 q2) fun d s3 ⟨z,H3,I3,r3,k,e,q3⟩=>?_)) hm
 subst e
 cases r3
 refine wpAny_truthy_bool ?_
 cases k with
 | false=>exact ite_ff ⟨.bl false,H3,I3,rfl,q3⟩
 | true=>exact ite_tt (chain_last (thn (hc pins s3 σ H3 _ I3 q3) fun w' s4 ⟨z',H4,I4,r4,q4⟩=>ho' pins s4 σ H4 y z' u w' Q I4 r2 r4 q4))
theorem yar {op op':CmpOp} {r r':R2} (ho:OpR X (compareOp op) r) (ho':OpR X (compareOp op') r') (ha:PE X a ta) (hb:PE X b tb) (hc:PE X c tc)
  (hm:lastMarks [op,op'] [b,c] = false:=by with_unfolding_all rfl):PT X (.Compare a [op,op'] [b,c] pos) (yub (ymx r r' ta tb tc)):=by
 intro pins s σ H Q I h
 refine isTrue_chain (thn (ha pins s σ H _ I h) fun v s1 ⟨x,H1,I1,r1,q1⟩=>test_link (thn (hb pins s1 σ H1 _ I1 q1) fun u s2 ⟨y,H2,I2,r2,q2⟩ =>
  thn (ho pins s2 σ H2 x y v u _ I2 r1 r2 q2) fun d s3 ⟨z,H3,I3,r3,k,e,q3⟩=>?_)) hm
 subst e
 cases r3
 refine wpAny_truthy_bool ?_
 cases k with
 | false =>
  obtain ⟨k',e',q'⟩:=q3
  cases e'
  exact ite_ff ⟨H3,I3,q'⟩
 | true =>
  refine ite_tt (test_last (thn (hc pins s3 σ H3 _ I3 q3) fun w' s4 ⟨z',H4,I4,r4,q4⟩=>thn (ho' pins s4 σ H4 y z' u w' _ I4 r2 r4 q4) fun d' s5 ⟨z2,H5,I5,r5,k2,e2,q5⟩=>?_))
  subst e2
  cases r5
  exact wpAny_truthy_bool ⟨H5,I5,q5⟩
theorem yi1:(sizeLine:Nat) < 2 ^ 63:=by rw [sizeLine_eq]; decide
theorem ynn {x:V} {us:List Value} (r:wg [x] us):∃ u,us = [u]/\w8 x u:=by
 cases r with
 | cons r1 r2=>cases r2; exact ⟨_,rfl,r1⟩
theorem yua {x y:V} {us:List Value} (r:wg [x,y] us):∃ u w',us = [u,w']/\w8 x u/\w8 y w':=by
 cases r with
 | cons r1 r2 =>
  cases r2 with
  | cons r3 r4=>cases r4; exact ⟨_,_,rfl,r1,r3⟩
theorem yfz (hc:X.calm = true):ybe X (.builtin "max") (fun xs H Q=>∃ i j,xs = [.int i,.int j]/\Q (.int (if j > i then j else i)) H):=by
 intro pins s σ H xs us Q I r h
 obtain ⟨i,j,rfl,q⟩:=h
 obtain ⟨u,w',rfl,⟨t,rfl⟩,⟨t',rfl⟩⟩:=yua r
 refine max_two_ints (I.ok.hd hc) fun h' tk k=>⟨_,H,I.kept k,?_,q⟩
 by_cases hj:j > i
 ·rw [if_pos hj,if_pos hj]; exact ⟨_,rfl⟩
 ·rw [if_neg hj,if_neg hj]; exact ⟨_,rfl⟩
theorem yf0 (hc:X.calm = true):ybe X (.builtin "min") (fun xs H Q=>∃ i j,xs = [.int i,.int j]/\Q (.int (if j < i then j else i)) H):=by
 intro pins s σ H xs us Q I r h
 obtain ⟨i,j,rfl,q⟩:=h
 obtain ⟨u,w',rfl,⟨t,rfl⟩,⟨t',rfl⟩⟩:=yua r
 refine min_two_ints (I.ok.hd hc) fun h' tk k=>⟨_,H,I.kept k,?_,q⟩
 by_cases hj:j < i
 ·rw [if_pos hj,if_pos hj]; exact ⟨_,rfl⟩
 ·rw [if_neg hj,if_neg hj]; exact ⟨_,rfl⟩
end
end L2
namespace L2
open PySem PySem.Spec PyProof.Rows
structure yuf (h:Heap) (x dx C:Addr) (mA:Str->Option Value):Prop where
 obj:h.get? x = some (W.instObj C dx)
 ns:h.Ns1 dx mA
 ne:dx ≠ x
theorem ylt {h:Heap} {dx:Addr} {mA:Str->Option Value} (n:h.Ns1 dx mA):∃ od,h.get? dx = some od/\∀ name,W.lookIn name od = some (mA name):=by
 obtain ⟨o,es,ep,ho,hd,hk,_,hm⟩:=n
 refine ⟨o,ho,fun name=>?_⟩
 have e:=hm name
 unfold nsFind findBy at e
 rw [<- Array.find?_toList] at e
 unfold W.lookIn
 rw [hd]
 dsimp only
 split
 ·rename_i y q
  rw [q] at e
  exact congrArg some e
 ·rename_i q
  rw [q] at e
  have a:es.toList.any (·.refKey) = false:=by
   rw [List.any_eq_false]
   intro y hy
   obtain ⟨z,t,hkey⟩:=hk y (Array.mem_toList_iff.mp hy)
   simp [DictEntry.refKey,hkey]
  have a':¬ es.toList.any (·.refKey) = true:=by rw [a]; exact Bool.false_ne_true
  rw [if_neg a']
  exact congrArg some e
theorem yuf.look {h:Heap} {x dx C:Addr} {mA:Str->Option Value} (I:yuf h x dx C mA):∃ od,W.InstAt h x (W.instObj C dx) C (some od)/\∀ name,W.lookIn name od = some (mA name) :=
 let ⟨od,ho,hl⟩:=ylt I.ns
 ⟨od,⟨I.obj,rfl,rfl,ho⟩,hl⟩
section
variable {prog:Program} {w:World} {A:Around} {E:Value->Shared->Prop} {s:Shared} {K:W.Frag} {x dx C f:Addr} {mA:Str->Option Value} {name:Str} {v:Value}
theorem ys8 {expr:Bool} {Q:Value->Shared->Prop} (X:K.In s.heap) (I:yuf s.heap x dx C mA) (hg:W.plainGet K C name = true) (hh:W.hasDictIn K C = true)
  (ha:W.findIn K (.ref C) name = some none) (hv:mA name = some v) (hv':W.handedIn v = true) (h:Q v { s with toks:=s.toks + 1 }) :
  wpAny (model prog w) A (getAttr (.ref x) name expr) Q E s:=by
 obtain ⟨od,J,hl⟩:=I.look
 exact W.get_value X J (W.plainGet_of hg).1 (W.findObj_own hh ha rfl (by rw [hl,hv])) hv' h
theorem yop {pl:Sem Bool} {Q:Value × List Value->Shared->Prop} (X:K.In s.heap) (I:yuf s.heap x dx C mA) (hg:W.plainGet K C name = true)
  (hf:W.findIn K (.ref C) name = some (some (.ref f))) (ht:W.isFn K (.ref f) = true) (hv:mA name = none) (h:Q (.ref f,[.ref x]) s) :
  wpAny (model prog w) A (getMethod (.ref x) name pl) Q E s:=by
 obtain ⟨od,J,hl⟩:=I.look
 exact W.method_fn X J (W.plainGet_of hg).1 (W.plainGet_of hg).2 hf (beq_iff_eq.mp ht) (by show (W.lookIn name od).map (·.isSome) = some false; rw [hl,hv]; rfl) h
theorem ytn {ns:List Str} {Q:Unit->Shared->Prop} (X:K.In s.heap) (I:yuf s.heap x dx C mA)
  (hs:W.findIn K (.ref C) "__setattr__" = some (some (.builtin "object.__setattr__"))) (hp:W.plainOver K C = true) (ht:W.takerIn K C name = some none) (hh:W.hasDictIn K C = true)
  (hw:PySem.Within mA ns) (hsz:ns.length <= sizeLine)
  (h:∀ h',yuf h' x dx C (fun y=>if y = name then some v else mA y)->Heap.SameBut dx s.heap h'->Q () { s with heap:=h',toks:=s.toks + 2 }) :
  wpAny (model prog w) A (setAttr (.ref x) name v) Q E s:=by
 obtain ⟨od,J,hl⟩:=I.look
 refine W.set_plain X J hs (W.osa_open (s:={ s with toks:=s.toks + 1 }) (r:=none) X J hp ht fun b=>?_)
 obtain ⟨cd,hc,hd'⟩:=W.any_some hh
 have hx:s.heap.get? x = some ⟨.ref C,some dx,.plain,#[]⟩:=I.obj
 refine wpAny_bind (wpAny_pure (wpAny_bind (wpAny_bind (wpAny_loadPart hx (wpAny_bind (W.Looks.here (s:={ s with toks:=s.toks + 1 }) (W.looks_clsIn X hc) ?_))))))
 rw [hd']
 refine wpAny_pure (a:=some dx) (wpAny_bind (wpAny_pure (wpAny_bind ?_)))
 refine wpAny_nsSet1 (s:={ s with toks:=s.toks + 1 }) I.ns fun h' hn2 hs2=>?_
 obtain ⟨oD,esD,epD,hoD,hdD,hcD⟩:=hn2.count (PySem.Within.cons name v hw)
 refine wpAny_bind (wpAny_lookBehind hoD (by rw [hdD]; exact pastItsLine_dict (Nat.le_trans hcD (by rw [List.length_cons]; omega))) ?_)
 exact wpAny_pure (h _ ⟨(hs2.2 _ (Ne.symm I.ne)).trans I.obj,hn2,I.ne⟩ hs2)
theorem yia {R:Result->Shared->Prop} {vs:List Value} {kw:List (Str × Value)} (X:K.In s.heap) (hm:W.makesIn K C = true)
  (hi:W.findIn K (.ref C) "__init__" = some (some (.ref f))) (hf:W.typeIn K (.ref f) = some (.type "function"))
  (h:codeAny (model prog w) (A.under (.builtin "type.__call__" ⟨.ref C :: vs,kw⟩)) (.call (.ref f) ⟨.ref (s.heap.objs.size + 1) :: vs,kw⟩) (W.InitBack (s.heap.objs.size + 1) R)
   { s with heap:=(s.heap.push W.emptyDict).push (W.instObj C s.heap.objs.size) }) :
  codeAny (model prog w) A (.call (.ref C) ⟨vs,kw⟩) R s:=by
 obtain ⟨hh,g,d,t,os⟩:=s
 exact W.make_core (W.makes_of X hm) (W.looks_findIn X hi) (fun self=>W.bind_fn X self hf) (.inl rfl) h
end
def wb (f:Str) (v:V):List (Str × V)->List (Str × V)
 | []=>[(f,v)]
 | (g,x) :: r=>if g = f then (g,v) :: r else (g,x) :: wb f v r
theorem ya1 (f g:Str) (v:V):∀ fs:List (Str × V),(wb f v fs).lookup g = if g = f then some v else fs.lookup g
 | []=>by
  show List.lookup g [(f,v)] = _
  by_cases h:g = f
  ·have hb:(g == f) = true:=beq_iff_eq.mpr h
   simp only [List.lookup,hb,if_pos h]
  ·have hb:(g == f) = false:=beq_eq_false_iff_ne.mpr h
   simp only [List.lookup,hb,if_neg h]
 | (k,x) :: r=>by
  have ih:=ya1 f g v r
  rw [show wb f v ((k,x) :: r) = (if k = f then (k,v) :: r else (k,x) :: wb f v r) from rfl]
  by_cases hk:k = f
  ·rw [if_pos hk]
   by_cases h:g = k
   ·have hb:(g == k) = true:=beq_iff_eq.mpr h
    simp only [List.lookup,hb,if_pos (h.trans hk)]
   ·have hb:(g == k) = false:=beq_eq_false_iff_ne.mpr h
    simp only [List.lookup,hb,if_neg (fun e:g = f=>h (e.trans hk.symm))]
  ·rw [if_neg hk]
   by_cases h:g = k
   ·have hb:(g == k) = true:=beq_iff_eq.mpr h
    simp only [List.lookup,hb,if_neg (fun e:g = f=>hk (h.symm.trans e))]
   ·have hb:(g == k) = false:=beq_eq_false_iff_ne.mpr h
    simp only [List.lookup,hb]
    exact ih
theorem ya8 (f:Str) (v:V):∀ fs:List (Str × V),f ∈ (wb f v fs).map (·.1)/\∀ g,g ∈ fs.map (·.1)->g ∈ (wb f v fs).map (·.1)
 | []=>⟨by simp [wb],fun g h=>by simp at h⟩
 | (k,x) :: r=>by
  obtain ⟨i1,i2⟩:=ya8 f v r
  rw [show wb f v ((k,x) :: r) = (if k = f then (k,v) :: r else (k,x) :: wb f v r) from rfl]
  by_cases hk:k = f
  ·rw [if_pos hk]
   subst hk
   exact ⟨by simp,fun g h=>by simpa using h⟩
  ·rw [if_neg hk]
   refine ⟨?_,fun g h=>?_⟩
   ·rw [List.map_cons]
    exact List.mem_cons_of_mem _ i1
   ·rw [List.map_cons] at h ⊢
    rcases List.mem_cons.mp h with e | e
    ·exact List.mem_cons.mpr (.inl e)
    ·exact List.mem_cons_of_mem _ (i2 g e)
theorem ya5 (f:Str) (v:V):∀ fs:List (Str × V),(wb f v fs).length <= fs.length + 1
 | []=>by simp [wb]
 | (k,x) :: r=>by
  have ih:=ya5 f v r
  rw [show wb f v ((k,x) :: r) = (if k = f then (k,v) :: r else (k,x) :: wb f v r) from rfl]
  by_cases hk:k = f
  ·rw [if_pos hk,List.length_cons,List.length_cons]; omega
  ·rw [if_neg hk,List.length_cons,List.length_cons]; omega
theorem ygh.some_of {v:V} {o:Option Value} (r:ygh (some v) o):∃ u,o = some u/\w8 v u:=by
 cases o with
 | none=>exact (show False from r).elim
 | some u=>exact ⟨u,rfl,r⟩
theorem ygh.none_of {o:Option Value} (r:ygh none o):o = none:=by
 cases o with
 | none=>rfl
 | some u=>exact (show False from r).elim
theorem yls {v:V} {u:Value} (r:w8 v u):W.handedIn u = true:=by
 cases v with
 | non=>cases (show u = Value.none from r); rfl
 | bl b=>cases (show u = Value.bool b from r); rfl
 | int i=>obtain ⟨t,e⟩:=(show ∃ t,u = Value.int i t from r); cases e; rfl
 | str x=>obtain ⟨t,e⟩:=(show ∃ t,u = Value.str x t from r); cases e; rfl
 | byt b=>obtain ⟨t,e⟩:=(show ∃ t,u = Value.bytes b t from r); cases e; rfl
 | flt b=>obtain ⟨t,e⟩:=(show ∃ t,u = Value.float b t from r); cases e; rfl
 | ref a=>cases (show u = Value.ref a from r); rfl
 | ty n=>cases (show u = Value.type n from r); rfl
section
variable {P:Program} {w:World} {H H':Hp} {h h':Heap} {a C dx:Addr} {fs fs':List (Str × V)}
theorem yc2 (hok:HOk P w H h) (e:H a = some (.ins C dx fs)):∃ mA,yuf h a dx C mA/\(∀ f,ygh (fs.lookup f) (mA f))/\PySem.Within mA (fs.map (·.1))/\fs.length <= 1000/\H dx = some (.own a):=by
 obtain ⟨d,z,ne,ob,mA,n,r,q⟩:=(show xk P w H h a (.ins C dx fs) from hok a _ e)
 exact ⟨mA,⟨ob,n,ne⟩,r,q,z,d⟩
end
structure Cls (K:W.Frag) (C:Addr):Prop where
 pg:W.plainGet K C Str.empty = true
 hd:W.hasDictIn K C = true
 po:W.plainOver K C = true
 sa:W.findIn K (.ref C) "__setattr__" = some (some (.builtin "object.__setattr__"))
theorem Cls.get {K:W.Frag} {C:Addr} (c:Cls K C) (f:Str):W.plainGet K C f = true:=c.pg
def yt (K:W.Frag) (C:Addr) (f:Str):Prop:=W.findIn K (.ref C) f = some none
theorem yt.taker {K:W.Frag} {C:Addr} {f:Str} (n:yt K C f):W.takerIn K C f = some none:=by
 unfold W.takerIn
 rw [show W.findIn K (.ref C) f = some none from n]
 rfl
structure Con (K:W.Frag) (C:Addr) (f:Str) (v:V) (u:Value):Prop where
 at_:W.findIn K (.ref C) f = some (some u)
 rel:w8 v u
 get:W.specialIn K u "__get__" = some none
 cp:W.copiedNames.contains f = false
structure yag (K:W.Frag) (C:Addr) (m:Str) (f:Addr):Prop where
 at_:W.findIn K (.ref C) m = some (some (.ref f))
 fn:W.isFn K (.ref f) = true
 kp:W.keepIn K (.ref f) = true
section
variable {X:Cx} {pins:List (Addr × Obj)} {σ:St} {H:Hp} {s:Shared} {a C dx:Addr} {fs:List (Str × V)} {f:Str} {v:V} {A:Around} {E:Value->Shared->Prop}
theorem yj7 {b:Bool} {Q:Value->Shared->Prop} (I:Inv X pins σ H s) (e:H a = some (.ins C dx fs)) (c:Cls X.K C) (n:yt X.K C f) (l:fs.lookup f = some v)
  (h:∀ u s',Inv X pins σ H s'->w8 v u->Q u s'):wpAny (model X.prog X.w) A (getAttr (.ref a) f b) Q E s:=by
 obtain ⟨mA,O,r,_,_,_⟩:=yc2 I.hok e
 obtain ⟨u,hu,ru⟩:=ygh.some_of (v:=v) (o:=mA f) (by rw [<- l]; exact r f)
 exact ys8 I.kIn O (c.get f) c.hd n hu (yls ru) (h u _ (I.tok _) ru)
theorem j7 {m:Str} {g:Addr} {pl:Sem Bool} {Q:Value × List Value->Shared->Prop} (I:Inv X pins σ H s) (e:H a = some (.ins C dx fs)) (c:Cls X.K C) (k:yag X.K C m g) (l:fs.lookup m = none)
  (h:Q (.ref g,[.ref a]) s):wpAny (model X.prog X.w) A (getMethod (.ref a) m pl) Q E s:=by
 obtain ⟨mA,O,r,_,_,_⟩:=yc2 I.hok e
 have hn:mA m = none:=ygh.none_of (by rw [<- l]; exact r m)
 exact yop I.kIn O (c.get m) k.at_ k.fn hn h
theorem yjz {y:V} {u:Value} {Q:Unit->Shared->Prop} (I:Inv X pins σ H s) (e:H a = some (.ins C dx fs)) (c:Cls X.K C) (n:yt X.K C f) (hl:fs.length < 1000) (ry:w8 y u)
  (h:∀ s',Inv X pins σ (upd H a (.ins C dx (wb f y fs))) s'->Q () s'):wpAny (model X.prog X.w) A (setAttr (.ref a) f u) Q E s:=by
 obtain ⟨mA,O,r,wi,_,ho⟩:=yc2 I.hok e
 have hz:(fs.map (·.1)).length <= sizeLine:=by rw [List.length_map,sizeLine_eq]; omega
 refine ytn I.kIn O c.sa c.po n.taker c.hd wi hz fun h' O' sb=>h _ ?_
 have hd:∃ o,h'.get? dx = some o:=let ⟨o,_,_,e',_⟩:=O'.ns; ⟨o,e'⟩
 refine I.write (x:=a) (e:=dx) (by rw [e]; exact True.intro) (.inr ho) (fun b q hb z=>(sb.2 b hb).trans z) hd ?_
 refine ⟨by rw [yu O.ne]; exact ho,?_,O.ne,O'.obj,_,O'.ns,fun g=>?_,fun g hg=>?_⟩
 ·have:=ya5 f y fs; omega
 ·show ygh ((wb f y fs).lookup g) (if g = f then some u else mA g)
  rw [ya1]
  by_cases q:g = f
  ·rw [if_pos q,if_pos q]; exact ry
  ·rw [if_neg q,if_neg q]; exact r g
 ·by_cases q:g = f
  ·rw [q]; exact (ya8 f y fs).1
  ·refine (ya8 f y fs).2 g (wi g fun z=>hg ?_)
   show (if g = f then some u else mA g) = none
   rw [if_neg q]; exact z
theorem Inv.made (I:Inv X pins σ H s):Inv X pins σ (upd (upd H s.heap.objs.size (.own (s.heap.objs.size + 1))) (s.heap.objs.size + 1) (.ins C s.heap.objs.size []))
  { s with heap:=(s.heap.push W.emptyDict).push (W.instObj C s.heap.objs.size) }:=by
 have e1:(s.heap.push W.emptyDict).get? s.heap.objs.size = some W.emptyDict:=Heap.get?_push_size s.heap rfl
 have e2:((s.heap.push W.emptyDict).push (W.instObj C s.heap.objs.size)).get? (s.heap.objs.size + 1) = some (W.instObj C s.heap.objs.size):=by
  have:=Heap.get?_push_size (s.heap.push W.emptyDict) (o:=W.instObj C s.heap.objs.size) rfl
  rwa [Heap.size_push] at this
 have e3:(s.heap.push W.emptyDict).Ns s.heap.objs.size (fun _=>none):=⟨W.emptyDict,#[],_,e1,rfl,(fun e he=>absurd he (by simp)),fun _=>rfl⟩
 have I1:=I.laid (a:=s.heap.objs.size) (o:=.own (s.heap.objs.size + 1)) (h':=s.heap.push W.emptyDict) (t':=s.toks) (fun b u q=>Heap.get?_push_of_some _ q) (Nat.le_refl _) ⟨_,e1⟩
 refine I1.laid (a:=s.heap.objs.size + 1) (o:=.ins C s.heap.objs.size []) (t':=s.toks) (fun b u q=>Heap.get?_push_of_some _ q) (Nat.le_of_eq (Heap.size_push _ _)) ?_
 have ne:s.heap.objs.size ≠ s.heap.objs.size + 1:=Nat.ne_of_lt (Nat.lt_succ_self _)
 refine ⟨by rw [yu ne,yd],Nat.zero_le _,ne,e2,fun _=>none,(Heap.Ns1.of_empty e3).at fun o q=>Heap.get?_push_of_some _ q,fun _=>True.intro,fun y hy=>absurd rfl hy⟩
theorem yr4 {prog:Program} {w:World} {env:Env} {e:Expr} {f:Str} {pos:Pos} {s:Shared} {Q:Value->Shared->Prop} (hb:attributeBase e f env (eval e env) = eval e env)
  (h:wpAny (model prog w) A (eval e env) (fun o s₁=>wpAny (model prog w) A (getAttr o f true) Q E s₁) E s):wpAny (model prog w) A (eval (.Attribute e f pos) env) Q E s :=
 Attribute_any_ h (by rw [arm_eval_Attribute,hb])
end
def va0 (K:W.Frag) (ta:TE) (f:Str):TE:=fun σ H Q=>ta σ H fun x H1=>∃ a C dx fs v,x = .ref a/\H1 a = some (.ins C dx fs)/\Cls K C/\yt K C f/\fs.lookup f = some v/\Q v H1
def vbn (K:W.Frag) (ta tv:TE) (f:Str):TS:=fun D σ H=>tv σ H fun y H1=>ta σ H1 fun x H2=>∃ a C dx fs,x = .ref a/\H2 a = some (.ins C dx fs)/\Cls K C/\yt K C f/\fs.length < 1000 /\
 D.nx σ (upd H2 a (.ins C dx (wb f y fs)))
section
variable {X:Cx} {o e value:Expr} {f:Str} {pos pos' tpos:Pos} {ta tv:TE}
theorem y6 (he:PE X e ta) (hb:attributeBase e f X.env (eval e X.env) = eval e X.env):PE X (.Attribute e f pos) (va0 X.K ta f):=by
 intro pins s σ H Q I h
 refine yr4 hb (thn (he pins s σ H _ I h) fun u s1 ⟨x,H1,I1,rx,a,C,dx,fs,v,ex,ea,c,n,l,q⟩=>?_)
 subst ex
 obtain rfl:u = Value.ref a:=rx
 exact yj7 I1 ea c n l fun u' s2 I2 ru=>⟨v,H1,I2,ru,q⟩
theorem vo (ha:PE X o ta) (hv:PE X value tv) (hs:swapsWith value (some (.Attribute o f pos')) pos.line X.env = pure false):PS X (.Assign [.Attribute o f pos'] value pos) (vbn X.K ta tv f):=by
 intro pins s σ H D I h
 refine plainObj_wpAny_Assign_Attribute (thn (hv pins s σ H _ I h) fun u s1 ⟨y,H1,I1,ry,q⟩=>thn (ha pins s1 σ H1 _ I1 q) fun ov s2 ⟨x,H2,I2,rx,a,C,dx,fs,ex,ea,c,n,l,q2⟩=>?_) hs
 subst ex
 obtain rfl:ov = Value.ref a:=rx
 exact yjz I2 ea c n l ry fun s3 I3=>⟨σ,_,I3,q2⟩
end
section
variable {X:Cx} {pins:List (Addr × Obj)} {σ:St} {H:Hp} {s:Shared} {A:Around} {E:Value->Shared->Prop} {Q:Value->Shared->Prop} {c:Value} {b:Bool}
inductive xz (K:W.Frag) (H:Hp):V->Value->Prop where
 | non:xz K H .non (.type "NoneType")
 | bl (x:Bool):xz K H (.bl x) (.type "bool")
 | int (i:Int):xz K H (.int i) (.type "int")
 | str (x:Str):xz K H (.str x) (.type "str")
 | flt (x:UInt64):xz K H (.flt x) (.type "float")
 | lst {a:Addr} {xs:List V} (e:H a = some (.lst xs)):xz K H (.ref a) (.type "list")
 | frz {a:Addr} {o:Obj} {xs:List V} (e:H a = some (.frz o (.lst xs))):xz K H (.ref a) (.type "list")
 | tup {a:Addr} {xs:List V} (e:H a = some (.tup xs)):xz K H (.ref a) (.type "tuple")
 | dK {a:Addr} {kvs:List (Key × V)} (e:H a = some (.dK kvs)):xz K H (.ref a) (.type "dict")
 | dT {a:Addr} {kvs:List (List Key × V)} (e:H a = some (.dT kvs)):xz K H (.ref a) (.type "dict")
 | ins {a C dx:Addr} {fs:List (Str × V)} (e:H a = some (.ins C dx fs)) (cl:Cls K C) (ha:W.findIn K (.ref C) "__class__" = some (some (.builtin "object.__class__")))
   (hn:W.specialIn K (.builtin "object.__class__") "__get__" = some (some (.builtin "getset_descriptor.__get__"))) (htk:W.takesIn K (.builtin "object.__class__") = some true)
   (hm:W.mroIn K C (.type "object") = some true):xz K H (.ref a) (.ref C)
theorem yk6 {x:V} {u t:Value} (I:Inv X pins σ H s) (rx:w8 x u) (ty:xz X.K H x t) (e:W.kitOne X.K t c = some b) (h:∀ tk,Q (.bool b) { s with toks:=tk }) :
  wpAny (model X.prog X.w) A (call (.builtin "isinstance") [u,c]) Q E s:=by
 cases ty with
 | non=>cases (show u = Value.none from rx); exact W.kia_one W.kitx_none I.kIn True.intro e (fun z=>nomatch z) h
 | bl y=>cases (show u = Value.bool y from rx); exact W.kia_one W.kitx_bool I.kIn True.intro e (fun z=>nomatch z) h
 | int i=>obtain ⟨t,q⟩:=(show ∃ t,u = Value.int i t from rx); cases q; exact W.kia_one W.kitx_int I.kIn True.intro e (fun z=>nomatch z) h
 | str y=>obtain ⟨t,q⟩:=(show ∃ t,u = Value.str y t from rx); cases q; exact W.kia_one W.kitx_str I.kIn True.intro e (fun z=>nomatch z) h
 | flt y=>obtain ⟨t,q⟩:=(show ∃ t,u = Value.float y t from rx); cases q; exact W.kia_one W.kitx_float I.kIn True.intro e (fun z=>nomatch z) h
 | @lst a xs ea =>
  cases (show u = Value.ref a from rx)
  obtain ⟨_,_,n,_,h1⟩:=(show xk X.prog X.w H s.heap a (.lst xs) from I.hok a _ ea)
  exact W.kia_one W.kitx_list I.kIn ⟨_,h1,rfl⟩ e (fun z=>nomatch z) h
 | @frz a ob xs ea =>
  cases (show u = Value.ref a from rx)
  obtain ⟨_,_,_,n,_,h1⟩:=(show xk X.prog X.w H s.heap a (.frz ob (.lst xs)) from I.hok a _ ea)
  exact W.kia_one W.kitx_list I.kIn ⟨_,h1,rfl⟩ e (fun z=>nomatch z) h
 | @tup a xs ea =>
  cases (show u = Value.ref a from rx)
  obtain ⟨_,_,_,p⟩:=(show xk X.prog X.w H s.heap a (.tup xs) from I.hok a _ ea)
  obtain ⟨o,h1,h2,_⟩:=p
  exact W.kia_one W.kitx_tuple I.kIn ⟨o,h1,h2⟩ e (fun z=>nomatch z) h
 | @dK a kvs ea =>
  cases (show u = Value.ref a from rx)
  obtain ⟨_,_,vs,_,p⟩:=(show xk X.prog X.w H s.heap a (.dK kvs) from I.hok a _ ea)
  obtain ⟨o,es,ep,h1,h2,_⟩:=p
  exact W.kia_one W.kitx_dict I.kIn ⟨o,h1,h2.1⟩ e (fun z=>nomatch z) h
 | @dT a kvs ea =>
  cases (show u = Value.ref a from rx)
  obtain ⟨_,_,xs,_,o,es,ep,h1,h2,_⟩:=(show xk X.prog X.w H s.heap a (.dT kvs) from I.hok a _ ea)
  exact W.kia_one W.kitx_dict I.kIn ⟨o,h1,h2.1⟩ e (fun z=>nomatch z) h
 | @ins a C dx fs ea cl ha hn htk hm =>
  cases (show u = Value.ref a from rx)
  obtain ⟨mA,O,_⟩:=yc2 I.hok ea
  obtain ⟨od,J,_⟩:=O.look
  exact W.kia_one (W.kitx_own (cl.get _) cl.hd ha hn htk hm) I.kIn J e (fun z=>nomatch z) h
end
end L2
namespace L2
open PySem PySem.Spec PyProof.Rows
structure z5 (k:Nat) (A:Around):Prop where
 hd:A.handled = none
 dp:A.depth + 3 * k + 5 < recursionLimit
 un:A.units + 16 * k + 200 < cLine
theorem z5.mono {j k:Nat} {A:Around} (r:z5 k A) (h:j <= k):z5 j A:=⟨r.hd,by have:=r.dp; omega,by have:=r.un; omega⟩
theorem z5.deeper {k:Nat} {A:Around} (r:z5 (k + 1) A) (env:Env):z5 k (A.deeper env) :=
 ⟨r.hd,by have:=r.dp; show A.depth + 1 + 3 * k + 5 < _; omega,by have:=r.un; show A.units + 3 + 16 * k + 200 < _; omega⟩
theorem yjm {A:Around} {C:Addr} {us:List Value} {kw:List (Str × Value)}:(A.under (.builtin "type.__call__" ⟨.ref C :: us,kw⟩)).depth = A.depth + 1:=by
 first | rfl | simp [Around.under,Code.weight,Code.isCreation,Code.isGuard,Code.isCaller,Code.frames,Code.isFrame,guardIds]
theorem yju {A:Around} {C:Addr} {us:List Value} {kw:List (Str × Value)}:(A.under (.builtin "type.__call__" ⟨.ref C :: us,kw⟩)).units = A.units + 1:=by
 first | rfl | simp [Around.under,Code.cUnits,Code.frames,Code.isFrame]
theorem z5.make {k:Nat} {A:Around} (r:z5 (k + 1) A) (C:Addr) (us:List Value) (kw:List (Str × Value)):z5 k (A.under (.builtin "type.__call__" ⟨.ref C :: us,kw⟩)) :=
 ⟨r.hd,by have:=r.dp; rw [yjm]; omega,by have:=r.un; rw [yju]; omega⟩
theorem z5.depth {k:Nat} {A:Around} (r:z5 k A):A.depth < recursionLimit:=by have:=r.dp; omega
theorem z5.units {k:Nat} {A:Around} (r:z5 k A):A.units + 64 < cLine:=by have:=r.un; omega
def yuc:TA:=fun _ H Q=>Q [] H
def yzd (ta:TE) (tr:TA):TA:=fun σ H Q=>ta σ H fun x H1=>tr σ H1 fun xs H2=>Q (x :: xs) H2
section
variable {X:Cx} {e:Expr} {es:List Expr} {te:TE} {t:TA} {pos:Pos}
theorem yg:PA X [] yuc:=fun _ _ _ _ H Q I h=>Calls.spliced_nil ⟨[],H,I,.nil,h⟩
theorem yb (ha:PE X e te) (hr:PA X es t) (hs:starEach (e :: es) X.env = (false,eval e X.env) :: starEach es X.env:=by rfl):PA X (e :: es) (yzd te t):=by
 intro pos pins s σ H Q I h
 rw [hs]
 show wpAny _ _ (spliced ((false,eval e X.env) :: backTo pos (starEach es X.env))) _ _ s
 refine Calls.spliced_cons (thn (ha pins s σ H _ I h) fun u s1 ⟨x,H1,I1,r1,q1⟩=>?_)
 exact thn (hr pos pins s1 σ H1 _ I1 q1) fun us s2 ⟨xs,H2,I2,r2,q2⟩=>⟨x :: xs,H2,I2,.cons r1 r2,q2⟩
def vbe (t:TA):TE:=fun σ H Q=>t σ H fun xs H1=>xs.length <= sizeLine/\∀ p,H1 p = none->Q (.ref p) (upd H1 p (.tup xs))
def vbj (t:TA):TE:=fun σ H Q=>t σ H fun xs H1=>xs.length <= sizeLine/\∀ p,H1 p = none->Q (.ref p) (upd H1 p (.lst xs))
theorem yi0 {x1} (h:PA X es t):PE X (.Tuple es x1 pos) (vbe t):=by
 intro pins s σ H Q I hq
 refine wpAny_Tuple_spliced (thn (h pos pins s σ H _ I hq) fun us s1 ⟨xs,H1,I1,r,z,q⟩=>⟨by rw [<- r.length]; exact z,?_⟩)
 have hf:H1 s1.heap.objs.size = none:=I1.hok.fresh (Nat.le_refl _)
 refine ⟨.ref s1.heap.objs.size,upd H1 s1.heap.objs.size (.tup xs),I1.laid (t':=s1.toks) (fun b u e=>Heap.get?_push_of_some _ e) (Nat.le_refl _) ?_,rfl,q _ hf⟩
 exact ⟨z,us,r,⟨_,Heap.get?_push_size _ rfl,rfl,_,rfl⟩⟩
theorem wx (h:PA X es t):PE X (.List es pos) (vbj t):=by
 intro pins s σ H Q I hq
 refine wpAny_List_spliced (thn (h pos pins s σ H _ I hq) fun us s1 ⟨xs,H1,I1,r,z,q⟩=>⟨by rw [<- r.length]; exact z,?_⟩)
 have hf:H1 s1.heap.objs.size = none:=I1.hok.fresh (Nat.le_refl _)
 refine ⟨.ref s1.heap.objs.size,upd H1 s1.heap.objs.size (.lst xs),I1.laid (t':=s1.toks) (fun b u e=>Heap.get?_push_of_some _ e) (Nat.le_refl _) ?_,rfl,q _ hf⟩
 exact ⟨z,us,0,r,Heap.get?_push_size _ rfl⟩
end
abbrev Sp:=List V->Hp->VK->XK->Prop
abbrev CXT:=List Env->Hp->Shared->XK->Value->Shared->Prop
structure yud (P:Program) (w:World) (K:W.Frag) (mg:Str->Option Value) (base:Heap) (A:Around) (outer:List Env) (s:Shared) (H:Hp):Prop where
 frames:A.frames = some outer
 mod:Mod K mg base
 bs:∀ b o,base.get? b = some o->s.heap.get? b = some o/\H b = none
 bsz:base.objs.size <= s.heap.objs.size
 funs:s.heap.FunFrames base outer
 frf:∀ b ∈ frs outer,H b = none
 hok:HOk P w H s.heap
 bare:AllBare s.gens
def CE (outer:List Env) (P:Program) (w:World) (H:Hp) (s:Shared) (Q:VK) (u:Value) (s':Shared):Prop :=
 ∃ v H',s'.os = s.os/\AllBare s'.gens/\Un (frs outer) [] H H' s.heap s'.heap/\HOk P w H' s'.heap/\w8 v u/\Q v H'
def CR (CX:CXT) (outer:List Env) (P:Program) (w:World) (H:Hp) (s:Shared) (Q:VK) (E:XK) (r:Result) (s':Shared):Prop :=
 match r with
 | .ok (.ret u)=>CE outer P w H s Q u s'
 | .ok _=>False
 | .error e=>CX outer H s E e s'
structure we (P:Program) (w:World) (K:W.Frag) (mg:Str->Option Value) (base:Heap) (CX:CXT) (k:Nat) (f:Addr) (fd:FuncData) (ps:List Str) (sp:Sp):Prop where
 len:∀ vs H Q E,sp vs H Q E->vs.length = ps.length
 run:∀ (A:Around) (outer:List Env) (s:Shared) (H:Hp) (args:Args) (us:List Value) (vs:List V) (Q:VK) (E:XK),z5 k A->yud P w K mg base A outer s H->BindsTo s fd args (ps.zip us)->wg vs us->sp vs H Q E ->
  codeAny (model P w) A (.call (.ref f) args) (CR CX outer P w H s Q E) s
theorem yud.make {P:Program} {w:World} {K:W.Frag} {mg:Str->Option Value} {base:Heap} {A:Around} {outer:List Env} {s:Shared} {H:Hp} (e:yud P w K mg base A outer s H) (C:Addr) (us:List Value) (kw:List (Str × Value)) :
  yud P w K mg base (A.under (.builtin "type.__call__" ⟨.ref C :: us,kw⟩)) outer s H:=⟨by first | exact e.frames | (simpa [Around.under,Code.envs,Code.isFrame,pushEnvs] using e.frames),e.mod,e.bs,e.bsz,e.funs,e.frf,e.hok,e.bare⟩
section
variable {X:Cx} {pins:List (Addr × Obj)} {σ:St} {H:Hp} {s s':Shared}
theorem Inv.env0 (I:Inv X pins σ H s):yud X.prog X.w X.K X.mg X.base X.A X.stack s H :=
 ⟨I.ok.frames,I.ok.mod,I.bs,Nat.le_trans I.ok.bsz I.sz,I.stack,I.stkFree,I.hok,I.bare⟩
theorem Inv.after {Q:VK} {u:Value} (I:Inv X pins σ H s) (h:CE X.stack X.prog X.w H s Q u s'):EP X pins σ Q u s':=by
 obtain ⟨v,H',os,bare,un,hok,r,q⟩:=h
 obtain ⟨hh,g,d,t,os'⟩:=s'
 obtain rfl:os' = s.os:=os
 exact ⟨v,H',I.call (h':=hh) (g':=g) (d':=d) (t':=t) (ch:=[]) un hok bare (fun b z=>absurd z (by simp)),r,q⟩
end
def yym (sp:Sp) (dvs:List V) (E:XK) (t:TA):TE:=fun σ H Q=>t σ H fun vs H1=>sp (vs ++ dvs) H1 Q E
def yht (C:Addr) (m:Str) (sp:Sp) (dvs:List V) (E:XK) (ta:TE) (t:TA):TE:=fun σ H Q=>ta σ H fun x H1=>∃ a dx fs,x = .ref a/\H1 a = some (.ins C dx fs)/\fs.lookup m = none /\
 t σ H1 fun vs H2=>sp (x :: (vs ++ dvs)) H2 Q E
def yt9 (C:Addr) (sp:Sp) (dvs:List V) (E:XK) (t:TA):TE:=fun σ H Q=>t σ H fun vs H1=>∀ x dx,H1 x = none->H1 dx = none->dx ≠ x ->
 sp (.ref x :: (vs ++ dvs)) (upd (upd H1 dx (.own x)) x (.ins C dx [])) (fun v H2=>v = .non/\Q (.ref x) H2) E
def y9 (K:W.Frag) (fd:FuncData) (ps:List Str) (ds:List Value):Prop :=
 ∀ (s:Shared) (us:List Value),K.In s.heap->(us ++ ds).length = ps.length->BindsTo s fd ⟨us,[]⟩ (ps.zip (us ++ ds))
theorem y9.all {K:W.Frag} {fd:FuncData} {ps:List Str} (h:∀ us:List Value,us.length = ps.length->bindArgs fd ⟨us,[]⟩ = pure (ps.zip us)):y9 K fd ps []:=fun s us _ hl=>by
 rw [List.append_nil] at hl ⊢
 exact .of_eq (h us hl)
def yak (CX:CXT) (X:Cx) (E:XK):Prop:=∀ (pins:List (Addr × Obj)) (σ:St) (H:Hp) (s:Shared) (e:Value) (s':Shared),Inv X pins σ H s->CX X.stack H s E e s'->X.xe e s'
section
variable {X:Cx} {CX:CXT} {k:Nat} {f C:Addr} {fd:FuncData} {ps:List Str} {sp:Sp} {dvs:List V} {ds:List Value} {E:XK} {x m:Str} {p pos apos:Pos} {e o:Expr} {es:List Expr} {ta:TE} {t:TA}
theorem yng {pins:List (Addr × Obj)} {σ:St} {H:Hp} {s:Shared} {Q:VK} {us:List Value} {vs:List V} (F:we X.prog X.w X.K X.mg X.base CX k f fd ps sp) (hr:z5 k X.A) (hb:y9 X.K fd ps ds) (hd:wg dvs ds) (hx:yak CX X E)
  (I:Inv X pins σ H s) (r:wg vs us) (h:sp (vs ++ dvs) H Q E):wpAny (model X.prog X.w) X.A (call (.ref f) us) (EP X pins σ Q) X.xe s:=by
 have r2:wg (vs ++ dvs) (us ++ ds):=r.append hd
 have hl:(us ++ ds).length = ps.length:=by rw [<- r2.length]; exact F.len _ _ _ _ h
 refine wpAny_call (codeAny_mono (F.run X.A X.stack s H ⟨us,[]⟩ (us ++ ds) (vs ++ dvs) Q E hr I.env0 (hb s us I.kIn hl) r2 h) fun r s' hq=>?_)
 cases r with
 | error e=>exact hx pins σ H s e s' I hq
 | ok fl =>
  cases fl with
  | ret u=>exact I.after hq
  | next=>exact False.elim hq
  | brk=>exact False.elim hq
  | cont=>exact False.elim hq
theorem yz (F:we X.prog X.w X.K X.mg X.base CX k f fd ps sp) (hr:z5 k X.A) (hg:Gl X x) (hm:X.mg x = some (.ref f)) (hk:W.keepIn X.K (.ref f) = true) (hb:y9 X.K fd ps ds) (hd:wg dvs ds) (hx:yak CX X E)
  (ha:PA X (e :: es) t) (hdb:(x == ("__debug__":Str)) = false:=by decide) (he:starEach (e :: es) X.env = (false,eval e X.env) :: starEach es X.env:=by rfl) (hpl:(backTo pos (starEach es X.env)).any (·.1) = false:=by rfl) :
  PE X (.Call (.Name x p) (e :: es) [] pos) (yym sp dvs E t):=by
 intro pins s σ H Q I h
 refine wpAny_Call_Name_kw (zj I hg hm ?_ hdb)
 refine W.callWith_K (h₀:=X.base) I.ok.mod.kin hk (thn (ha pos pins s σ H _ I h) fun us s1 ⟨vs,H1,I1,r,q⟩=>⟨I1.kIn,?_⟩) he hpl
 exact yng F hr hb hd hx I1 r q
theorem x9 {pl:Sem Bool} (he:PE X o ta) (c:Cls X.K C) (hm:yag X.K C m f) (F:we X.prog X.w X.K X.mg X.base CX k f fd ps sp) (hr:z5 k X.A) (hb:y9 X.K fd ps ds) (hd:wg dvs ds) (hx:yak CX X E) (ha:PA X (e :: es) t)
  (hst:starEach (e :: es) X.env = (false,eval e X.env) :: starEach es X.env:=by rfl) (hpl:(backTo pos (starEach es X.env)).any (·.1) = false:=by rfl)
  (ht:eval (.Call (.Attribute o m apos) (e :: es) [] pos) X.env = (do
   let ov <- eval o X.env
   standAt apos.atName
   let (f,first) <- holding [ov] (getMethod ov m pl)
   callWith pos f first (backTo pos (starEach (e :: es) X.env)) (backToKw pos (keywordEach [] X.env))):=by rfl) :
  PE X (.Call (.Attribute o m apos) (e :: es) [] pos) (yht C m sp dvs E ta t):=by
 intro pins s σ H Q I h
 refine W.methodCall_KW (pl:=pl) (thn (he pins s σ H _ I h) fun u s1 ⟨x,H1,I1,rx,a,dx,fs,ex,ea,l,q⟩=>?_) ht
 subst ex
 obtain rfl:u = Value.ref a:=rx
 refine j7 I1 ea c hm l ?_
 refine W.callWith_K (first:=[.ref a]) (h₀:=X.base) I.ok.mod.kin hm.kp (thn (ha pos pins s1 σ H1 _ I1 q) fun us s2 ⟨vs,H2,I2,r,q2⟩=>⟨I2.kIn,?_⟩) hst hpl
 exact yng (us:=.ref a :: us) (vs:=.ref a :: vs) F hr hb hd hx I2 (.cons rfl r) q2
theorem wu {pl:Sem Bool} (he:PE X o ta) (c:Cls X.K C) (hm:yag X.K C m f) (F:we X.prog X.w X.K X.mg X.base CX k f fd ps sp) (hr:z5 k X.A) (hb:y9 X.K fd ps ds) (hd:wg dvs ds) (hx:yak CX X E)
  (ht:eval (.Call (.Attribute o m apos) [] [] pos) X.env = (do
   let ov <- eval o X.env
   standAt apos.atName
   let (f,first) <- holding [ov] (getMethod ov m pl)
   callWith pos f first (backTo pos (starEach [] X.env)) (backToKw pos (keywordEach [] X.env))):=by rfl) :
  PE X (.Call (.Attribute o m apos) [] [] pos) (yht C m sp dvs E ta yuc):=by
 intro pins s σ H Q I h
 refine W.methodCall_KW (pl:=pl) (thn (he pins s σ H _ I h) fun u s1 ⟨x,H1,I1,rx,a,dx,fs,ex,ea,l,q⟩=>?_) ht
 subst ex
 obtain rfl:u = Value.ref a:=rx
 refine j7 I1 ea c hm l ?_
 exact W.callWith_K0 (first:=[.ref a]) I1.kIn hm.kp (yng (us:=[.ref a]) (vs:=[.ref a]) F hr hb hd hx I1 (.cons rfl .nil) q)
structure Mk (K:W.Frag) (C f:Addr):Prop where
 makes:W.makesIn K C = true
 init:W.findIn K (.ref C) "__init__" = some (some (.ref f))
 fn:W.isFn K (.ref f) = true
 kp:W.keepIn K (.ref C) = true
theorem yih {pins:List (Addr × Obj)} {σ:St} {H:Hp} {s:Shared} {Q:VK} {us:List Value} {vs:List V} (M:Mk X.K C f) (F:we X.prog X.w X.K X.mg X.base CX k f fd ps sp) (hr:z5 (k + 1) X.A) (hb:y9 X.K fd ps ds) (hd:wg dvs ds)
  (hx:yak CX X E) (I:Inv X pins σ H s) (r:wg vs us)
  (h:∀ x dx,H x = none->H dx = none->dx ≠ x->sp (.ref x :: (vs ++ dvs)) (upd (upd H dx (.own x)) x (.ins C dx [])) (fun v H2=>v = .non/\Q (.ref x) H2) E) :
  wpAny (model X.prog X.w) X.A (call (.ref C) us) (EP X pins σ Q) X.xe s:=by
 have hq:=h (s.heap.objs.size + 1) s.heap.objs.size (I.hok.fresh (Nat.le_succ _)) (I.hok.fresh (Nat.le_refl _)) (Nat.ne_of_lt (Nat.lt_succ_self _))
 have I2:=Inv.made (C:=C) I
 have r2:wg (V.ref (s.heap.objs.size + 1) :: (vs ++ dvs)) (Value.ref (s.heap.objs.size + 1) :: (us ++ ds)):=.cons rfl (r.append hd)
 have hl:(Value.ref (s.heap.objs.size + 1) :: us ++ ds).length = ps.length:=by
  have e:=r2.length
  rw [F.len _ _ _ _ hq] at e
  exact e.symm
 refine wpAny_call (yia (f:=f) I.kIn M.makes M.init (beq_iff_eq.mp M.fn) (codeAny_mono (F.run _ X.stack _ _ ⟨Value.ref (s.heap.objs.size + 1) :: us,[]⟩ (Value.ref (s.heap.objs.size + 1) :: (us ++ ds)) _ _ E (hr.make C us [])
  (I2.env0.make C us []) (hb _ (Value.ref (s.heap.objs.size + 1) :: us) I2.kIn hl) r2 hq) fun r s' hq'=>?_))
 cases r with
 | error e=>exact hx pins σ _ _ e s' I2 hq'
 | ok fl =>
  cases fl with
  | ret u =>
   obtain ⟨v,H',I3,rv,ev,q3⟩:=I2.after hq'
   subst ev
   exact ⟨rv,⟨V.ref (s.heap.objs.size + 1),H',I3,rfl,q3⟩⟩
  | next=>exact False.elim hq'
  | brk=>exact False.elim hq'
  | cont=>exact False.elim hq'
theorem ymj (M:Mk X.K C f) (F:we X.prog X.w X.K X.mg X.base CX k f fd ps sp) (hr:z5 (k + 1) X.A) (hg:Gl X x) (hm:X.mg x = some (.ref C)) (hb:y9 X.K fd ps ds) (hd:wg dvs ds) (hx:yak CX X E)
  (ha:PA X (e :: es) t) (hdb:(x == ("__debug__":Str)) = false:=by decide) (he:starEach (e :: es) X.env = (false,eval e X.env) :: starEach es X.env:=by rfl) (hpl:(backTo pos (starEach es X.env)).any (·.1) = false:=by rfl) :
  PE X (.Call (.Name x p) (e :: es) [] pos) (yt9 C sp dvs E t):=by
 intro pins s σ H Q I h
 refine wpAny_Call_Name_kw (zj I hg hm ?_ hdb)
 refine W.callWith_K (h₀:=X.base) I.ok.mod.kin M.kp (thn (ha pos pins s σ H _ I h) fun us s1 ⟨vs,H1,I1,r,q⟩=>⟨I1.kIn,?_⟩) he hpl
 exact yih M F hr hb hd hx I1 r q
theorem jv (M:Mk X.K C f) (F:we X.prog X.w X.K X.mg X.base CX k f fd ps sp) (hr:z5 (k + 1) X.A) (hg:Gl X x) (hm:X.mg x = some (.ref C)) (hb:y9 X.K fd ps ds) (hd:wg dvs ds) (hx:yak CX X E)
  (hdb:(x == ("__debug__":Str)) = false:=by decide):PE X (.Call (.Name x p) [] [] pos) (yt9 C sp dvs E yuc):=by
 intro pins s σ H Q I h
 refine wpAny_Call_Name_kw (zj I hg hm ?_ hdb)
 exact W.callWith_K0 I.kIn M.kp (yih (us:=[]) M F hr hb hd hx I .nil h)
end
section
variable {X:Cx} {CX:CXT} {k:Nat} {f C:Addr} {fd:FuncData} {ps ks:List Str} {sp:Sp} {E:XK} {x m:Str} {p pos apos kpos:Pos} {e o:Expr} {es:List Expr} {kws:List Keyword} {te ta:TE} {t tk:TA} {nm:Option Str}
structure va5 (K:W.Frag) (fd:FuncData) (ps ks:List Str) (g:List Value->List Value->List Value) (gV:List V->List V->List V):Prop where
 to:∀ (s:Shared) (us ws:List Value),K.In s.heap->(g us ws).length = ps.length->BindsTo s fd ⟨us,ks.zip ws⟩ (ps.zip (g us ws))
 rel:∀ {vs:List V} {us:List Value} {zs:List V} {ws:List Value},wg vs us->wg zs ws->wg (gV vs zs) (g us ws)
variable {g:List Value->List Value->List Value} {gV:List V->List V->List V}
end
structure yn (N P:List Str) (sc:Scope):Prop where
 kind:sc.kind = .function
 co:sc.isCoroutine = false
 gen:sc.isGenerator = false
 nd:N.Nodup
 pre:N.take P.length = P
 par:∀ x ∈ P,sc.names.lookup x = some .local\/sc.names.lookup x = some .cell
 nofree:∀ y ∈ sc.names,y.2 ≠ .free
theorem yfn {kindOf:Str->Option NameKind} {x:Str}:∀ {binds:List (Str × Value)} {m:Str->Option Value},(∀ v,(x,v) ∉ binds)->bindL kindOf binds m x = m x
 | [],_,_=>rfl
 | (n,v) :: r,m,h=>by
  unfold bindL
  rw [yfn fun w hw=>h w (List.mem_cons_of_mem _ hw)]
  split
  ·have:x ≠ n:=by rintro rfl; exact h v List.mem_cons_self
   simp [this]
  ·rfl
theorem yfr {kindOf:Str->Option NameKind} {x:Str}:∀ {binds:List (Str × Value)} {m:Str->Option Value},(∀ v,(x,v) ∉ binds)->bindC kindOf binds m x = m x
 | [],_,_=>rfl
 | (n,v) :: r,m,h=>by
  unfold bindC
  rw [yfr fun w hw=>h w (List.mem_cons_of_mem _ hw)]
  split
  ·rfl
  ·have:x ≠ n:=by rintro rfl; exact h v List.mem_cons_self
   simp [this]
theorem yfx {kindOf:Str->Option NameKind} {x:Str} {v:Value}:∀ {P:List Str} {vs:List Value} {i:Nat} {m:Str->Option Value},P.Nodup->P[i]? = some x->vs[i]? = some v->kindOf x = some .local ->
  bindL kindOf (P.zip vs) m x = some v
 | [],_,_,_,_,h,_,_=>by simp at h
 | _ :: _,[],_,_,_,_,h,_=>by simp at h
 | p :: P,w :: vs,0,m,nd,h1,h2,hk=>by
  simp at h1 h2; subst h1; subst h2
  show bindL kindOf ((p,w) :: P.zip vs) m p = _
  unfold bindL
  rw [yfn fun v hv=>(List.nodup_cons.mp nd).1 (List.of_mem_zip hv).1,if_pos hk]
  simp
 | p :: P,w :: vs,i + 1,m,nd,h1,h2,hk=>by
  show bindL kindOf ((p,w) :: P.zip vs) m x = _
  unfold bindL
  exact yfx (i:=i) (List.nodup_cons.mp nd).2 (by simpa using h1) (by simpa using h2) hk
theorem yfo {kindOf:Str->Option NameKind} {x:Str} {v:Value}:∀ {P:List Str} {vs:List Value} {i:Nat} {m:Str->Option Value},P.Nodup->P[i]? = some x->vs[i]? = some v->kindOf x ≠ some .local ->
  bindC kindOf (P.zip vs) m x = some v
 | [],_,_,_,_,h,_,_=>by simp at h
 | _ :: _,[],_,_,_,_,h,_=>by simp at h
 | p :: P,w :: vs,0,m,nd,h1,h2,hk=>by
  simp at h1 h2; subst h1; subst h2
  show bindC kindOf ((p,w) :: P.zip vs) m p = _
  unfold bindC
  rw [yfr fun v hv=>(List.nodup_cons.mp nd).1 (List.of_mem_zip hv).1,if_neg hk]
  simp
 | p :: P,w :: vs,i + 1,m,nd,h1,h2,hk=>by
  show bindC kindOf ((p,w) :: P.zip vs) m x = _
  unfold bindC
  exact yfo (i:=i) (List.nodup_cons.mp nd).2 (by simpa using h1) (by simpa using h2) hk
def yad (N:List Str) (vs:List V):St:=vs.map some ++ List.replicate (N.length - vs.length) none
def wc (CX:CXT) (P:Program) (w:World) (K:W.Frag) (mg:Str->Option Value) (base:Heap) (N:List Str) (qual:Str) (scope:Scope) (f:Addr) (cd:Value) (A:Around) (outer:List Env) (s:Shared) (H:Hp) (E:XK):Cx where
 prog:=P
 w:=w
 K:=K
 mg:=mg
 base:=base
 A:=A.deeper (envOfC qual scope s.heap.objs.size f cd)
 N:=N
 s₀:=s
 H₀:=H
 env:=envOfC qual scope s.heap.objs.size f cd
 outer:=outer
 stack:=envOfC qual scope s.heap.objs.size f cd :: outer
 ex:=[]
 calm:=true
 fn:=fun _=>true
 pn:=[]
 xe:=fun e s'=>wpAny (model P w) (A.deeper (envOfC qual scope s.heap.objs.size f cd)) (leaving (envOfC qual scope s.heap.objs.size f cd) e) (fun _ s''=>CX outer H s E e s'') (fun e' s''=>CX outer H s E e' s'') s'
theorem yhx {sc:Scope} {n:Nat} {x:Str} (h:sc.names.lookup x = some .cell):∃ c,(cellsFrom n sc.names []).lookup x = some c:=by
 have q:=W.cellsFrom_some sc.names n [] (.inl h)
 exact Option.isSome_iff_exists.mp q
theorem ylk {CX:CXT} {P:Program} {w:World} {K:W.Frag} {mg:Str->Option Value} {base:Heap} {N ps:List Str} {qual:Str} {scope:Scope} {f:Addr} {cd:Value} {A:Around} {outer:List Env} {s s1:Shared} {H:Hp} {E:XK} {us:List Value} {vs:List V}
  (S:yn N ps scope) (hd:A.handled = none) (e0:yud P w K mg base A outer s H) (hl:vs.length = ps.length) (r:wg vs us)
  (x:InCallC s s.heap.objs.size (bindL (envOfC qual scope s.heap.objs.size f cd).kindOf (ps.zip us) fun _=>none) (cellsFrom (s.heap.objs.size + 1) scope.names []) (bindC (envOfC qual scope s.heap.objs.size f cd).kindOf (ps.zip us) fun _=>none) s1) :
  Inv (wc CX P w K mg base N qual scope f cd A outer s H E) [] (yad N vs) H s1:=by
 have hpl:ps.length <= N.length:=by have:=congrArg List.length S.pre; rw [List.length_take] at this; omega
 obtain ⟨h1,tk,rfl,hk⟩:=x.done
 have noA:∀ b:Addr,b ∉ (wc CX P w K mg base N qual scope f cd A outer s H E).ex:=fun b z=>absurd (show b ∈ ([]:List Addr) from z) (by simp)
 refine ⟨⟨e0.mod,S.kind,rfl,rfl,Nat.le_refl _,fun y z c h1 h2=>?_,fun y hy=>?_,fun y c _ h=>?_,fun _=>hd,Around.frames_deeper e0.frames,.inr ⟨rfl,rfl⟩,fun b z=>absurd z (noA b),e0.bs,e0.bsz,fun b _ _=>noA b,fun b z=>absurd z (noA b),e0.funs,e0.frf⟩,
  rfl,e0.bare,Un.kept hk,⟨_,x.toInCall.ns,fun i y v h1 h2 h3=>?_⟩,fun y c h=>⟨_,x.cell y c h⟩,e0.hok.fresh (Nat.le_refl _),fun y c h=>?_,fun p hp=>absurd (show p ∈ ([]:List (Addr × Obj)) from hp) (by simp),e0.hok.kept hk,?_⟩
 ·exact name_of_addr x.apart (PySem.mem_of_lookup h1) (PySem.mem_of_lookup h2)
 ·have hy:scope.names.lookup y = some .cell\/scope.names.lookup y = some .free:=hy
  rcases hy with hy | hy
  ·exact yhx hy
  ·exact absurd rfl (S.nofree _ (PySem.mem_of_lookup hy))
 ·exact Nat.le_of_lt (x.above y c (PySem.mem_of_lookup h))
 ·have hi:i < vs.length:=by
   unfold yad at h2
   by_cases hi:i < vs.length
   ·exact hi
   ·rw [List.getElem?_append_right (by simpa using hi)] at h2
    rw [List.getElem?_replicate] at h2
    split at h2 <;> cases h2
  have ha:vs[i]? = some v:=by
   unfold yad at h2
   rw [List.getElem?_append_left (by simpa using hi),List.getElem?_map] at h2
   cases e:vs[i]? with
   | none=>rw [e] at h2; cases h2
   | some a=>rw [e] at h2; cases h2; rfl
  obtain ⟨u,hu,rv⟩:=r.get ha
  have hp:ps[i]? = some y:=by
   rw [<- S.pre,List.getElem?_take_of_lt (by omega)]; exact h1
  have ndP:ps.Nodup:=by rw [<- S.pre]; exact S.nd.sublist (List.take_sublist _ _)
  refine ⟨u,rv,?_⟩
  rcases S.par y (List.mem_of_getElem? hp) with k | k
  ·exact .inl ⟨k,yfx ndP hp hu k⟩
  ·obtain ⟨c,e⟩:=yhx (n:=s.heap.objs.size + 1) k
   refine .inr ⟨.inl k,c,e,?_⟩
   have q:=x.cell y c e
   rw [yfo ndP hp hu (by show scope.names.lookup y ≠ _; rw [k]; decide)] at q
   exact q
 ·exact e0.hok.fresh (Nat.le_of_lt (x.above y c (PySem.mem_of_lookup h)))
 ·unfold yad
  show _ = N.length
  rw [List.length_append,List.length_map,List.length_replicate]
  omega
theorem ypf {CX:CXT} {P:Program} {w:World} {K:W.Frag} {mg:Str->Option Value} {base:Heap} {k:Nat} {f:Addr} {name qual:Str} {params:Arguments} {body:List Stmt} {scope:Scope} {dV kV doc pm cdv ct oc:Value} {an od:Option Addr}
  {osl:Array (Option Value)} {N ps:List Str} {sp:Sp} (lk:K.lookup f = some ⟨oc,od,.func (W.fnOf name qual params body scope dV kV doc pm an cdv ct),osl⟩) (hcd:W.codeIn K cdv qual = true) (S:yn N ps scope)
  (len:∀ vs H Q E,sp vs H Q E->vs.length = ps.length)
  (hbody:∀ (A:Around) (outer:List Env) (s:Shared) (H:Hp) (vs:List V) (Q:VK) (E:XK),z5 k (A.deeper (envOfC qual scope s.heap.objs.size f cdv))->sp vs H Q E ->
   ∃ t,PSs (wc CX P w K mg base N qual scope f cdv A outer s H E) body t/\t { nx:=fun _ H'=>Q .non H',rt:=Q } (yad N vs) H) :
  we P w K mg base CX (k + 1) f (W.fnOf name qual params body scope dV kV doc pm an cdv ct) ps sp:=by
 refine ⟨len,fun A outer s H args us vs Q E hr e0 hb r hsp=>?_⟩
 have hl:=len _ _ _ _ hsp
 have KX:K.In s.heap:=e0.mod.kin.keeps fun b o e=>(e0.bs b o e).1
 have lim:s.heap.NoLimit:=e0.mod.nolimit.keeps fun b o e=>(e0.bs b o e).1
 have hkind:∀ y ∈ ps.zip us,scope.names.lookup y.1 = some .local\/(scope.names.lookup y.1 = some .cell/\((cellsFrom (s.heap.objs.size + 1) scope.names []).lookup y.1).isSome = true):=fun ⟨n,v⟩ hy=>by
  rcases S.par n (List.of_mem_zip hy).1 with q | q
  ·exact .inl q
  ·exact .inr ⟨q,W.cellsFrom_some _ _ _ (.inl q)⟩
 refine codeAny_call_function hr.depth (KX _ _ lk) rfl S.co S.gen rfl (W.codeRec_of KX hcd) (hb _ _ _ _ ?_)
 refine wpAny_newFunctionEnv_cells S.kind hkind fun env he s1 x=>?_
 subst he
 refine ⟨lim.keeps x.toInCall.keep,codeAny_func ?_⟩
 obtain ⟨t,ht,hq⟩:=hbody A outer s H vs Q E (hr.deeper _) hsp
 have I:Inv (wc CX P w K mg base N qual scope f cdv A outer s H E) [] (yad N vs) H s1:=ylk S hr.hd e0 hl r x
 refine wpAny_mono (ht [] s1 (yad N vs) H _ I hq) (fun fl s' hs=>?_) fun e s' hs=>hs
 have fin:∀ {σ':St} {H':Hp} {v:V} {u:Value},Inv (wc CX P w K mg base N qual scope f cdv A outer s H E) [] σ' H' s'->w8 v u->Q v H'->CE outer P w H s Q u s' :=
  fun {σ' H' v u} J rv q=>⟨v,H',J.os,J.bare,J.base,J.hok,rv,q⟩
 cases fl with
 | ret u =>
  obtain ⟨v,σ',H',J,rv,q⟩:=hs
  exact fin J rv q
 | next =>
  obtain ⟨σ',H',J,q⟩:=hs
  exact fin (v:=V.non) (u:=Value.none) J rfl q
 | brk =>
  obtain ⟨_,_,_,q⟩:=hs
  exact False.elim q
 | cont =>
  obtain ⟨_,_,_,q⟩:=hs
  exact False.elim q
end L2
namespace L2
open PySem PySem.Spec PyProof.Rows
section
variable {X:Cx} {x:Str} {p pos:Pos} {e:Expr} {es:List Expr} {t:TA} {id T:String} {r:List V->Hp->VK->Prop}
def tCB (r:List V->Hp->VK->Prop) (t:TA):TE:=fun σ H Q=>t σ H fun vs H1=>r vs H1 Q
theorem yr (hc:ybe X (.builtin id) r) (hg:Gl X x) (hm:X.mg x = none) (hv:bootBuiltins x = some (.builtin id)) (ha:PA X (e :: es) t) (hn:x ≠ "__name__":=by decide) (hdb:(x == ("__debug__":Str)) = false:=by decide)
  (he:starEach (e :: es) X.env = (false,eval e X.env) :: starEach es X.env:=by rfl) (hpl:(backTo pos (starEach es X.env)).any (·.1) = false:=by rfl):PE X (.Call (.Name x p) (e :: es) [] pos) (tCB r t):=by
 intro pins s σ H Q I h
 refine wpAny_Call_Name_kw (ya9 I hg hm hv ?_ hn hdb)
 exact PyProof.Rows.callWith_builtin1 (thn (ha pos pins s σ H _ I h) fun us s1 ⟨vs,H1,I1,r1,q1⟩=>hc pins s1 σ H1 vs us Q I1 r1 q1) he hpl
theorem x8 (hc:ybe X (.type T) r) (hg:Gl X x) (hm:X.mg x = none) (hv:bootBuiltins x = some (.type T)) (ha:PA X (e :: es) t) (hn:x ≠ "__name__":=by decide) (hdb:(x == ("__debug__":Str)) = false:=by decide)
  (he:starEach (e :: es) X.env = (false,eval e X.env) :: starEach es X.env:=by rfl) (hpl:(backTo pos (starEach es X.env)).any (·.1) = false:=by rfl):PE X (.Call (.Name x p) (e :: es) [] pos) (tCB r t):=by
 intro pins s σ H Q I h
 refine wpAny_Call_Name_kw (ya9 I hg hm hv ?_ hn hdb)
 exact PyProof.Rows.callWith_type1 (thn (ha pos pins s σ H _ I h) fun us s1 ⟨vs,H1,I1,r1,q1⟩=>hc pins s1 σ H1 vs us Q I1 r1 q1) he hpl
end
end L2
namespace HT
open PySem PyProof.Rows
section
open PySem.SeqAt
open PySem.AutoSeq1 (wpAny_loadPart')
open PySem.MeetsSeq PySem.MeetsSeq2 PySem.MeetsSeq3
end
section
variable {prog:Program} {w:World} {A:Around} {E:Value->Shared->Prop} {s:Shared}
def sIx (n d:Nat):Option Int->Nat
 | none=>d
 | some v=>if v < 0 then (v + (n:Int)).toNat else min v.toNat n
theorem sIx_none (n d:Nat):sIx n d none = d:=rfl
theorem sIx_nat (n d k:Nat):sIx n d (some (k:Int)) = min k n:=by
 show (if (k:Int) < 0 then ((k:Int) + (n:Int)).toNat else min (k:Int).toNat n) = min k n
 rw [if_neg (by omega),Int.toNat_natCast]
theorem ywx (n d:Nat) (hd:d <= n) (o:Option Int):sIx n d o <= n:=by
 cases o with
 | none=>exact hd
 | some v =>
  show (if v < 0 then (v + (n:Int)).toNat else min v.toNat n) <= n
  by_cases hv:v < 0
  ·rw [if_pos hv]; omega
  ·rw [if_neg hv]; exact Nat.min_le_right _ _
theorem yl6 (v:Int) (n d:Nat):(if v < 0 then max (v + (n:Int)) 0 else min v (n:Int)) = ((sIx n d (some v):Nat):Int):=by
 show (if v < 0 then max (v + (n:Int)) 0 else min v (n:Int)) = (((if v < 0 then (v + (n:Int)).toNat else min v.toNat n):Nat):Int)
 by_cases hv:v < 0
 ·simp only [if_pos hv]; omega
 ·simp only [if_neg hv]; omega
theorem yjl (lo hi:Option Int) (n:Nat):Builtin.Slice.sliceAdjust lo hi 1 (n:Int) = (((sIx n 0 lo:Nat):Int),((sIx n n hi:Nat):Int)):=by
 have h1:¬ ((1:Int) < 0):=by omega
 unfold Builtin.Slice.sliceAdjust
 simp only [h1,if_false]
 refine Prod.ext ?_ ?_
 ·cases lo with
  | none=>rfl
  | some v=>exact yl6 v n 0
 ·cases hi with
  | none=>rfl
  | some v=>exact yl6 v n n
theorem yjx (i j:Nat):Builtin.Slice.slicePlaces (i:Int) (j:Int) 1 = j - i:=by
 unfold Builtin.Slice.slicePlaces
 have h1:(1:Int) > 0:=by omega
 simp only [h1,if_true,Int.ediv_one]
 split <;> omega
theorem ybq {v:Value} {o:Option Int} {Q:Option Int->Shared->Prop} (p:IsPart v o) (h:Q o s):wpAny (model prog w) A (Builtin.Slice.slicePartIndex v) Q E s:=by
 cases p with
 | none=>exact slicePart_none h
 | int i t=>exact slicePart_int h
theorem u5 {sl:Addr} {vl vu:Value} {lo hi:Option Int} {n:Nat} {Q:Int × Int × Nat->Shared->Prop} (hs:s.heap.IsSliceOf sl vl vu .none) (pl:IsPart vl lo) (pu:IsPart vu hi)
  (h:Q (((sIx n 0 lo:Nat):Int),1,sIx n n hi - sIx n 0 lo) s):wpAny (model prog w) A (Builtin.Slice.sliceApplied (.ref sl) (pure (n:Int))) Q E s:=by
 obtain ⟨os,hos,hcs,hds⟩:=id hs
 unfold Builtin.Slice.sliceApplied Builtin.Slice.sliceFields
 refine wpAny_bind (wpAny_bind (wpAny_field hos hds (x:=vl) rfl (wpAny_bind (wpAny_field hos hds (x:=vu) rfl (wpAny_bind (wpAny_field hos hds (x:=.none) rfl (wpAny_pure ?_)))))))
 refine wpAny_bind (slicePart_none ?_)
 show wpAny _ _ (if ((1:Int) == 0) = true then _ else _) _ _ s
 rw [if_neg (by decide)]
 refine wpAny_bind (ybq pl (wpAny_bind (ybq pu (wpAny_bind (wpAny_pure ?_)))))
 show wpAny _ _ (match Builtin.Slice.sliceAdjust lo hi 1 (n:Int) with | (lo,hi)=>pure (lo,(1:Int),Builtin.Slice.slicePlaces lo hi 1)) _ _ s
 rw [yjl lo hi n]
 show wpAny _ _ (pure (((sIx n 0 lo:Nat):Int),(1:Int),Builtin.Slice.slicePlaces ((sIx n 0 lo:Nat):Int) ((sIx n n hi:Nat):Int) 1)) _ _ s
 rw [yjx]
 exact wpAny_pure h
theorem ynv (xs:Array Value) (i k:Nat):((List.range k).filterMap fun (m:Nat)=>xs[((i:Int) + (m:Int) * 1).toNat]?).toArray = ((xs.toList.drop i).take k).toArray:=by
 have e:(fun (m:Nat)=>xs[((i:Int) + (m:Int) * 1).toNat]?) = fun m=>xs[i + m]?:=by
  funext m
  have:((i:Int) + (m:Int) * 1).toNat = i + m:=by omega
  rw [this]
 rw [e]
 have:=pick_run xs i k
 rw [List.filterMap_map] at this
 have e2:((fun x=>xs[x]?) ∘ fun x=>i + x) = fun m=>xs[i + m]?:=rfl
 rw [e2] at this
 rw [this]
theorem getItem_tuple_cut {t sl:Addr} {items:Array Value} {vl vu:Value} {lo hi:Option Int} {Q:Value->Shared->Prop} (ht:IsTup s.heap t items) (hs:s.heap.IsSliceOf sl vl vu .none) (pl:IsPart vl lo) (pu:IsPart vu hi)
  (hw:¬ (sIx items.size 0 lo = 0/\sIx items.size items.size hi = items.size))
  (h:Q (.ref s.heap.objs.size) { s with heap:=s.heap.push { cls:=.type "tuple",data:=.seq ((items.toList.drop (sIx items.size 0 lo)).take (sIx items.size items.size hi - sIx items.size 0 lo)).toArray } })
  (hsz:items.size <= sizeLine):wpAny (model prog w) A (getItem (.ref t) (.ref sl)) Q E s:=by
 have htake:sizeOk (.seq ((items.toList.drop (sIx items.size 0 lo)).take (sIx items.size items.size hi - sIx items.size 0 lo)).toArray):=by
  show ((items.toList.drop (sIx items.size 0 lo)).take (sIx items.size items.size hi - sIx items.size 0 lo)).toArray.size <= sizeLine
  rw [List.size_toArray,List.length_take,List.length_drop,Array.length_toList]
  omega
 have hj:sIx items.size items.size hi <= items.size:=ywx _ _ (Nat.le_refl _) hi
 obtain ⟨os,hos,hcs,hds⟩:=id hs
 have hTs:s.TypeIs (.ref sl) "slice":=⟨os,hos,hcs⟩
 unfold getItem
 try with_reducible refine wpAny_holding ?_
 first | refine wpAny_bind (wpAny_pure ?_) | skip
 refine wpAny_bind (wpAny_sequenceKey ht.typeIs (by decide) ?_)
 refine wpAny_bind (wpAny_callSpecial?_slot (name:=Str.ofString "__getitem__") ht.typeIs PyProof.Rows.slot_tuple_getitem
  (wpAny_call_entry PyProof.Rows.slot_tuple_getitem ht.typeIs entry_tuple_getitem ?_ (args_tuple_getitem _ _)))
 show wpAny _ _ (Builtin.Tuple.tupleItemsOf (.ref t) >>= _) _ _ s
 refine wpAny_bind (tupleItemsOf_ ht ?_)
 refine wpAny_bind (wpAny_typeOf hTs ?_)
 rw [if_pos (by decide)]
 refine wpAny_bind (u5 hs pl pu ?_)
 have hno:¬ ((((sIx items.size 0 lo:Nat):Int) == 0 && (1:Int) == 1 && (sIx items.size items.size hi - sIx items.size 0 lo) == items.size) = true):=by
  intro q
  rw [Bool.and_eq_true,Bool.and_eq_true] at q
  have q1:((sIx items.size 0 lo:Nat):Int) = 0:=eq_of_beq q.1.1
  have q2:sIx items.size items.size hi - sIx items.size 0 lo = items.size:=eq_of_beq q.2
  exact hw ⟨by omega,by omega⟩
 show wpAny _ _ (if (((sIx items.size 0 lo:Nat):Int) == 0 && (1:Int) == 1 && (sIx items.size items.size hi - sIx items.size 0 lo) == items.size) = true then _ else _) _ _ s
 rw [if_neg hno,ynv]
 first
  | exact wpAny_bind (m:=Builtin.Tuple.tupleExact _) (wpAny_newObj_type (wpAny_pure ⟨_,rfl,wpAny_pure h⟩) htake)
  | exact wpAny_bind (m:=Builtin.Tuple.tupleExact _) (wpAny_newObj_type (wpAny_bind (wpAny_pure (wpAny_pure ⟨_,rfl,wpAny_pure h⟩))) htake)
  | exact wpAny_bind (wpAny_bind (m:=Builtin.Tuple.tupleExact _) (wpAny_newObj_type (wpAny_pure (wpAny_pure ⟨_,rfl,wpAny_pure h⟩)) htake))
  | exact wpAny_bind (wpAny_bind (m:=Builtin.Tuple.tupleExact _) (wpAny_newObj_type (wpAny_pure ⟨_,rfl,wpAny_pure h⟩) htake))
end
end HT
namespace L2
open PySem PySem.Spec PyProof.Rows
abbrev TO:=St->Hp->(Option Int->Hp->Prop)->Prop
def PO (X:Cx) (e:Option Expr) (t:TO):Prop :=
 ∀ (pins:List (Addr × Obj)) (s:Shared) (σ:St) (H:Hp) (Q:Option Int->Hp->Prop),Inv X pins σ H s->t σ H Q ->
  wpAny (model X.prog X.w) X.A (evalPart e X.env) (fun u s'=>∃ o H',Inv X pins σ H' s'/\IsPart u o/\Q o H') X.xe s
def ymg:TO:=fun _ H Q=>Q none H
def yy7 (t:TE):TO:=fun σ H Q=>t σ H fun x H1=>∃ i,x = .int i/\Q (some i) H1
section
variable {X:Cx} {e:Expr} {te:TE} {lo hi:Option Expr} {tl th:TO} {pos p2:Pos}
theorem uh:PO X none ymg:=by
 intro pins s σ H Q I h
 rw [evalPart_none]
 exact wpAny_pure ⟨none,H,I,.none,h⟩
theorem ug (h:PE X e te):PO X (some e) (yy7 te):=by
 intro pins s σ H Q I hw
 rw [evalPart_some]
 refine thn (h pins s σ H _ I hw) fun u s1 ⟨x,H1,I1,r1,q1⟩=>?_
 obtain ⟨i,rfl,q⟩:=q1
 obtain ⟨t,rfl⟩:=r1
 exact ⟨some i,H1,I1,.int i t,q⟩
def SlR (X:Cx) (r:V->Option Int->Option Int->Hp->VK->Prop):Prop :=
 ∀ (pins:List (Addr × Obj)) (s:Shared) (σ:St) (H:Hp) (x:V) (v vl vu:Value) (lo hi:Option Int) (sl:Addr) (Q:VK),Inv X pins σ H s->w8 x v->s.heap.IsSliceOf sl vl vu .none->IsPart vl lo->IsPart vu hi->r x lo hi H Q ->
  ∃ T id,typeLookup (.type T) "__getitem__" = pure (some (.builtin id))/\s.TypeIs v T/\wpAny (model X.prog X.w) X.A (getItem v (.ref sl)) (EP X pins σ Q) X.xe s
theorem SlR.or {r r':V->Option Int->Option Int->Hp->VK->Prop} (h:SlR X r) (h':SlR X r'):SlR X (fun x lo hi H Q=>r x lo hi H Q\/r' x lo hi H Q):=by
 intro pins s σ H x v vl vu lo hi sl Q I rx hs pl pu q
 rcases q with q | q
 ·exact h pins s σ H x v vl vu lo hi sl Q I rx hs pl pu q
 ·exact h' pins s σ H x v vl vu lo hi sl Q I rx hs pl pu q
def tSl (r:V->Option Int->Option Int->Hp->VK->Prop) (te:TE) (tl th:TO):TE:=fun σ H Q=>te σ H fun x H1=>tl σ H1 fun l H2=>th σ H2 fun u H3=>r x l u H3 Q
theorem xo {r:V->Option Int->Option Int->Hp->VK->Prop} (hr:SlR X r) (he:PE X e te) (hl:PO X lo tl) (hu:PO X hi th):PE X (.Subscript e (.Slice lo hi none p2) pos) (tSl r te tl th):=by
 intro pins s σ H Q I h
 refine Subscript_ (thn (he pins s σ H _ I h) fun v s1 ⟨x,H1,I1,r1,q1⟩=>?_)
 refine wpAny_Slice (thn (hl pins s1 σ H1 _ I1 q1) fun vl s2 ⟨l,H2,I2,pl,q2⟩=>thn (hu pins s2 σ H2 _ I2 q2) fun vu s3 ⟨u,H3,I3,pu,q3⟩=>?_)
 rw [evalPart_none]
 refine wpAny_pure ?_
 have I4:Inv X pins σ H3 { s3 with heap:=s3.heap.push { cls:=.type "slice",data:=.fields #[vl,vu,.none] } }:=I3.kept (t':=s3.toks) fun b ob q=>Heap.get?_push_of_some _ q
 obtain ⟨T,id,hT,ht,hg⟩:=hr pins { s3 with heap:=s3.heap.push { cls:=.type "slice",data:=.fields #[vl,vu,.none] } } σ H3 x v vl vu l u s3.heap.objs.size Q I4 r1 (Heap.IsSliceOf.new ..) pl pu q3
 show wpAny (model X.prog X.w) X.A (subscriptTail e (.Slice lo hi none p2) v (.ref s3.heap.objs.size)) (EP X pins σ Q) X.xe { s3 with heap:=s3.heap.push { cls:=.type "slice",data:=.fields #[vl,vu,.none] } }
 exact tail_any (ops:=[.ref s3.heap.objs.size,v]) ht hT hg (by with_unfolding_all rfl)
def ye0 (xs:List V) (lo hi:Option Int):List V:=(xs.drop (HT.sIx xs.length 0 lo)).take (HT.sIx xs.length xs.length hi - HT.sIx xs.length 0 lo)
theorem ya4 (xs:List V) (lo hi:Option Int):(ye0 xs lo hi).length <= xs.length:=by
 unfold ye0
 rw [List.length_take,List.length_drop]
 omega
def vce (K:W.Frag):V->Option Int->Option Int->Hp->VK->Prop:=fun x lo hi H Q=>∃ a xs,x = .ref a/\SqT K H a xs /\
 ¬ (HT.sIx xs.length 0 lo = 0/\HT.sIx xs.length xs.length hi = xs.length)/\∀ p,H p = none->Q (.ref p) (upd H p (.tup (ye0 xs lo hi)))
theorem ywd:SlR X (vce X.K):=by
 intro pins s σ H x v vl vu lo hi sl Q I rx hs pl pu h
 obtain ⟨a,xs,rfl,hx,hw,q⟩:=h
 cases rx
 obtain ⟨its,r,ht,hz⟩:=I.tuple hx
 have hlen:its.toArray.size = xs.length:=by rw [List.size_toArray]; exact r.length.symm
 refine ⟨"tuple",_,PyProof.Rows.slot_tuple_getitem.lookup,ht.typeIs,?_⟩
 refine HT.getItem_tuple_cut ht hs pl pu (by rw [hlen]; exact hw) ?_ (by rw [hlen]; exact hz)
 rw [hlen]
 refine ⟨.ref s.heap.objs.size,_,I.laid (t':=s.toks) (o:=.tup (ye0 xs lo hi)) (fun b ob q=>Heap.get?_push_of_some _ q) (Nat.le_refl _) ?_,rfl,q _ (I.hok.fresh (Nat.le_refl _))⟩
 exact ⟨Nat.le_trans (ya4 xs lo hi) hz,_,(r.drop (HT.sIx xs.length 0 lo)).take (HT.sIx xs.length xs.length hi - HT.sIx xs.length 0 lo),IsTup.new _ _⟩
end
end L2
namespace L2
open PySem PySem.Spec PyProof.Rows
def ixN (n:Nat) (i:Int):Option Nat:=if 0 <= i then (if i < n then some i.toNat else none) else if -(n:Int) <= i then some (i + n).toNat else none
def atI {α:Type} (xs:List α) (i:Int):Option α:=(ixN xs.length i).bind fun j=>xs[j]?
theorem ymn {n:Nat} {i:Int} {j:Nat} (h:ixN n i = some j):seqIndex? i n = some j/\j < n/\-(n:Int) <= i/\i < n:=by
 unfold ixN at h
 by_cases h0:0 <= i
 ·rw [if_pos h0] at h
  by_cases h1:i < n
  ·rw [if_pos h1] at h
   have e:i.toNat = j:=Option.some.inj h
   exact ⟨by rw [seqIndex_of h0 h1,e],by omega,by omega,h1⟩
  ·rw [if_neg h1] at h; cases h
 ·rw [if_neg h0] at h
  by_cases h1:-(n:Int) <= i
  ·rw [if_pos h1] at h
   have e:(i + n).toNat = j:=Option.some.inj h
   exact ⟨by rw [seqIndex_neg (by omega) h1,e],by omega,h1,by omega⟩
  ·rw [if_neg h1] at h; cases h
theorem ylz {α:Type} {xs:List α} {i:Int} {v:α} (h:atI xs i = some v):∃ j,seqIndex? i xs.length = some j/\xs[j]? = some v/\j < xs.length/\-(xs.length:Int) <= i/\i < xs.length:=by
 unfold atI at h
 cases e:ixN xs.length i with
 | none=>rw [e] at h; cases h
 | some j =>
  rw [e] at h
  obtain ⟨h1,h2,h3,h4⟩:=ymn e
  exact ⟨j,h1,h,h2,h3,h4⟩
theorem vz {α:Type} {xs:List α} {j:Nat} {v:α} (h:xs[j]? = some v):atI xs (j:Int) = some v:=by
 have hj:j < xs.length:=(List.getElem?_eq_some_iff.mp h).1
 have e:ixN xs.length (j:Int) = some j:=by
  unfold ixN
  rw [if_pos (by omega),if_pos (by omega)]; simp
 unfold atI; rw [e]; exact h
def yti (b:Expr):Prop:=∀ o i,subscripted b false o i = operate [o,i] (getItem o i)
def IxR (X:Cx) (r:R2):Prop :=
 ∀ (value slice:Expr) (pins:List (Addr × Obj)) (s:Shared) (σ:St) (H:Hp) (x y:V) (v u:Value) (Q:VK),Inv X pins σ H s->w8 x v->w8 y u->r x y H Q ->
  subscripted slice false v u = operate [v,u] (getItem v u)->wpAny (model X.prog X.w) X.A (subscriptTail value slice v u) (EP X pins σ Q) X.xe s
def MtR (X:Cx) (id:String) (r:V->List V->Hp->VK->Prop):Prop :=
 ∀ (pins:List (Addr × Obj)) (s:Shared) (σ:St) (H:Hp) (x:V) (xs:List V) (v:Value) (us:List Value) (Q:VK),Inv X pins σ H s->w8 x v->wg xs us->r x xs H Q ->
  wpAny (model X.prog X.w) X.A (call (.builtin id) (v :: us)) (EP X pins σ Q) X.xe s
section
variable {X:Cx} {a b:Expr} {ta tb:TE} {pos:Pos}
theorem x5 {r:R2} (hr:IxR X r) (ha:PE X a ta) (hb:PE X b tb) (hs:yti b):PE X (.Subscript a b pos) (tOp r ta tb):=by
 intro pins s σ H Q I h
 exact Subscript_ (vay ha hb I h fun v u s2 x y H2 I2 rx ry q=>hr a b pins s2 σ H2 x y v u Q I2 rx ry q (hs _ _))
def yui (K:W.Frag):R2:=fun x y H Q=>∃ p xs i v,x = .ref p/\y = .int i/\SqL K H p xs/\atI xs i = some v/\Q v H
def vbd (K:W.Frag):R2:=fun x y H Q=>∃ p xs i v,x = .ref p/\y = .int i/\SqT K H p xs/\atI xs i = some v/\Q v H
theorem xm:IxR X (yui X.K):=by
 intro value slice pins s σ H x y v u Q I rx ry h hs
 obtain ⟨p,xs,i,z,rfl,rfl,hq,he,q⟩:=h
 cases rx
 obtain ⟨t,rfl⟩:=ry
 obtain ⟨its,r,pl,hz⟩:=I.list hq
 obtain ⟨j,h1,h2,h3,h4,h5⟩:=ylz he
 obtain ⟨w,ew,rw'⟩:=r.get h2
 have hl:=r.length
 have hn:=yi1
 have fin:EP X pins σ Q w s:=⟨z,H,I,rw',q⟩
 by_cases h0:0 <= i
 ·have hj:i.toNat = j:=by
   rw [seqIndex_of h0 h5] at h1
   exact Option.some.inj h1
  exact item_listR pl.isList h0 (by omega) (by rw [hj]; simpa using ew) fin hs
 ·have hj:(i + (its.toArray.size:Int)).toNat = j:=by
   rw [seqIndex_neg (by omega) h4] at h1
   rw [List.size_toArray,<- hl]
   exact Option.some.inj h1
  exact subscriptTail_builtinR (x:=w) pl.isList.typeIs slot_list_getitem.lookup
   (wpAny_getItem_list_neg (Q:=fun r s'=>r = w/\EP X pins σ Q r s') pl.isList (by omega) (by rw [List.size_toArray] <;> omega) (by omega) (by rw [hj]; simpa using ew) ⟨rfl,fin⟩) hs
theorem zn:IxR X (vbd X.K):=by
 intro value slice pins s σ H x y v u Q I rx ry h hs
 obtain ⟨p,xs,i,z,rfl,rfl,hq,he,q⟩:=h
 cases rx
 obtain ⟨t,rfl⟩:=ry
 obtain ⟨its,r,pl,hz⟩:=I.tuple hq
 obtain ⟨j,h1,h2,h3,h4,h5⟩:=ylz he
 obtain ⟨w,ew,rw'⟩:=r.get h2
 have hl:=r.length
 have hn:=yi1
 have fin:EP X pins σ Q w s:=⟨z,H,I,rw',q⟩
 exact subscriptTail_builtinR (x:=w) pl.typeIs slot_tuple_getitem.lookup
  (getItem_tuple (j:=j) (Q:=fun r s'=>r = w/\EP X pins σ Q r s') pl (by omega) (by omega) (by rw [List.size_toArray,<- hl]; exact h1) (by simpa using ew) ⟨rfl,fin⟩) hs
theorem yj9 (its:List Value) (n j:Nat) (u:Value):Obj.mapSeq (·.setIfInBounds j u) { cls:=.type "list",data:=.seq its.toArray n } = { cls:=.type "list",data:=.seq (its.set j u).toArray n }:=by
 simp [Obj.mapSeq]
theorem Inv.lst {pins:List (Addr × Obj)} {σ:St} {H:Hp} {s:Shared} {p:Addr} {xs:List V} (I:Inv X pins σ H s) (h:H p = some (.lst xs)) :
  ∃ (its:List Value) (n:Nat),wg xs its/\s.heap.get? p = some { cls:=.type "list",data:=.seq its.toArray n }/\xs.length <= sizeLine:=by
 obtain ⟨z,its,n,r,e⟩:=I.hok p _ h
 exact ⟨its,n,r,e,z⟩
theorem Inv.lstUpd {pins:List (Addr × Obj)} {σ:St} {H:Hp} {s:Shared} {p:Addr} {xs ys:List V} {its its':List Value} {n n':Nat} {f:Obj->Obj} (I:Inv X pins σ H s) (h:H p = some (.lst xs))
  (ho:s.heap.get? p = some { cls:=.type "list",data:=.seq its.toArray n }) (hf:f { cls:=.type "list",data:=.seq its.toArray n } = { cls:=.type "list",data:=.seq its'.toArray n' }) (r:wg ys its') (hz:ys.length <= sizeLine) (t:Nat) :
  Inv X pins σ (upd H p (.lst ys)) { s with heap:=s.heap.update p f,toks:=t }:=by
 have e:(s.heap.update p f).get? p = some { cls:=.type "list",data:=.seq its'.toArray n' }:=by
  rw [Heap.get?_update_self f ho (by rw [hf] <;> rfl),hf]
 refine I.write (x:=p) (e:=p) (by rw [h]; trivial) (.inl rfl) (fun b u hb q=>(Heap.get?_update_other _ _ (Ne.symm hb)).trans q) ⟨_,e⟩ ?_
 exact ⟨hz,its',n',r,e⟩
def yzv:V->V->V->Hp->(Hp->Prop)->Prop:=fun o i v H Q=>∃ p xs k j,o = .ref p/\i = .int k/\H p = some (.lst xs)/\ixN xs.length k = some j/\Q (upd H p (.lst (xs.set j v)))
theorem yob:vbp X yzv:=by
 intro pins s σ H o i v ov iv u Q I ro ri rv h
 obtain ⟨p,xs,k,j,rfl,rfl,hp,hj,q⟩:=h
 cases ro
 obtain ⟨t,rfl⟩:=ri
 obtain ⟨its,n,r,ho,hz⟩:=I.lst hp
 obtain ⟨h1,h2,h3,h4⟩:=ymn hj
 have hl:=r.length
 have hn:=yi1
 have I':Inv X pins σ (upd H p (.lst (xs.set j v))) { s with heap:=s.heap.update p (Obj.mapSeq (·.setIfInBounds j u)) } :=
  I.lstUpd hp ho (yj9 its n j u) (r.set rv j) (by rw [List.length_set]; exact hz) s.toks
 by_cases h0:0 <= k
 ·have hk:k.toNat = j:=by
   rw [seqIndex_of h0 h4] at h1
   exact Option.some.inj h1
  exact W.ki_setAt ho h0 (by omega) (by rw [List.size_toArray,<- hl]; exact h4) (by rw [hk]; exact ⟨_,I',q⟩)
 ·have hk:(k + (its.toArray.size:Int)).toNat = j:=by
   rw [seqIndex_neg (by omega) h3] at h1
   rw [List.size_toArray,<- hl]
   exact Option.some.inj h1
  exact W.ki_setBack ho (by omega) (by rw [List.size_toArray,<- hl]; exact h3) (by omega) (by rw [hk]; exact ⟨_,I',q⟩)
theorem yfb (lo hi:Option Int) (n:Nat):(sliceBounds lo hi none n).1 = ((HT.sIx n 0 lo:Nat):Int)/\(sliceBounds lo hi none n).2.1 = ((HT.sIx n n hi:Nat):Int)/\(sliceBounds lo hi none n).2.2 = 1:=by
 refine ⟨?_,?_,rfl⟩
 ·cases lo with
  | none=>simp [sliceBounds,HT.sIx]
  | some i =>
   simp only [sliceBounds,HT.sIx,Option.getD_none,show (1:Int) > 0 by decide,if_true]
   by_cases h:i < 0
   ·simp only [h,if_true] <;> omega
   ·simp only [h,if_false] <;> omega
 ·cases hi with
  | none=>simp [sliceBounds,HT.sIx]
  | some i =>
   simp only [sliceBounds,HT.sIx,Option.getD_none,show (1:Int) > 0 by decide,if_true]
   by_cases h:i < 0
   ·simp only [h,if_true] <;> omega
   ·simp only [h,if_false] <;> omega
theorem yb8 (its:List Value) (lo hi:Option Int):slicePick its.toArray lo hi none = ((its.drop (HT.sIx its.length 0 lo)).take (HT.sIx its.length its.length hi - HT.sIx its.length 0 lo)).toArray:=by
 obtain ⟨h1,h2,h3⟩:=yfb lo hi its.toArray.size
 unfold slicePick
 rw [h1,h2,h3]
 simp only [sliceRange_one,pick_run,List.size_toArray] <;> rfl
def va6 (K:W.Frag):V->Option Int->Option Int->Hp->VK->Prop:=fun x lo hi H Q=>∃ a xs,x = .ref a/\SqL K H a xs/\∀ p,H p = none->Q (.ref p) (upd H p (.lst (ye0 xs lo hi)))
theorem u3:SlR X (va6 X.K):=by
 intro pins s σ H x v vl vu lo hi sl Q I rx hs pl pu h
 obtain ⟨a,xs,rfl,hx,q⟩:=h
 cases rx
 obtain ⟨its,r,ht,hz⟩:=I.list hx
 have hlen:=r.length
 refine ⟨"list",_,slot_list_getitem.lookup,ht.isList.typeIs,?_⟩
 refine wpAny_getItem_list_slice ht.isList hs pl pu .none (by simp) ?_ (by rw [List.size_toArray] <;> omega)
 rw [yb8,<- hlen]
 refine ⟨.ref s.heap.objs.size,_,I.laid (t':=s.toks) (o:=.lst (ye0 xs lo hi)) (fun b ob q=>Heap.get?_push_of_some _ q) (Nat.le_refl _) ?_,rfl,q _ (I.hok.fresh (Nat.le_refl _))⟩
 exact ⟨Nat.le_trans (ya4 xs lo hi) hz,_,0,(r.drop (HT.sIx xs.length 0 lo)).take (HT.sIx xs.length xs.length hi - HT.sIx xs.length 0 lo),Heap.get?_push_size _ rfl⟩
def ygf:V->Bool
 | .non=>true
 | .bl _=>true
 | .int _=>true
 | .str _=>true
 | _=>false
def eqV:V->V->Bool
 | .non,.non=>true
 | .bl a,.bl b=>a == b
 | .bl a,.int b=>(if a then 1 else 0) == b
 | .int a,.bl b=>a == (if b then 1 else 0)
 | .int a,.int b=>a == b
 | .str a,.str b=>a == b
 | _,_=>false
theorem yxh {A:Around} {s:Shared} {y x:V} {u v:Value} (ry:w8 y u) (rx:w8 x v) (fy:ygf y = true) (fx:ygf x = true):SeqAt.EqAt A s u v (eqV y x):=by
 cases y with
 | non =>
  cases ry
  cases x with
  | non=>cases rx; exact SeqAt.EqAt.same _
  | bl b=>cases rx; exact SeqAt.EqAt.none_bool b
  | int b=>obtain ⟨t,rfl⟩:=rx; exact SeqAt.EqAt.none_int b t
  | str b=>obtain ⟨t,rfl⟩:=rx; exact SeqAt.EqAt.none_str b t
  | _=>exact absurd (show false = true from fx) Bool.false_ne_true
 | bl a =>
  cases ry
  cases x with
  | non=>cases rx; exact SeqAt.EqAt.bool_none a
  | bl b=>cases rx; exact SeqAt.EqAt.bool_bool a b
  | int b=>obtain ⟨t,rfl⟩:=rx; exact SeqAt.EqAt.bool_int a b t
  | str b=>obtain ⟨t,rfl⟩:=rx; exact SeqAt.EqAt.bool_str a b t
  | _=>exact absurd (show false = true from fx) Bool.false_ne_true
 | int a =>
  obtain ⟨t',rfl⟩:=ry
  cases x with
  | non=>cases rx; exact SeqAt.EqAt.int_none a t'
  | bl b=>cases rx; exact SeqAt.EqAt.int_bool a t' b
  | int b=>obtain ⟨t,rfl⟩:=rx; exact SeqAt.EqAt.int_int a t' b t
  | str b=>obtain ⟨t,rfl⟩:=rx; exact SeqAt.EqAt.int_str a t' b t
  | _=>exact absurd (show false = true from fx) Bool.false_ne_true
 | str a =>
  obtain ⟨t',rfl⟩:=ry
  cases x with
  | non=>cases rx; exact SeqAt.EqAt.str_none a t'
  | bl b=>cases rx; exact SeqAt.EqAt.str_bool a t' b
  | int b=>obtain ⟨t,rfl⟩:=rx; exact SeqAt.EqAt.str_int a t' b t
  | str b=>obtain ⟨t,rfl⟩:=rx; exact SeqAt.EqAt.str_str a t' b t
  | _=>exact absurd (show false = true from fx) Bool.false_ne_true
 | _=>exact absurd (show false = true from fy) Bool.false_ne_true
def eqU (x:V) (u:Value):Bool:=match u with
 | .none=>eqV .non x
 | .bool b=>eqV (.bl b) x
 | .int i _=>eqV (.int i) x
 | .str z _=>eqV (.str z) x
 | _=>false
theorem yrh {x y:V} {u:Value} (r:w8 y u) (f:ygf y = true):eqU x u = eqV y x:=by
 cases y with
 | non=>cases r; rfl
 | bl b=>cases r; rfl
 | int i=>obtain ⟨t,rfl⟩:=r; rfl
 | str z=>obtain ⟨t,rfl⟩:=r; rfl
 | _=>exact absurd (show false = true from f) Bool.false_ne_true
theorem yhq {x:V}:∀ {xs:List V} {us:List Value},wg xs us->xs.all ygf = true->us.any (eqU x) = xs.any fun y=>eqV y x
 | _,_,.nil,_=>rfl
 | y :: xs,u :: us,.cons r t,f=>by
  rw [List.all_cons,Bool.and_eq_true] at f
  rw [List.any_cons,List.any_cons,yrh r f.1,yhq t f.2]
theorem ycn {A:Around} {s:Shared} {x:V} {v:Value} (rx:w8 x v) (fx:ygf x = true):∀ {xs:List V} {us:List Value},wg xs us->xs.all ygf = true->∀ u ∈ us,SeqAt.EqAt A s u v (eqU x u)
 | _,_,.nil,_=>fun u hu=>by cases hu
 | y :: xs,u :: us,.cons r t,f=>fun u' hu=>by
  rw [List.all_cons,Bool.and_eq_true] at f
  rcases List.mem_cons.mp hu with rfl | hu
  ·rw [yrh r f.1]; exact yxh r rx f.1 fx
  ·exact ycn rx fx t f.2 u' hu
def inV (x:V) (xs:List V):Bool:=xs.any fun y=>eqV y x
def rIn (K:W.Frag) (neg:Bool):R2:=fun x y H Q=>∃ p xs,y = .ref p/\(SqL K H p xs\/SqT K H p xs)/\ygf x = true/\xs.all ygf = true/\Q (.bl (if neg then !inV x xs else inV x xs)) H
theorem yf2:OpR X (compareOp .In) (rIn X.K false):=by
 intro pins s σ H x y v u Q I rx ry h
 obtain ⟨p,xs,rfl,hq,fx,fs,q⟩:=h
 cases ry
 rcases hq with hq | hq
 ·obtain ⟨its,r,pl,hz⟩:=I.list hq
  refine SeqAt.in_listAt (eqU x) pl.isList (fun w hw=>ycn rx fx r fs w (by simpa using hw)) ⟨.bl _,H,I,rfl,?_⟩
  rw [show its.toArray.any (eqU x) = its.any (eqU x) by simp,yhq r fs]
  exact q
 ·obtain ⟨its,r,pl,hz⟩:=I.tuple hq
  refine SeqAt.in_tupleAt (eqU x) pl (fun w hw=>ycn rx fx r fs w (by simpa using hw)) ⟨.bl _,H,I,rfl,?_⟩
  rw [show its.toArray.any (eqU x) = its.any (eqU x) by simp,yhq r fs]
  exact q
theorem yw:ybe X (.builtin "len") (fun xs H Q=>∃ p ys,xs = [.ref p]/\(SqL X.K H p ys\/SqT X.K H p ys)/\Q (.int ys.length) H):=by
 intro pins s σ H xs us Q I r h
 obtain ⟨p,ys,rfl,hq,q⟩:=h
 obtain ⟨u,rfl,rx⟩:=ynn r
 cases rx
 have hn:=yi1
 rcases hq with hq | hq
 ·obtain ⟨its,r',pl,hz⟩:=I.list hq
  have hlen:=r'.length
  exact Calls.call_len_list pl.isList (by simp only [List.size_toArray] <;> omega) ⟨.int ys.length,H,I.tok _,⟨s.toks + 1,by rw [List.size_toArray,hlen]⟩,q⟩
 ·obtain ⟨its,r',pl,hz⟩:=I.tuple hq
  have hlen:=r'.length
  exact len_tuple pl (by simp only [List.size_toArray] <;> omega) ⟨.int ys.length,H,I.tok _,⟨s.toks + 1,by rw [List.size_toArray,hlen]⟩,q⟩
theorem xt:ybe X (.type "list") (fun xs H Q=>∃ p ys,xs = [.ref p]/\(SqL X.K H p ys\/SqT X.K H p ys)/\∀ l,H l = none->Q (.ref l) (upd H l (.lst ys))):=by
 intro pins s σ H xs us Q I r h
 obtain ⟨p,ys,rfl,hq,q⟩:=h
 obtain ⟨u,rfl,rx⟩:=ynn r
 cases rx
 have fin:∀ (its:List Value),wg ys its->ys.length <= sizeLine->∀ (h':Heap) (c':Nat),(∀ b o',s.heap.get? b = some o'->h'.get? b = some o') ->
   h'.get? s.heap.objs.size = some { cls:=.type "list",dict:=none,data:=.seq its.toArray c',slots:=#[] }->EP X pins σ Q (.ref s.heap.objs.size) { s with heap:=h' }:=fun its r' hz h' c' kp e =>
  ⟨.ref s.heap.objs.size,_,I.laid (t':=s.toks) kp (Nat.le_refl _) (show xk X.prog X.w _ h' _ (.lst ys) from ⟨hz,its,c',r',e⟩),rfl,q _ (I.hok.fresh (Nat.le_refl _))⟩
 rcases hq with hq | hq
 ·obtain ⟨its,r',pl,hz⟩:=I.list hq
  have hlen:=r'.length
  obtain ⟨o,ho,hc,n,hd⟩:=pl.isList
  exact call_list_seq p (.inl rfl) ho hc hd (fun h' c' kp e=>fin its r' hz h' c' kp e) (by simp only [List.size_toArray] <;> omega)
 ·obtain ⟨its,r',pl,hz⟩:=I.tuple hq
  have hlen:=r'.length
  obtain ⟨o,ho,hc,n,hd⟩:=pl
  exact call_list_seq p (.inr rfl) ho hc hd (fun h' c' kp e=>fin its r' hz h' c' kp e) (by simp only [List.size_toArray] <;> omega)
theorem ji:ybe X (.type "tuple") (fun xs H Q=>∃ p ys,xs = [.ref p]/\((SqL X.K H p ys/\∀ l,H l = none->Q (.ref l) (upd H l (.tup ys)))\/(SqT X.K H p ys/\Q (.ref p) H))):=by
 intro pins s σ H xs us Q I r h
 obtain ⟨p,ys,rfl,h⟩:=h
 obtain ⟨u,rfl,rx⟩:=ynn r
 cases rx
 rcases h with ⟨hq,q⟩ | ⟨hq,q⟩
 ·obtain ⟨its,r',pl,hz⟩:=I.list hq
  have hlen:=r'.length
  refine call_tuple_list pl.isList (fun h' kp=>?_) (by simp only [List.size_toArray] <;> omega)
  have I1:Inv X pins σ H { s with heap:=h' }:=I.kept (t':=s.toks) kp
  have I2:Inv X pins σ (upd H h'.objs.size (.tup ys)) { s with heap:=h'.push { cls:=.type "tuple",data:=.seq its.toArray } } :=
   I1.laid (t':=s.toks) (fun b o e=>Heap.get?_push_of_some _ e) (Nat.le_refl _) (show xk X.prog X.w _ _ _ (.tup ys) from ⟨hz,its,r',IsTup.new _ _⟩)
  exact ⟨.ref h'.objs.size,_,I2,rfl,q _ (I1.hok.fresh (Nat.le_refl _))⟩
 ·obtain ⟨its,r',pl,hz⟩:=I.tuple hq
  exact call_tuple_same pl ⟨.ref p,H,I,rfl,q⟩
def tyV (K:W.Frag) (T:String) (x:V) (H:Hp):Prop:=match x with
 | .str _=>T = "str"
 | .int _=>T = "int"
 | .ref p=>(T = "list"/\∃ xs,SqL K H p xs)\/(T = "tuple"/\∃ o,K.lookup p = some o/\o.cls = .type "tuple"/\o.dict = none) \/
   (T = "dict"/\((∃ kvs,H p = some (.dK kvs))\/∃ kvs,H p = some (.dT kvs)))\/(T = "set"/\∃ S n,H p = some (.set S n))
 | _=>False
theorem yp8 {pins:List (Addr × Obj)} {σ:St} {H:Hp} {s:Shared} {T:String} {x:V} {v:Value} (I:Inv X pins σ H s) (r:w8 x v) (ty:tyV X.K T x H) :
  s.TypeIs v T/\∀ a,v = .ref a->∃ ob,s.heap.get? a = some ob/\ob.dict = none:=by
 cases x with
 | str z =>
  obtain ⟨t,rfl⟩:=r
  cases (show T = "str" from ty)
  exact ⟨typeIs_str s z t,fun _ e=>nomatch e⟩
 | int i =>
  obtain ⟨t,rfl⟩:=r
  cases (show T = "int" from ty)
  exact ⟨typeIs_int s i t,fun _ e=>nomatch e⟩
 | ref p =>
  cases r
  rcases ty with ⟨rfl,xs,hq⟩ | ⟨rfl,o,hk,hc,hd⟩ | ⟨rfl,hk⟩ | ⟨rfl,S,n,hk⟩
  ·obtain ⟨its,_,pl,_⟩:=I.list hq
   refine ⟨pl.isList.typeIs,fun a e=>?_⟩
   cases e
   obtain ⟨o,n,e,c,hd,_⟩:=pl
   exact ⟨o,e,hd⟩
  ·refine ⟨⟨o,I.kIn p o hk,hc⟩,fun a e=>?_⟩
   cases e
   exact ⟨o,I.kIn _ o hk,hd⟩
  ·have z:∃ o,s.heap.get? p = some o/\o.ExactDict:=by
    rcases hk with ⟨kvs,hk⟩ | ⟨kvs,hk⟩
    ·obtain ⟨_,_,_,_,o,_,_,e,ex,_⟩:=I.hok p _ hk
     exact ⟨o,e,ex⟩
    ·obtain ⟨_,_,_,_,o,_,_,e,ex,_⟩:=I.hok p _ hk
     exact ⟨o,e,ex⟩
   obtain ⟨o,e,ex⟩:=z
   refine ⟨⟨o,e,ex.1⟩,fun a e2=>?_⟩
   cases e2
   exact ⟨o,e,ex.2.1⟩
  ·obtain ⟨o,_,_,_,e,ex,_⟩:=I.hok p _ hk
   refine ⟨⟨o,e,ex.1⟩,fun a e2=>?_⟩
   cases e2
   exact ⟨o,e,ex.2.1⟩
 | _=>exact False.elim ty
def vbg (K:W.Frag) (T:String) (r:V->List V->Hp->VK->Prop) (to:TE):TE:=fun σ H Q=>to σ H fun x H1=>tyV K T x H1/\r x [] H1 Q
def tBM (K:W.Frag) (T:String) (r:V->List V->Hp->VK->Prop) (to:TE) (t:TA):TE:=fun σ H Q=>to σ H fun x H1=>tyV K T x H1/\t σ H1 fun xs H2=>r x xs H2 Q
variable {o e:Expr} {es:List Expr} {to:TE} {t:TA} {name:Str} {apos cpos:Pos} {T id:String} {r:V->List V->Hp->VK->Prop}
theorem yqq (pa:PlainAttrs T) (slot:Slot T name id) (hty:typeOf (.builtin id) = pure (.type "method_descriptor")) (hm:MtR X id r) (ho:PE X o to)
  (hbase:attributeBase o name X.env (eval o X.env) = eval o X.env:=by rfl) (hline:(apos.endLine == cpos.line) = true:=by rfl):PE X (.Call (.Attribute o name apos) [] [] cpos) (vbg X.K T r to):=by
 intro pins s σ H Q I h
 refine wpAny_Call_method0_late hbase hline (thn (ho pins s σ H _ I h) fun v s1 ⟨x,H1,I1,r1,ty,q1⟩=>?_)
 obtain ⟨h1,h2⟩:=yp8 I1 r1 ty
 exact ⟨T,id,pa,slot,hty,h1,h2,Calls.callWith_builtin rfl (PySem.evalArgs_none (hm pins s1 σ H1 x [] v [] Q I1 r1 .nil q1))⟩
theorem yen (pa:PlainAttrs T) (slot:Slot T name id) (hty:typeOf (.builtin id) = pure (.type "method_descriptor")) (hm:MtR X id r) (ho:PE X o to) (ha:PA X (e :: es) t)
  (hbase:attributeBase o name X.env (eval o X.env) = eval o X.env:=by rfl)
  (hfew:((backTo cpos (starEach (e :: es) X.env)).all (fun x=>!x.1) && (backToKw cpos (keywordEach [] X.env)).all (fun x=>x.1.isSome)
   && decide ((e :: es).length + ([]:List Keyword).length + (if ([]:List Keyword).isEmpty then 0 else 1) < 30)) = true:=by rfl)
  (hline:(apos.endLine == cpos.line) = true:=by rfl) (hs:starEach (e :: es) X.env = (false,eval e X.env) :: starEach es X.env:=by rfl) (hplain:(backTo cpos (starEach es X.env)).any (·.1) = false:=by rfl) :
  PE X (.Call (.Attribute o name apos) (e :: es) [] cpos) (tBM X.K T r to t):=by
 intro pins s σ H Q I h
 refine wpAny_Call_method_late hbase hfew hline rfl (thn (ho pins s σ H _ I h) fun v s1 ⟨x,H1,I1,r1,ty,q1⟩=>?_)
 obtain ⟨h1,h2⟩:=yp8 I1 r1 ty
 refine ⟨T,id,pa,slot,hty,h1,h2,?_⟩
 have hA:=ha cpos pins s1 σ H1 _ I1 q1
 rw [hs] at hA ⊢
 refine Calls.callWith_builtin (by show (false || (backTo cpos (starEach es X.env)).any (·.1)) = false; rw [hplain] <;> rfl) (Calls.evalArgs_plain ?_)
 exact thn hA fun us s2 ⟨vs,H2,I2,r2,q2⟩=>hm pins s2 σ H2 x vs v us Q I2 r1 r2 q2
end
end L2
namespace L2
open PySem PySem.Spec PyProof.Rows
def MtM (X:Cx) (id:String) (r:V->List V->Hp->VK->Prop):Prop :=
 ∀ (pins:List (Addr × Obj)) (s:Shared) (σ:St) (H:Hp) (x:V) (xs:List V) (v:Value) (us:List Value) (Q:VK),Inv X pins σ H s->w8 x v->wg xs us->r x xs H Q ->
  wpAny (model X.prog X.w) X.A (call (.builtin id) (v :: us)) (EP X pins σ Q) X.xe s
theorem wg.one:∀ {x:V} {us:List Value},wg [x] us->∃ u,us = [u]/\w8 x u
 | _,_,.cons r .nil=>⟨_,rfl,r⟩
theorem wg.zero:∀ {us:List Value},wg [] us->us = []
 | _,.nil=>rfl
theorem wg.reverse {xs:List V} {us:List Value} (h:wg xs us):wg xs.reverse us.reverse:=by
 induction h with
 | nil=>exact .nil
 | cons r t ih=>rw [List.reverse_cons,List.reverse_cons]; exact wg.append ih (.cons r .nil)
theorem wg.rep {xs:List V} {us:List Value} (h:wg xs us):∀ k:Nat,wg (List.replicate k xs).flatten (List.replicate k us).flatten
 | 0=>.nil
 | k + 1=>by
  rw [List.replicate_succ,List.replicate_succ,List.flatten_cons,List.flatten_cons]
  exact wg.append h (wg.rep h k)
theorem yf3 (its:List Value):∀ (k:Nat) (acc:List Value),
  List.foldl (fun x1 x2=>x1 ++ x2) acc.toArray (List.replicate k its.toArray) = (acc ++ (List.replicate k its).flatten).toArray
 | 0,acc=>by simp
 | k + 1,acc=>by
  have e:acc.toArray ++ its.toArray = (acc ++ its).toArray:=by simp
  have e2:(acc ++ its) ++ (List.replicate k its).flatten = acc ++ (List.replicate (k + 1) its).flatten:=by
   rw [List.replicate_succ,List.flatten_cons,List.append_assoc]
  rw [<- e2,<- yf3 its k (acc ++ its),<- e,List.replicate_succ,List.foldl_cons]
section
variable {X:Cx} {pins:List (Addr × Obj)} {σ:St} {H:Hp} {s:Shared} {l b:Addr} {xs ys zs:List V}
theorem Inv.lset {its its':List Value} {n:Nat} {f:Array Value->Array Value} {t':Nat} (I:Inv X pins σ H s) (hH:H l = some (.lst xs))
  (e:s.heap.get? l = some { cls:=.type "list",data:=.seq its.toArray n }) (hf:f its.toArray = its'.toArray) (hv:wg ys its') (hz:ys.length <= sizeLine) :
  Inv X pins σ (upd H l (.lst ys)) { s with heap:=s.heap.update l (Obj.mapSeq f),toks:=t' }:=by
 have q:=PySem.IsL.update e f
 rw [hf] at q
 refine I.write (x:=l) (e:=l) (by rw [hH]; exact trivial) (.inl rfl) (fun b' u hb hu=>(Heap.get?_update_other s.heap (Obj.mapSeq f) (Ne.symm hb)).trans hu) ⟨_,q⟩ ?_
 exact ⟨hz,its',_,hv,q⟩
theorem Inv.lnew {its:List Value} {t':Nat} (I:Inv X pins σ H s) (hv:wg ys its) (hz:ys.length <= sizeLine) :
  Inv X pins σ (upd H s.heap.objs.size (.lst ys)) { s with heap:=s.heap.push { cls:=.type "list",data:=.seq its.toArray },toks:=t' } :=
 I.laid (fun _ _ q=>Heap.get?_push_of_some _ q) (Nat.le_refl _) ⟨hz,its,0,hv,Heap.get?_push_size _ rfl⟩
theorem Inv.fresh (I:Inv X pins σ H s):H s.heap.objs.size = none:=I.hok.fresh (Nat.le_refl _)
theorem Inv.lstM (I:Inv X pins σ H s) (hH:H l = some (.lst xs)):xs.length <= sizeLine/\∃ (its:List Value) (n:Nat),wg xs its/\xs.length = its.length/\s.heap.get? l = some { cls:=.type "list",data:=.seq its.toArray n }:=by
 obtain ⟨z,its,n,r,e⟩:=I.hok l _ hH
 exact ⟨z,its,n,r,r.length,e⟩
theorem yh9 {n:Nat} (h:n <= sizeLine):Builtin.List.listTooLong n = false:=by
 unfold Builtin.List.listTooLong
 exact decide_eq_false (by omega)
end
section
variable {X:Cx}
def yme:V->List V->Hp->VK->Prop:=fun x vs H Q=>∃ l xs y,x = .ref l/\vs = [y]/\H l = some (.lst xs)/\xs.length < sizeLine/\Q .non (upd H l (.lst (xs ++ [y])))
theorem wo:MtM X "list.append" yme:=by
 intro pins s σ H x vs v us Q I rx rv h
 obtain ⟨l,xs,y,rfl,rfl,hH,hz,q⟩:=h
 cases rx
 obtain ⟨u,rfl,ru⟩:=rv.one
 obtain ⟨z,its,n,r,hl,e⟩:=I.lstM hH
 refine call_meets F.slot_list_append ⟨_,e,rfl⟩ F.entry_list_append (F.args_list_append_2 _ _) (PySem.list_append l its.toArray n u (by rw [List.size_toArray]; omega)) ⟨e,?_⟩
 refine ⟨.non,_,I.lset (its':=its ++ [u]) hH e (by simp) (r.append (.cons ru .nil)) ?_,rfl,q⟩
 rw [List.length_append,List.length_singleton]
 omega
def ys0:V->List V->Hp->VK->Prop:=fun x vs H Q=>∃ l b xs zs,x = .ref l/\vs = [.ref b]/\H l = some (.lst xs)/\H b = some (.lst zs)/\xs.length + zs.length <= sizeLine/\Q .non (upd H l (.lst (xs ++ zs)))
theorem ykx:MtM X "list.extend" ys0:=by
 intro pins s σ H x vs v us Q I rx rv h
 obtain ⟨l,b,xs,zs,rfl,rfl,hH,hB,hz,q⟩:=h
 cases rx
 obtain ⟨u,rfl,ru⟩:=rv.one
 cases ru
 obtain ⟨z,its,n,r,hl,e⟩:=I.lstM hH
 obtain ⟨z2,its2,n2,r2,hl2,e2⟩:=I.lstM hB
 have hsz:its.toArray.size + its2.toArray.size <= sizeLine:=by rw [List.size_toArray,List.size_toArray]; omega
 have hlong:¬ (!its.toArray.isEmpty && Builtin.List.listTooLong (its.toArray.size + its2.toArray.size)) = true:=by
  rw [yh9 hsz,Bool.and_false]
  exact Bool.false_ne_true
 refine call_meets F.slot_list_extend ⟨_,e,rfl⟩ F.entry_list_extend (F.args_list_extend_2 _ _)
  (AutoSeq1.list_extend_list_list_0 l its.toArray n b its2.toArray n2 hlong (by rw [List.size_toArray]; omega) (by omega)) ⟨e,e2,?_⟩
 refine ⟨.non,_,I.lset (its':=its ++ its2) hH e (by simp) (r.append r2) ?_,rfl,q⟩
 rw [List.length_append]
 omega
def yhy:V->List V->Hp->VK->Prop:=fun x vs H Q=>∃ l xs,x = .ref l/\vs = []/\H l = some (.lst xs)/\Q .non (upd H l (.lst xs.reverse))
theorem yjt:MtM X "list.reverse" yhy:=by
 intro pins s σ H x vs v us Q I rx rv h
 obtain ⟨l,xs,rfl,rfl,hH,q⟩:=h
 cases rx
 have hus:=rv.zero
 subst hus
 obtain ⟨z,its,n,r,hl,e⟩:=I.lstM hH
 refine call_meets F.slot_list_reverse ⟨_,e,rfl⟩ F.entry_list_reverse (F.args_list_reverse_1 _) (AutoSeq1.list_reverse_list_0 l its.toArray n (by rw [List.size_toArray]; omega)) ⟨e,?_⟩
 refine ⟨.non,_,I.lset (its':=its.reverse) hH e (by simp) r.reverse ?_,rfl,q⟩
 rw [List.length_reverse]
 omega
def vb5:R2:=fun x y H Q=>∃ l b xs zs,x = .ref l/\y = .ref b/\H l = some (.lst xs)/\H b = some (.lst zs)/\xs.length + zs.length <= sizeLine/\∀ p,H p = none->Q (.ref p) (upd H p (.lst (xs ++ zs)))
theorem ybc:OpR X (binaryOp .Add) vb5:=by
 intro pins s σ H x y v u Q I rx ry h
 obtain ⟨l,b,xs,zs,rfl,rfl,hH,hB,hz,q⟩:=h
 cases rx
 cases ry
 obtain ⟨z,its,n,r,hl,e⟩:=I.lstM hH
 obtain ⟨z2,its2,n2,r2,hl2,e2⟩:=I.lstM hB
 refine PySem.P.add_list e e2 ?_ (by rw [List.size_toArray,List.size_toArray]; omega)
 have ea:its.toArray ++ its2.toArray = (its ++ its2).toArray:=by simp
 rw [ea]
 exact ⟨.ref _,_,I.lnew (t':=s.toks) (r.append r2) (by rw [List.length_append]; omega),rfl,q _ I.fresh⟩
def vbt:R2:=fun x y H Q=>∃ l k xs,x = .ref l/\y = .int k/\H l = some (.lst xs)/\-(2 ^ 63) <= k/\k < 2 ^ 63/\xs.length * k.toNat <= sizeLine /\
 ∀ p,H p = none->Q (.ref p) (upd H p (.lst (List.replicate k.toNat xs).flatten))
theorem ytb {α:Type} (xs:List α) (k:Nat):(List.replicate k xs).flatten.length = k * xs.length:=by
 induction k with
 | zero=>simp
 | succ k ih=>rw [List.replicate_succ,List.flatten_cons,List.length_append,ih,Nat.succ_mul,Nat.add_comm]
theorem yjb:OpR X (binaryOp .Mult) vbt:=by
 intro pins s σ H x y v u Q I rx ry h
 obtain ⟨l,k,xs,rfl,rfl,hH,h1,h2,hz,q⟩:=h
 cases rx
 obtain ⟨t,rfl⟩:=ry
 obtain ⟨z,its,n,r,hl,e⟩:=I.lstM hH
 have hlen:its.toArray.size * k.toNat <= sizeLine:=by rw [List.size_toArray,<- hl]; exact hz
 have hcap:¬ its.toArray.size * k.toNat > (2 ^ 63 - 1) / 8:=by
  have:(sizeLine:Nat) <= (2 ^ 63 - 1) / 8:=by decide
  omega
 have hfit:¬ (!Builtin.List.listFitsIndex k) = true:=by
  rw [fitsIndex_both h1 h2]
  exact Bool.false_ne_true
 have hlong:¬ Builtin.List.listTooLong (its.toArray.size * k.toNat) = true:=by
  rw [yh9 hlen]
  exact Bool.false_ne_true
 have hnew:List.foldl (fun x1 x2=>x1 ++ x2) #[] (List.replicate (if its.toArray.isEmpty = true then 0 else k.toNat) its.toArray) = (List.replicate k.toNat its).flatten.toArray:=by
  have f0:∀ m:Nat,List.foldl (fun x1 x2=>x1 ++ x2) #[] (List.replicate m its.toArray) = (List.replicate m its).flatten.toArray:=fun m=>by
   have:=yf3 its m []
   rw [List.nil_append] at this
   exact this
  rw [f0]
  cases its with
  | nil=>simp
  | cons a r'=>rw [if_neg (by simp)]
 refine wpAny_binaryOp_repeat_ref (T:="list") (U:="int") (by decide) ⟨_,e,rfl⟩ (fun s'=>typeIs_int s' k t) noFill_list_mul F.fills_int_mul F.slot_int_rmul repeat_list F.slot_int_index.lookup
  (call_meets F.slot_int_rmul (typeIs_int s k t) F.entry_int_rmul (F.args_int_rmul_2 _ _) (int___rmul___int_list k t l its.toArray n)
   ⟨e,rfl,⟨_,e,rfl⟩,call_meets F.slot_list_mul ⟨_,e,rfl⟩ F.entry_list_mul (F.args_list_mul_2 _ _) (AutoListH.list___mul___list_int_3 l its.toArray n k t hfit hcap hlong) ⟨e,?_⟩⟩)
 rw [hnew]
 exact ⟨.ref _,_,I.lnew (t':=s.toks) (r.rep k.toNat) (by rw [ytb,Nat.mul_comm]; exact hz),rfl,q _ I.fresh⟩
end
section
variable {prog:Program} {w:World} {A:Around} {E:Value->Shared->Prop} {s:Shared}
end
section
variable {X:Cx}
end
end L2
namespace Att
open PySem PySem.W PySem.Calls PyProof.Rows
theorem yax {P:Params} {h:Heap}:∀ (ns:List Int) (vs:List Value),WellAll P h vs (ns.map WData.int)->IntsAre vs ns:=by
 intro ns
 induction ns with
 | nil =>
  intro vs w
  rw [List.map_nil] at w
  cases w
  exact .nil
 | cons n ns ih =>
  intro vs w
  rw [List.map_cons] at w
  cases w with
  | cons a b =>
   cases a
   exact .cons _ _ (ih _ b)
theorem yku {l:OpenLaw} {n:Nat} (hn:l.most = some n) {P:Params} {h:Heap} {args:List WData} {vals:List Value}
  (hpre:l.row.toRowW.claim.pre args = true) (hwl:WellAll P h vals args) :
  ∃ a vs ns,vals = [Value.ref a]/\args = [WData.list (ns.map WData.int)]/\h.get? a = some { cls:=.type "list",data:=.seq vs.toArray }/\IntsAre vs ns/\ns.length <= n:=by
 have hsh:WShape.hasAll [] args [.list .int] = true:=(pre_splitW hpre).1
 have hc:l.pre.holds [] { args:=args } = true:=(pre_splitW hpre).2
 obtain ⟨d,r,rfl,h1,h2⟩:=hasAllW_cons hsh
 obtain rfl:=hasAllW_nil h2
 obtain ⟨xs,rfl,h3⟩:=hasW_list h1
 obtain ⟨ns,rfl⟩:=items_int h3
 have hlen:ns.length <= n:=by
  unfold OpenLaw.pre at hc
  have h4:(WTm.not (.lt (.lit (.int (n:Int))) (.len (.arg 0)))).holds [] { args:=[.list (ns.map .int)] } = true:=by
   have h4:=(holds_andW hc).1
   rw [hn] at h4
   exact h4
  have h5:=condW_of h4 (w_not (w_lt w_lit (w_len_list (w_arg rfl))))
  rw [List.length_map] at h5
  refine Nat.le_of_not_lt fun q=>?_
  have q':(n:Int) < ((ns.length:Nat):Int):=by omega
  first
   | (rw [decide_eq_true q'] at h5; exact absurd h5 (by decide))
   | (simp at h5; omega)
 cases hwl with
 | cons w1 w2 =>
  cases w2
  cases w1 with
  | list ho hall=>exact ⟨_,_,ns,rfl,rfl,ho,yax ns _ hall,hlen⟩
theorem yk5 (l:OpenLaw) (args:List WData):l.row.toRowW.claim.post args (.bool true) args = true :=
 postW_of (r:=l.row.toRowW) (X:=(true == true))
  (show WShape.has [] (.bool true) .bool = true by first | rfl | decide | simp [WShape.has,WShape.arms,WShape.armsAll])
  (show (WTm.eq .res (.lit (.bool true))).value [] { args:=args,res:=some (.bool true),after:=args } = some (.bool (true == true)) from w_eq_bool (w_res rfl) w_lit) rfl
theorem attach_call {l:OpenLaw} {n:Nat} {q:Program} {loose:List Str} {XP:(Str->Option Value)->Heap->Prop} {YP:World->Heap->Prop} {d:DefRec}
  (hn:l.most = some n) (hdf:d.params.defaults = [])
  (call:∀ (w:World) (s₀ s₁:Shared) (mg mb:Str->Option Value) (fa:Addr) (o:Obj) (pm cd doc:Value) (a:Addr) (vs:List Value) (ns:List Int),
   Ground q loose [] XP w s₀ mg mb s₁.heap->YP w s₁.heap ->
   s₁.heap.get? fa = some o->o.data = .func (docDef d.name d.params d.body d.scope pm cd doc)->s₁.heap.CodeRec cd d.name->mg d.name = some (.ref fa) ->
   s₁.heap.get? a = some { cls:=.type "list",data:=.seq vs.toArray }->IntsAre vs ns->ns.length <= n->s₁.gens = #[] ->
   codeAny (model l.prog w) callerA (.call (.ref fa) ⟨[.ref a],[]⟩) (fun r s'=>r = .ok (.ret (.bool true))/\OldK s₁.heap s'.heap/\s'.os = s₁.os/\AllBare s'.gens) s₁) :
  WalkO q loose XP YP l.row.toRowW d [] (fun f vs=>PySem.call f vs):=by
 intro w s₀ s₁ mg mb G Y fa o pm cd doc dV kV ho hd hcd hD hmg hg args vals as hpre hlay hrd hwl hlo
 obtain rfl:dV = .none:=Dflts.none hD hdf
 obtain rfl:kV = .none:=Dflts.noKw hD
 obtain ⟨a,vs,ns,rfl,rfl,hobj,hints,hlen⟩:=yku hn hpre hwl
 refine enter_call (codeAny_mono (call w s₀ s₁ mg mb fa o pm cd doc a vs ns G Y ho (fd_plain hd) hcd hmg hobj hints hlen hg) fun r s' hq=>?_)
 obtain ⟨rfl,h2,h3,h4⟩:=hq
 exact ⟨.inl ⟨.bool true,.bool true,[],rfl,fun _=>rfl,.bool true,yk5 l _,fun _=>⟨List.Pairwise.nil,fun _ hm=>(nomatch hm)⟩⟩,h2,h3,h4⟩
section
variable {prog:Program} {w:World} {A:Around} {E:Value->Shared->Prop} {s:Shared} {K:Frag}
def va4 (h:Heap) (L d:Addr):List (Addr × Obj):=(List.range h.objs.size).filterMap fun a=>if a = L\/a = d then none else (h.get? a).map fun o=>(a,o)
end
end Att
namespace L2
open PySem PySem.Spec PyProof.Rows
theorem yf4:∀ {vs:List Value} {ns:List Int},IntsAre vs ns->wg (ns.map V.int) vs
 | _,_,.nil=>.nil
 | _,_,.cons n t h=>.cons ⟨t,rfl⟩ (yf4 h)
def vaz (H:Hp):Prop:=∀ b,H b = none\/∃ o xs,H b = some (.frz o (.lst xs))
theorem yoi {P:Program} {w:World} {K:W.Frag} {mg mb:Str->Option Value} {CX:CXT} {k:Nat} {fa a:Addr} {fd:FuncData} {x:Str} {sp:Sp} {s₁:Shared} {vs:List Value} {ns:List Int}
  (KX:K.In s₁.heap) (hns:s₁.heap.Ns mainGlobals mg) (hb:s₁.heap.Ns builtinsNs mb) (hbb:∀ x:Str,x ≠ "__name__"->mb x = bootBuiltins x) (hlim:s₁.heap.NoLimit) (hg:s₁.gens = #[])
  (ha:s₁.heap.get? a = some { cls:=.type "list",data:=.seq vs.toArray }) (hi:IntsAre vs ns) (hl:ns.length <= sizeLine) (hr:z5 k callerA)
  (F:∀ base:Heap,K.In base->base.Ns mainGlobals mg->we P w K mg base CX k fa fd [x] sp) (hbind:∀ (s:Shared) (u:Value),BindsTo s fd ⟨[u],[]⟩ [(x,u)])
  (hsp:∀ H:Hp,vaz H->SqL K H a (ns.map V.int)->sp [.ref a] H (fun v _=>v = .bl true) fun _ _ _=>False)
  (hCX:∀ H e s',CX [] H s₁ (fun _ _ _=>False) e s'->False) :
  codeAny (model P w) callerA (.call (.ref fa) ⟨[.ref a],[]⟩) (fun r s'=>r = .ok (.ret (.bool true))/\OldK s₁.heap s'.heap/\s'.os = s₁.os/\AllBare s'.gens) s₁:=by
 have rv:=yf4 hi
 have lenV:=hi.length
 have core:∀ H:Hp,vaz H->SqL K H a (ns.map V.int)->HOk P w H s₁.heap->(∀ b,H b ≠ none->b = a)->(H a ≠ none->K.lookup a = none) ->
   codeAny (model P w) callerA (.call (.ref fa) ⟨[.ref a],[]⟩) (fun r s'=>r = .ok (.ret (.bool true))/\OldK s₁.heap s'.heap/\s'.os = s₁.os/\AllBare s'.gens) s₁:=by
  intro H hO hS hok hA hK
  have base_of:∀ {b:Addr} {o:Obj},s₁.heap.get? b = some o->H b = none->(ypy s₁.heap H).get? b = some o:=fun e n=>yny e n
  have noA:∀ {b:Addr} {o:Obj} {es:Array DictEntry} {ep:Nat},s₁.heap.get? b = some o->o.data = .dict es ep->H b = none:=fun {b o es ep} e d=>by
   cases q:H b with
   | none=>rfl
   | some u =>
    have e':b = a:=hA b (by rw [q]; simp)
    subst e'
    rw [ha] at e; cases e
    have d':Data.seq vs.toArray _ = Data.dict es ep:=d
    cases d'
  have nsK:∀ {b:Addr} {m:Str->Option Value},s₁.heap.Ns b m->(ypy s₁.heap H).Ns b m:=fun {b m} ⟨o,es,ep,e,d,r⟩=>⟨o,es,ep,base_of e (noA e d),d,r⟩
  have hKb:K.In (ypy s₁.heap H):=fun b o e=>base_of (KX b o e) (by
   cases q:H b with
   | none=>rfl
   | some u =>
    have e':b = a:=hA b (by rw [q]; simp)
    subst e'
    rw [hK (by rw [q]; simp)] at e; cases e)
  have hM:Mod K mg (ypy s₁.heap H):=⟨hKb,nsK hns,⟨mb,nsK hb,hbb⟩,let ⟨mc,h1,h2⟩:=hlim; ⟨mc,nsK h1,h2⟩⟩
  have e0:yud P w K mg (ypy s₁.heap H) callerA [] s₁ H:=⟨rfl,hM,fun b o e=>yr0 e,Nat.le_of_eq (ylc _ _),trivial,fun b hb=>absurd (show b ∈ ([]:List Addr) from hb) (by simp),hok,.of_eq hg⟩
  refine codeAny_mono ((F _ hKb (nsK hns)).run callerA [] s₁ H ⟨[.ref a],[]⟩ [.ref a] [.ref a] _ _ hr e0 (hbind s₁ (.ref a)) (.cons rfl .nil) (hsp H hO hS)) fun r s' h=>?_
  cases r with
  | error e=>exact (hCX H e s' h).elim
  | ok fl =>
   cases fl with
   | next=>exact False.elim h
   | brk=>exact False.elim h
   | cont=>exact False.elim h
   | ret u =>
    obtain ⟨v,H',os,bare,un,hok',r',q⟩:=h
    have q':v = .bl true:=q
    subst q'
    obtain rfl:u = Value.bool true:=r'
    refine ⟨rfl,OldK.of_keep fun b o e=>?_,os,bare⟩
    cases q:H b with
    | none=>exact un.keep b o e q (by intro z; exact absurd (show b ∈ ([]:List Addr) from z) (by simp)) (by simp)
    | some u =>
     rcases hO b with z | ⟨ob,xs,z⟩
     ·rw [q] at z; cases z
     ·have z2:=un.frzs b ob _ z
      obtain ⟨e1,_⟩:=hok b _ z
      obtain ⟨e2,_⟩:=hok' b _ z2
      rw [e] at e1; cases e1
      exact e2
 cases hk:K.lookup a with
 | some o =>
  have e:=KX a o hk
  rw [ha] at e
  cases e
  refine core (fun _=>none) (fun _=>.inl rfl) (.inr ⟨_,vs.toArray,_,hk,rfl,rfl,rfl,by rw [List.size_toArray,lenV]; exact hl,by simpa using rv⟩) (fun b u z=>by have z':(none:Option HO) = some u:=z; cases z') (fun b z=>absurd rfl z) fun z=>absurd rfl z
 | none =>
  refine core (fun b=>if b = a then some (.frz { cls:=.type "list",data:=.seq vs.toArray } (.lst (ns.map V.int))) else none) (fun b=>?_) (.inl (.inr ⟨{ cls:=.type "list",data:=.seq vs.toArray },if_pos rfl⟩)) (fun b u z=>?_) (fun b z=>?_) fun _=>hk
  ·by_cases hb:b = a
   ·exact .inr ⟨_,_,if_pos hb⟩
   ·exact .inl (if_neg hb)
  ·by_cases hb:b = a
   ·have z':=(if_pos hb).symm.trans z
    cases z'
    subst hb
    exact ⟨ha,by rw [List.length_map]; exact hl,vs,_,rv,ha⟩
   ·have z':=(if_neg hb).symm.trans z
    cases z'
  ·by_cases hb:b = a
   ·exact hb
   ·exact absurd (if_neg hb) z
end L2
namespace L2
open PySem PySem.Spec PyProof.Rows
theorem walk_of {l:W.OpenLaw} {n k:Nat} {q:Program} {loose:List Str} {XP:(Str->Option Value)->Heap->Prop} {YP:World->Heap->Prop} {d:DefRec} {K:Params->W.Frag} {CX:World->CXT} {sp:World->Sp} {x:Str}
  (hn:l.most = some n) (hn2:n <= sizeLine) (hdf:d.params.defaults = []) (hr:z5 k callerA)
  (hY:∀ (w:World) (h:Heap),YP w h->(K w.params).In h)
  (F:∀ (w:World) (mg:Str->Option Value) (fa:Addr) (h:Heap),(K w.params).In h->h.Ns mainGlobals mg->mg d.name = some (.ref fa) ->
   ∃ fd:FuncData,(∀ (s:Shared) (u:Value),BindsTo s fd ⟨[u],[]⟩ [(x,u)]) /\
    ∀ base:Heap,(K w.params).In base->base.Ns mainGlobals mg->we l.prog w (K w.params) mg base (CX w) k fa fd [x] (sp w))
  (hsp:∀ (w:World) (H:Hp) (a:Addr) (ns:List Int),ns.length <= n->vaz H->SqL (K w.params) H a (ns.map V.int)->sp w [.ref a] H (fun v _=>v = .bl true) fun _ _ _=>False)
  (hCX:∀ (w:World) (H:Hp) (s:Shared) (e:Value) (s':Shared),CX w [] H s (fun _ _ _=>False) e s'->False) :
  W.WalkO q loose XP YP l.row.toRowW d [] (fun f vs=>PySem.call f vs):=by
 refine Att.attach_call hn hdf fun w s₀ s₁ mg mb fa o pm cd doc a vs ns G Y ho hd hcd hmg hobj hints hlen hg=>?_
 have KX:=hY w _ Y
 obtain ⟨fd,hb,hF⟩:=F w mg fa _ KX G.T.g hmg
 exact yoi KX G.T.g G.T.b G.T.builtins G.T.nolimit hg hobj hints (Nat.le_trans hlen hn2) hr hF hb (fun H hO hS=>hsp w H a ns hlen hO hS) fun H e s'=>hCX w H s₁ e s'
end L2
namespace L2
open PySem PySem.Spec PyProof.Rows
def vp (s:Stmt) (j:Nat):Stmt:=match s with
 | .ClassDef _ _ _ body _ _ _ _ _ _ _=>body.getD j (.Pass ⟨0,0,0,0⟩)
 | _=>.Pass ⟨0,0,0,0⟩
def yh (s:Stmt):Arguments:=match s with
 | .FunctionDef _ a _ _ _ _ _ _ _ _=>a
 | _=>{ posonlyargs:=[],args:=[],vararg:=none,kwonlyargs:=[],kw_defaults:=[],kwarg:=none,defaults:=[] }
def yf (s:Stmt):List Stmt:=match s with
 | .FunctionDef _ _ b _ _ _ _ _ _ _=>b
 | _=>[]
def ya (s:Stmt):Scope:=match s with
 | .FunctionDef _ _ _ _ _ _ sc _ _ _=>sc
 | _=>{ kind:=.function,names:=[],isGenerator:=false,isCoroutine:=false }
abbrev CX0:CXT:=fun _ _ _ _ _ _=>False
abbrev E0:XK:=fun _ _ _=>False
theorem vf {X:Cx}:yak CX0 X E0:=fun _ _ _ _ _ _ _ h=>h.elim
structure Fun (K:W.Frag) (x qual:Str) (st:Stmt) (f:Addr) (fd:FuncData):Prop where
 ex:∃ (oc:Value) (od:Option Addr) (kV doc pm:Value) (an:Option Addr) (cdv ct:Value) (osl:Array (Option Value)),
  fd = W.fnOf x qual (yh st) (yf st) (ya st) .none kV doc pm an cdv ct/\K.lookup f = some ⟨oc,od,.func fd,osl⟩/\W.codeIn K cdv qual = true
 kp:W.keepIn K (.ref f) = true
section
variable {P:Program} {w:World} {K:W.Frag} {mg:Str->Option Value} {base:Heap}
theorem Fun.ok {x qual:Str} {st:Stmt} {f:Addr} {fd:FuncData} {N ps:List Str} {k:Nat} {sp:Sp} (F:Fun K x qual st f fd) (S:yn N ps (ya st)) (len:∀ vs H Q E,sp vs H Q E->vs.length = ps.length)
  (hbody:∀ (cdv:Value) (A:Around) (outer:List Env) (s:Shared) (H:Hp) (vs:List V) (Q:VK) (E:XK),z5 k (A.deeper (envOfC qual (ya st) s.heap.objs.size f cdv))->sp vs H Q E ->
   ∃ t,PSs (wc CX0 P w K mg base N qual (ya st) f cdv A outer s H E).nox (yf st) t/\t { nx:=fun _ H'=>Q .non H',rt:=Q } (yad N vs) H):we P w K mg base CX0 (k + 1) f fd ps sp:=by
 obtain ⟨oc,od,kV,doc,pm,an,cdv,ct,osl,rfl,lk,hcd⟩:=F.ex
 refine ypf lk hcd S len fun A outer s H vs Q E hr hsp=>?_
 obtain ⟨t,h,q⟩:=hbody cdv A outer s H vs Q E hr hsp
 exact ⟨t,h.nox,q⟩
theorem Fun.binds {x qual:Str} {st:Stmt} {f:Addr} {fd:FuncData} {ps:List Str} (F:Fun K x qual st f fd)
  (h:∀ (kV doc pm:Value) (an:Option Addr) (cdv ct:Value) (us:List Value),us.length = ps.length->bindArgs (W.fnOf x qual (yh st) (yf st) (ya st) .none kV doc pm an cdv ct) ⟨us,[]⟩ = pure (ps.zip us)):y9 K fd ps []:=by
 obtain ⟨oc,od,kV,doc,pm,an,cdv,ct,osl,rfl,lk,hcd⟩:=F.ex
 exact .all (h kV doc pm an cdv ct)
theorem yx {x qual:Str} {st:Stmt} {f:Addr} {oc:Value} {od an:Option Addr} {osl:Array (Option Value)} {kV doc pm cdv ct:Value} (l:K.lookup f = some ⟨oc,od,.func (W.fnOf x qual (yh st) (yf st) (ya st) .none kV doc pm an cdv ct),osl⟩)
  (c:W.codeIn K cdv qual = true) (k:W.keepIn K (.ref f) = true):Fun K x qual st f (W.fnOf x qual (yh st) (yf st) (ya st) .none kV doc pm an cdv ct):=⟨⟨oc,od,kV,doc,pm,an,cdv,ct,osl,rfl,l,c⟩,k⟩
end
theorem yt3 {A:Around} {k:Nat} (hr:z5 k A):A.units + 1 < cLine:=Nat.lt_of_le_of_lt (Nat.add_le_add_left (by decide:1 <= 64) _) hr.units
section
variable {X:Cx}
theorem pv (i:Nat) {x:Str} {pos:Pos} (hN:X.N[i]? = some x:=by rfl) (hv:Vis X.env.scope x:=by first | exact Or.inl rfl | exact Or.inr (Or.inl rfl) | exact Or.inr (Or.inr rfl)) (hd:(x == ("__debug__":Str)) = false:=by decide)
  (hcd:(x == ("__classdict__":Str)) = false:=by decide):PE X (.Name x pos) (vax i):=yv2 hN hv hd hcd
end
theorem yno {A B:Prop} (h:B):if false = true then A else B:=by
 rw [if_neg Bool.false_ne_true]
 exact h
theorem yps {A B:Prop} (h:A):if true = true then A else B:=by
 rw [if_pos rfl]
 exact h
def vm (H H':Hp):Prop:=∀ b o,H b = some o->H' b = some o
theorem vm.refl (H:Hp):vm H H:=fun _ _ h=>h
theorem vm.trans {H H1 H2:Hp} (a:vm H H1) (b:vm H1 H2):vm H H2:=fun c o h=>b c o (a c o h)
theorem vm.free {H H':Hp} (e:vm H H') {l:Addr} (h:H' l = Option.none):H l = Option.none:=by
 cases q:H l with
 | none=>rfl
 | some o =>
  rw [e l o q] at h
  cases h
theorem vm.seq {K:W.Frag} {H H':Hp} {a:Addr} {xs:List V} (e:vm H H') (h:SqL K H a xs):SqL K H' a xs:=by
 rcases h with (h | ⟨o,h⟩) | h
 ·exact .inl (.inl (e _ _ h))
 ·exact .inl (.inr ⟨o,e _ _ h⟩)
 ·exact .inr h
end L2
namespace L2
open PySem PySem.Spec PyProof.Rows
section
variable {X:Cx}
theorem vx:ybe X (.builtin "isinstance") (fun xs H Q=>∃ x cv t c k,xs = [x,cv]/\w8 cv c/\(∀ u,w8 cv u->u = c)/\xz X.K H x t/\W.kitOne X.K t c = some k/\Q (.bl k) H):=by
 intro pins s σ H xs us Q I r h
 obtain ⟨x,cv,t,c,k,rfl,_,hc,ty,e,q⟩:=h
 obtain ⟨u,u',rfl,rx,rc⟩:=yua r
 obtain rfl:=hc u' rc
 exact yk6 I rx ty e fun tk=>⟨.bl k,H,I.tok tk,rfl,q⟩
theorem ur {x:Str} {T:String} {pos:Pos} (hg:Gl X x) (hm:X.mg x = none) (hv:bootBuiltins x = some (.type T)) (hn:x ≠ "__name__":=by decide) (hd:(x == ("__debug__":Str)) = false:=by decide):PE X (.Name x pos) (tC (.ty T)):=yts hg hm hv rfl hn hd
theorem vq {x:Str} {i:Int} {t:Tok} {pos:Pos} (hg:Gl X x) (hm:X.mg x = some (.int i t)) (hd:(x == ("__debug__":Str)) = false:=by decide):PE X (.Name x pos) (tC (.int i)):=yma hg hm ⟨t,rfl⟩ hd
theorem yhg {x:Str} {C:Addr} {pos:Pos} (hg:Gl X x) (hm:X.mg x = some (.ref C)) (hd:(x == ("__debug__":Str)) = false:=by decide):PE X (.Name x pos) (tC (.ref C)):=yma hg hm rfl hd
mutual
inductive RdV (K:W.Frag) (H:Hp):V->PyData->Prop
 | non:RdV K H .non .none
 | bl (b):RdV K H (.bl b) (.bool b)
 | int (i):RdV K H (.int i) (.int i)
 | str (x):RdV K H (.str x) (.str x)
 | lst {a xs ds}:SqL K H a xs->ykk K H xs ds->RdV K H (.ref a) (.list ds)
 | tup {a xs ds}:SqT K H a xs->ykk K H xs ds->RdV K H (.ref a) (.tuple ds)
inductive ykk (K:W.Frag) (H:Hp):List V->List PyData->Prop
 | nil:ykk K H [] []
 | cons {x xs d ds}:RdV K H x d->ykk K H xs ds->ykk K H (x :: xs) (d :: ds)
end
mutual
theorem RdV.reads {pins:List (Addr × Obj)} {σ:St} {H:Hp} {s:Shared} (I:Inv X pins σ H s):∀ {x:V} {d:PyData} {u:Value},RdV X.K H x d->w8 x u->∃ as,Reads s.heap u d as
 | _,_,_,.non,r=>by cases r; exact ⟨_,.none⟩
 | _,_,_,.bl _,r=>by cases r; exact ⟨_,.bool _⟩
 | _,_,_,.int _,r=>by obtain ⟨t,rfl⟩:=r; exact ⟨_,.int _ _⟩
 | _,_,_,.str _,r=>by obtain ⟨t,rfl⟩:=r; exact ⟨_,.str _ _⟩
 | _,_,_,.lst hq hs,r=>by
  cases r
  obtain ⟨its,rv,⟨o,n,h1,h2,h3,h4⟩,hz⟩:=I.list hq
  obtain ⟨as,ra⟩:=ykk.reads I hs rv
  exact ⟨_,.list h1 h2 h4 (by simpa using ra)⟩
 | _,_,_,.tup hq hs,r=>by
  cases r
  obtain ⟨its,rv,⟨o,h1,h2,n,h4⟩,hz⟩:=I.tuple hq
  obtain ⟨as,ra⟩:=ykk.reads I hs rv
  exact ⟨_,.tuple h1 h2 h4 (by simpa using ra)⟩
theorem ykk.reads {pins:List (Addr × Obj)} {σ:St} {H:Hp} {s:Shared} (I:Inv X pins σ H s):∀ {xs:List V} {ds:List PyData} {us:List Value},ykk X.K H xs ds->wg xs us->∃ as,ReadsAll s.heap us ds as
 | _,_,_,.nil,.nil=>⟨_,.nil⟩
 | _,_,_,.cons h hs,.cons r rs=>by
  obtain ⟨as,ra⟩:=RdV.reads I h r
  obtain ⟨bs,rb⟩:=ykk.reads I hs rs
  exact ⟨_,.cons ra rb⟩
end
def yzh (K:W.Frag) (g:Bool->Bool):R2:=fun x y H Q=>∃ d e,RdV K H x d/\RdV K H y e/\SeqAt.shaped d = true/\SeqAt.shaped e = true/\Q (.bl (g (PyData.eqv d e))) H
theorem ymo (hu:X.A.units + 64 < cLine):OpR X (compareOp .Eq) (yzh X.K fun b=>b):=by
 intro pins s σ H x y v u Q I rx ry h
 obtain ⟨d,e,h1,h2,s1,s2,q⟩:=h
 obtain ⟨as,ra⟩:=h1.reads I rx
 obtain ⟨bs,rb⟩:=h2.reads I ry
 exact eq_dataH ra rb s1 s2 hu ⟨.bl _,H,I,rfl,q⟩
theorem ym1 (hu:X.A.units + 64 < cLine):OpR X (compareOp .NotEq) (yzh X.K fun b=>!b):=by
 intro pins s σ H x y v u Q I rx ry h
 obtain ⟨d,e,h1,h2,s1,s2,q⟩:=h
 obtain ⟨as,ra⟩:=h1.reads I rx
 obtain ⟨bs,rb⟩:=h2.reads I ry
 exact ne_dataH ra rb s1 s2 hu ⟨.bl _,H,I,rfl,q⟩
theorem jl {K:W.Frag} {H:Hp}:∀ ns:List Int,ykk K H (ns.map V.int) (ns.map PyData.int)
 | []=>.nil
 | n :: r=>.cons (.int n) (jl r)
theorem ja:∀ ns:List Int,PyData.canLayAll0 (ns.map PyData.int) = true
 | []=>rfl
 | _ :: r=>by simp [PyData.canLayAll0,PyData.canLay0,ja r]
theorem j9:∀ ns:List Int,PyData.depthAll (ns.map PyData.int) = 0
 | []=>rfl
 | _ :: r=>by simp [PyData.depthAll,PyData.depth,j9 r]
theorem ybo (ns:List Int):SeqAt.shaped (.list (ns.map PyData.int)) = true:=by
 simp [SeqAt.shaped,PyData.canLay0,PyData.depth,ja,j9]
theorem jb:∀ ns ms:List Int,PyData.eqvAll (ns.map PyData.int) (ms.map PyData.int) = decide (ns = ms)
 | [],[]=>by simp [PyData.eqvAll]
 | [],_ :: _=>by simp [PyData.eqvAll]
 | _ :: _,[]=>by simp [PyData.eqvAll]
 | a :: r,b :: t=>by
  simp only [List.map_cons,PyData.eqvAll,PyData.eqv,jb r t]
  by_cases h:a = b <;> by_cases h':r = t <;> simp [h,h']
theorem yc6 {K:W.Frag} {g:Bool->Bool} {H:Hp} {Q:VK} {a b:Addr} (ns ms:List Int) (ha:SqL K H a (ns.map V.int)) (hb:SqL K H b (ms.map V.int)) (h:Q (.bl (g (decide (ns = ms)))) H):yzh K g (.ref a) (.ref b) H Q :=
 ⟨_,_,.lst ha (jl ns),.lst hb (jl ms),ybo ns,ybo ms,by rw [PyData.eqv,jb]; exact h⟩
def yz7 (_ j:Int):Prop:=0 < j/\j < 2 ^ 200
theorem vk:OpR X (binaryOp .FloorDiv) (rI yz7 fun i j=>.int (i / j)):=opI fun i j _ _ _ _ _ hc q=>by
 obtain ⟨h1,h2⟩:=hc
 refine floordiv_int (by omega) ?_ (.inl (PyProof.noPylong_of_log2 ?_))
 ·rw [Int.fdiv_eq_ediv_of_nonneg _ (by omega)]; exact q
 ·have e:j.natAbs < 2 ^ 200:=by omega
  have e':j.natAbs ≠ 0:=by omega
  have:=(Nat.log2_lt e').mpr e
  omega
def vba (t:TS):TS:=fun D σ H=>∃ M:St->Hp->Prop,t { D with nx:=M } σ H/\∀ σ' H',M σ' H'->D.nx σ' H'
theorem yf8 {st:Stmt} {t:TS} (h:PS X st t):PS X st (vba t):=by
 intro pins s σ H D I ⟨M,h1,h2⟩
 refine thn (h pins s σ H { D with nx:=M } I h1) fun f s1 q=>?_
 cases f with
 | next =>
  obtain ⟨σ',H',I',q⟩:=q
  exact ⟨σ',H',I',h2 σ' H' q⟩
 | ret v=>exact q
 | brk=>exact q
 | cont=>exact q
end
def vi (nx:St->Hp->Prop) (σ:St) (H:Hp):Prop:=nx σ H
section
variable {K:W.Frag} {σ:St} {H:Hp} {Q:VK} {QB:Bool->Hp->Prop} {QL:List V->Hp->Prop} {v x y:V} {i j:Int} {b:Bool} {ta tb tc te:TE} {t u:TS} {tA tB':TT} {tr:TA} {D:ygk}
 {nx bk ct:St->Hp->Prop} {rt:VK} {A B:Prop}
theorem yo {N:List Str} {vs:List V} {σ':St} (e:yad N vs = σ') (h:t D σ' H):t D (yad N vs) H:=by rw [e]; exact h
theorem yyq {k:Nat} (e:σ[k]? = some (some v)) (h:Q v H):vax k σ H Q:=⟨v,e,h⟩
theorem i_c (h:Q v H):tC v σ H Q:=h
theorem vbx {r:R2} (h:ta σ H fun x H1=>tb σ H1 fun y H2=>r x y H2 Q):tOp r ta tb σ H Q:=h
theorem vcc {r:V->Hp->VK->Prop} (h:ta σ H fun x H1=>r x H1 Q):tUn r ta σ H Q:=h
theorem vca {g:Int->Int->V} (h:Q (g i j) H):rI0 g (.int i) (.int j) H Q:=⟨i,j,rfl,rfl,h⟩
theorem i_I {C:Int->Int->Prop} {g:Int->Int->V} (hc:C i j) (h:Q (g i j) H):rI C g (.int i) (.int j) H Q:=⟨i,j,rfl,rfl,hc,h⟩
theorem i_U {g:Int->V} (h:Q (g i) H):rU g (.int i) H Q:=⟨i,rfl,h⟩
theorem vam (h:Q (.bl (decide (i = j))) H):rEq (.int i) (.int j) H Q:=⟨rfl,by
 have e:decide (V.int i = V.int j) = decide (i = j):=by simp
 rw [e]; exact h⟩
theorem yvx (h:ta σ H fun x H'=>∃ k,x = .bl k/\QB k H'):yub ta σ H QB:=h
theorem vbr (h:ta σ H fun x H'=>∃ k,x = .bl k/\QB k H'):tB ta σ H QB:=h
theorem vb7 {P:Bool->Prop} (h:P b):∃ k,V.bl b = V.bl k/\P k:=⟨b,rfl,h⟩
theorem yr1 {r r':R2} (h:ta σ H fun x H1=>tb σ H1 fun y H2=>r x y H2 fun z H3=>∃ k,z = .bl k/\(if k = true then tc σ H3 fun w' H4=>r' y w' H4 Q else Q (.bl false) H3)):ymx r r' ta tb tc σ H Q:=h
theorem yxe (h:ta σ H fun x H1=>∃ c,x = .bl c/\if c = true then tb σ H1 Q else Q (.bl false) H1):yyp ta tb σ H Q:=h
theorem yxo (h:ta σ H fun x H1=>∃ c,x = .bl c/\Q (.bl (!c)) H1):yza ta σ H Q:=h
theorem yz1 {t1 t2:TT} (h:t1 σ H fun c H1=>if c = true then t2 σ H1 QB else QB false H1):vbo t1 t2 σ H QB:=h
theorem vbv {t1 t2:TT} (h:t1 σ H fun c H1=>if c = true then QB true H1 else t2 σ H1 QB):tOr t1 t2 σ H QB:=h
theorem yzq {t1:TT} (h:t1 σ H fun c H1=>QB (!c) H1):vbl t1 σ H QB:=h
theorem var (h:tA σ H fun c H1=>if c = true then ta σ H1 Q else tb σ H1 Q):tIf tA ta tb σ H Q:=h
theorem van (h:t ⟨u D,D.rt,D.bk,D.ct⟩ σ H):vaw t u D σ H:=h
theorem yu8 (h:nx σ H):yy3 ⟨nx,rt,bk,ct⟩ σ H:=h
theorem vak (h:te σ H rt):va8 te ⟨nx,rt,bk,ct⟩ σ H:=h
theorem yxy (h:te σ H fun _ H1=>nx σ H1):yzc te ⟨nx,rt,bk,ct⟩ σ H:=h
theorem vb9 (h:tA σ H fun c H1=>if c = true then t D σ H1 else u D σ H1):vbc tA t u D σ H:=h
theorem yni {t:TS} (M:St->Hp->Prop) (h1:t ⟨M,rt,bk,ct⟩ σ H) (h2:∀ σ' H',M σ' H'->nx σ' H'):vba t ⟨nx,rt,bk,ct⟩ σ H:=⟨M,h1,h2⟩
theorem yz9 {g:TG} (h:te σ H fun x H1=>g x σ H1 nx):yuj te g ⟨nx,rt,bk,ct⟩ σ H:=h
theorem yx2 {sp:Sp} {dvs:List V} {E:XK} (h:tr σ H fun vs H1=>sp (vs ++ dvs) H1 Q E):yym sp dvs E tr σ H Q:=h
theorem yxn (h:ta σ H fun x H1=>tr σ H1 fun xs H2=>QL (x :: xs) H2):yzd ta tr σ H QL:=h
theorem vab (h:QL [] H):yuc σ H QL:=h
theorem vb1 {r:List V->Hp->VK->Prop} (h:tr σ H fun vs H1=>r vs H1 Q):tCB r tr σ H Q:=h
theorem yzu (h:tr σ H fun xs H1=>xs.length <= sizeLine/\∀ p,H1 p = none->Q (.ref p) (upd H1 p (.tup xs))):vbe tr σ H Q:=h
theorem vas (h:tr σ H fun xs H1=>xs.length <= sizeLine/\∀ p,H1 p = none->Q (.ref p) (upd H1 p (.lst xs))):vbj tr σ H Q:=h
theorem yi2 {C:Addr} {m:Str} {sp:Sp} {dvs:List V} {E:XK} (h:ta σ H fun x H1=>∃ a dx fs,x = .ref a/\H1 a = some (.ins C dx fs)/\fs.lookup m = none/\tr σ H1 fun vs H2=>sp (x :: (vs ++ dvs)) H2 Q E):yht C m sp dvs E ta tr σ H Q:=h
theorem yzr {f:Str} (h:ta σ H fun x H1=>∃ a C dx fs v,x = .ref a/\H1 a = some (.ins C dx fs)/\Cls K C/\yt K C f/\fs.lookup f = some v/\Q v H1):va0 K ta f σ H Q:=h
theorem yu9 {f:Str} (h:tb σ H fun y H1=>ta σ H1 fun x H2=>∃ a C dx fs,x = .ref a/\H2 a = some (.ins C dx fs)/\Cls K C/\yt K C f/\fs.length < 1000/\vi nx σ (upd H2 a (.ins C dx (wb f y fs)))):vbn K ta tb f ⟨nx,rt,bk,ct⟩ σ H:=h
theorem vb6 {r:V->Option Int->Option Int->Hp->VK->Prop} {tl th:TO} (h:te σ H fun x H1=>tl σ H1 fun l H2=>th σ H2 fun u H3=>r x l u H3 Q):tSl r te tl th σ H Q:=h
theorem yo3 {QO:Option Int->Hp->Prop} (h:QO none H):ymg σ H QO:=h
theorem ywm {QO:Option Int->Hp->Prop} (h:ta σ H fun x H1=>∃ i,x = .int i/\QO (some i) H1):yy7 ta σ H QO:=h
theorem vaj {P:Int->Prop} (h:P i):∃ k,V.int i = V.int k/\P k:=⟨i,rfl,h⟩
theorem yvf (h:A):V.non = V.non/\A:=⟨rfl,h⟩
theorem g0 {a0:Option V} {r:St} {N:St->Hp->Prop} (h:N (some v :: r) H):w5 0 v (a0 :: r) H N:=h
theorem g1 {a0 a1:Option V} {r:St} {N:St->Hp->Prop} (h:N (a0 :: some v :: r) H):w5 1 v (a0 :: a1 :: r) H N:=h
theorem g2 {a0 a1 a2:Option V} {r:St} {N:St->Hp->Prop} (h:N (a0 :: a1 :: some v :: r) H):w5 2 v (a0 :: a1 :: a2 :: r) H N:=h
theorem g3 {a0 a1 a2 a3:Option V} {r:St} {N:St->Hp->Prop} (h:N (a0 :: a1 :: a2 :: some v :: r) H):w5 3 v (a0 :: a1 :: a2 :: a3 :: r) H N:=h
theorem g4 {a0 a1 a2 a3 a4:Option V} {r:St} {N:St->Hp->Prop} (h:N (a0 :: a1 :: a2 :: a3 :: some v :: r) H):w5 4 v (a0 :: a1 :: a2 :: a3 :: a4 :: r) H N:=h
theorem g5 {a0 a1 a2 a3 a4 a5:Option V} {r:St} {N:St->Hp->Prop} (h:N (a0 :: a1 :: a2 :: a3 :: a4 :: some v :: r) H):w5 5 v (a0 :: a1 :: a2 :: a3 :: a4 :: a5 :: r) H N:=h
theorem g6 {a0 a1 a2 a3 a4 a5 a6:Option V} {r:St} {N:St->Hp->Prop} (h:N (a0 :: a1 :: a2 :: a3 :: a4 :: a5 :: some v :: r) H):w5 6 v (a0 :: a1 :: a2 :: a3 :: a4 :: a5 :: a6 :: r) H N:=h
theorem g7 {a0 a1 a2 a3 a4 a5 a6 a7:Option V} {r:St} {N:St->Hp->Prop} (h:N (a0 :: a1 :: a2 :: a3 :: a4 :: a5 :: a6 :: some v :: r) H):w5 7 v (a0 :: a1 :: a2 :: a3 :: a4 :: a5 :: a6 :: a7 :: r) H N:=h
theorem g8 {a0 a1 a2 a3 a4 a5 a6 a7 a8:Option V} {r:St} {N:St->Hp->Prop} (h:N (a0 :: a1 :: a2 :: a3 :: a4 :: a5 :: a6 :: a7 :: some v :: r) H):w5 8 v (a0 :: a1 :: a2 :: a3 :: a4 :: a5 :: a6 :: a7 :: a8 :: r) H N:=h
theorem g9 {a0 a1 a2 a3 a4 a5 a6 a7 a8 a9:Option V} {r:St} {N:St->Hp->Prop} (h:N (a0 :: a1 :: a2 :: a3 :: a4 :: a5 :: a6 :: a7 :: a8 :: some v :: r) H):w5 9 v (a0 :: a1 :: a2 :: a3 :: a4 :: a5 :: a6 :: a7 :: a8 :: a9 :: r) H N:=h
theorem g10 {a0 a1 a2 a3 a4 a5 a6 a7 a8 a9 a10:Option V} {r:St} {N:St->Hp->Prop} (h:N (a0 :: a1 :: a2 :: a3 :: a4 :: a5 :: a6 :: a7 :: a8 :: a9 :: some v :: r) H):w5 10 v (a0 :: a1 :: a2 :: a3 :: a4 :: a5 :: a6 :: a7 :: a8 :: a9 :: a10 :: r) H N:=h
theorem g11 {a0 a1 a2 a3 a4 a5 a6 a7 a8 a9 a10 a11:Option V} {r:St} {N:St->Hp->Prop} (h:N (a0 :: a1 :: a2 :: a3 :: a4 :: a5 :: a6 :: a7 :: a8 :: a9 :: a10 :: some v :: r) H):w5 11 v (a0 :: a1 :: a2 :: a3 :: a4 :: a5 :: a6 :: a7 :: a8 :: a9 :: a10 :: a11 :: r) H N:=h
theorem yms {n:Nat} {tg:TGs} {a:Addr} {xs:List V} {N:St->Hp->Prop} (hq:SqT K H a xs) (hl:xs.length = n) (h:tg xs σ H N):yul K n tg (.ref a) σ H N:=⟨a,xs,rfl,hq,hl,h⟩
theorem ytj {tg:TG} {us:TGs} {r:List V} {N:St->Hp->Prop} (h:tg v σ H fun σ' H'=>us r σ' H' N):z7 tg us (v :: r) σ H N:=⟨v,r,rfl,h⟩
theorem yvg {N:St->Hp->Prop} (h:N σ H):yp2 [] σ H N:=⟨rfl,h⟩
theorem uw {p:Prop} [Decidable p] (h1:p->A) (h2:¬ p->B):if decide p = true then A else B:=by
 by_cases h:p
 ·rw [if_pos (decide_eq_true h)]; exact h1 h
 ·rw [if_neg (by simp [h])]; exact h2 h
theorem yge {p:Prop} [Decidable p] (hp:p) (h:A):if decide p = true then A else B:=by rw [if_pos (decide_eq_true hp)]; exact h
theorem jy {p:Prop} [Decidable p] (hp:¬ p) (h:B):if decide p = true then A else B:=by rw [if_neg (by simp [hp])]; exact h
theorem ynm {p:Prop} [Decidable p] (hp:p) (h:B):if (!decide p) = true then A else B:=by rw [if_neg (by simp [hp])]; exact h
theorem ypl {p:Prop} [Decidable p] (hp:¬ p) (h:A):if (!decide p) = true then A else B:=by rw [if_pos (by simp [hp])]; exact h
theorem vbf {p:Prop} [Decidable p] (h1:p->B) (h2:¬ p->A):if (!decide p) = true then A else B:=by
 by_cases h:p
 ·exact ynm h (h1 h)
 ·exact ypl h (h2 h)
theorem vaf (h:B):if (!true) = true then A else B:=yno h
theorem yz5 (h:A):if (!false) = true then A else B:=yps h
theorem yyv {α:Type} {z:α} [Decidable (z = z)] (h:B):if (!decide (z = z)) = true then A else B:=ynm rfl h
theorem yt6 {α:Type} {z:α} [Decidable (z = z)] (h:A):if decide (z = z) = true then A else B:=yge rfl h
theorem ut {f:Str} {r:List (Str × V)}:List.lookup f ((f,v) :: r) = some v:=by simp [List.lookup]
theorem y8 {f g:Str} {r:List (Str × V)} {o:Option V} (h:¬ f = g) (e:List.lookup f r = o):List.lookup f ((g,v) :: r) = o:=by
 have h':(f == g) = false:=by simp [h]
 simp [List.lookup,h',e]
theorem xc {f:Str}:List.lookup f ([]:List (Str × V)) = none:=rfl
theorem zb {f:Str} {r:List (Str × V)}:wb f v ((f,x) :: r) = (f,v) :: r:=by simp [wb]
theorem vy {f g:Str} {r r':List (Str × V)} (h:¬ g = f) (e:wb f v r = r'):wb f v ((g,x) :: r) = (g,x) :: r':=by simp [wb,h,e]
theorem w9 {f:Str}:wb f v [] = [(f,v)]:=rfl
theorem zk {a c:Addr} {o o':HO} (hn:H a = none) (h:H c = some o):upd H a o' c = some o:=by rw [yu (ye h hn)]; exact h
theorem yp {a c:Addr} {o o':HO} (hn:c ≠ a) (h:H c = some o):upd H a o' c = some o:=by rw [yu hn]; exact h
theorem vn {a:Addr} {o:HO} (hn:H a = none):vm H (upd H a o):=fun _ _ h=>zk hn h
theorem vm.tup {H H':Hp} {a:Addr} {xs:List V} (e:vm H H') (h:SqT K H a xs):SqT K H' a xs:=by
 rcases h with (h | ⟨o,h⟩) | h
 ·exact .inl (.inl (e _ _ h))
 ·exact .inl (.inr ⟨o,e _ _ h⟩)
 ·exact .inr h
theorem yf9 {tb:TS} {W:Nat->St->Hp->Prop} {m:Nat} (h:tb ⟨fun σ' H'=>∃ m',m' < m/\W m' σ' H',rt,nx,fun σ' H'=>∃ m',m' < m/\W m' σ' H'⟩ σ H) :
  ∃ N:St->Hp->Prop,(∀ σ' H',N σ' H'->∃ m',m' < m/\W m' σ' H')/\tb ⟨N,rt,nx,N⟩ σ H:=⟨_,fun _ _ q=>q,h⟩
theorem yve {C:Addr} {sp:Sp} {dvs:List V} {E:XK} (h:tr σ H fun vs H1=>∀ x dx,H1 x = none->H1 dx = none->dx ≠ x->sp (.ref x :: (vs ++ dvs)) (upd (upd H1 dx (.own x)) x (.ins C dx [])) (fun v H2=>v = .non/\Q (.ref x) H2) E):yt9 C sp dvs E tr σ H Q:=h
theorem vcb {T:String} {r:V->List V->Hp->VK->Prop} (h:ta σ H fun x H1=>tyV K T x H1/\tr σ H1 fun xs H2=>r x xs H2 Q):tBM K T r ta tr σ H Q:=h
theorem yz8 {T:String} {r:V->List V->Hp->VK->Prop} (h:ta σ H fun x H1=>tyV K T x H1/\r x [] H1 Q):vbg K T r ta σ H Q:=h
theorem ybj {p:Addr} {xs:List V} (h:H p = some (.lst xs)) (k:A):tyV K "list" (.ref p) H/\A:=⟨.inl ⟨rfl,_,SqL.of h⟩,k⟩
theorem uc {l:Addr} {xs:List V} (h:H l = some (.lst xs)) (hz:xs.length < sizeLine) (k:Q .non (upd H l (.lst (xs ++ [y])))):yme (.ref l) [y] H Q:=⟨l,xs,y,rfl,rfl,h,hz,k⟩
theorem ylv {l:Addr} {xs:List V} (h:H l = some (.lst xs)) (k:Q .non (upd H l (.lst xs.reverse))):yhy (.ref l) [] H Q:=⟨l,xs,rfl,rfl,h,k⟩
theorem x3 {p:Addr} {ys:List V} {P:List V->Prop} (h:SqL K H p ys) (k:P ys):∃ p' ys',[V.ref p] = [V.ref p']/\(SqL K H p' ys'\/SqT K H p' ys')/\P ys':=⟨p,ys,rfl,.inl h,k⟩
theorem yqg {p:Addr} {ys:List V} {P:List V->Prop} (h:SqT K H p ys) (k:P ys):∃ p' ys',[V.ref p] = [V.ref p']/\(SqL K H p' ys'\/SqT K H p' ys')/\P ys':=⟨p,ys,rfl,.inr h,k⟩
theorem yid {p:Addr} {ys:List V} {P:List V->Prop} (h:SqL K H p ys) (k:P ys):∃ p' ys',[V.ref p] = [V.ref p']/\(SqL K H p' ys'\/SqT K H p' ys')/\P ys':=⟨p,ys,rfl,.inl h,k⟩
theorem yae {p:Addr} {xs:List V} (h:SqL K H p xs) (e:atI xs i = some v) (k:Q v H):yui K (.ref p) (.int i) H Q:=⟨p,xs,i,v,rfl,rfl,h,e,k⟩
theorem z6 {p:Addr} {xs:List V} (h:SqT K H p xs) (e:atI xs i = some v) (k:Q v H):vbd K (.ref p) (.int i) H Q:=⟨p,xs,i,v,rfl,rfl,h,e,k⟩
theorem ybl {p:Addr} {xs:List V} {lo hi:Option Int} (h:SqL K H p xs) (k:∀ q,H q = none->Q (.ref q) (upd H q (.lst (ye0 xs lo hi)))):va6 K (.ref p) lo hi H Q:=⟨p,xs,rfl,h,k⟩
theorem z0 {xs:List V} (n:Nat):ye0 xs none (some (n:Int)) = xs.take n:=by
 unfold ye0
 rw [HT.sIx_none,HT.sIx_nat,List.drop_zero,Nat.sub_zero]
 rcases Nat.le_total n xs.length with h | h
 ·rw [Nat.min_eq_left h]
 ·rw [Nat.min_eq_right h,List.take_of_length_le (Nat.le_refl _),List.take_of_length_le h]
theorem yzx {wi:TI} {g:TG} {tb:TS} (h:wi σ H fun J H1=>∃ W:Nat->Nat->St->Hp->Prop,(∃ m,W 0 m σ H1)/\∀ i m σ H,W i m σ H ->
  (J.stop i H/\D.nx σ H)\/(J.go i H/\∃ N:St->Hp->Prop,(∀ σ' H',N σ' H'->∃ m',m' < m/\W (i + 1) m' σ' H')/\∀ x H',J.yld i H x H'->g x σ H' fun σ2 H2=>tb { D with nx:=N,ct:=N,bk:=D.nx } σ2 H2)):vbb wi g tb D σ H:=h
theorem ysh {R:It->Hp->Prop} (h:ta σ H fun x H1=>∃ a,x = .ref a/\(∃ xs,SqL K H1 a xs)/\R (Itl K a) H1):yys K ta σ H R:=h
theorem yyd {R:It->Hp->Prop} (h:ta σ H fun x H1=>∃ a,x = .ref a/\(∃ xs,SqT K H1 a xs)/\R (Itt K a) H1):vbh K ta σ H R:=h
theorem ysq {R:It->Hp->Prop} (h:tr σ H fun vs H1=>∃ j:Int,vs = [.int j]/\-(2 ^ 62) <= j/\j < 2 ^ 62/\R (Itr 0 j.toNat) H1):yyy tr σ H R:=h
theorem jz {n m:String} {k:Bool} {P:Bool->Prop} (ty:xz K H x (.type n)) (e:W.kitOne K (.type n) (.type m) = some k) (h:P k) :
  ∃ x' cv t c k',[x,V.ty m] = [x',cv]/\w8 cv c/\(∀ u,w8 cv u->u = c)/\xz K H x' t/\W.kitOne K t c = some k'/\P k':=⟨x,.ty m,.type n,.type m,k,rfl,rfl,fun _ r=>r,ty,e,h⟩
theorem ysi (h:nx σ H):vi nx σ H:=h
end
def yqj:V->Bool
 | .int _=>true
 | .bl _=>true
 | _=>false
def yl7:V->Bool
 | .bl _=>true
 | _=>false
def jx:V->Bool
 | .int _=>true
 | _=>false
theorem ycw (K:W.Frag) (n:String):W.kitOne K (.type n) (.type n) = some true:=by
 unfold W.kitOne
 rw [if_pos (by simp)]
theorem ys9 {K:W.Frag} {H:Hp} {x:V} {n:String} (ty:xz K H x (.type n)):W.kitOne K (.type n) (.type "int") = some (yqj x):=by
 cases ty <;> rfl
theorem yn2 {K:W.Frag} {H:Hp} {x:V} {n:String} (ty:xz K H x (.type n)):W.kitOne K (.type n) (.type "bool") = some (yl7 x):=by
 cases ty <;> rfl
theorem yvw {K:W.Frag}:W.kitOne K (.type "int") (.type "bool") = some false:=rfl
end L2
namespace SpanMath
def Ch (c:Int):Prop:=32768 <= c/\c <= 16744448
def ren (l w s:Int):Int × Int × Int :=
 if w < 4294967296 then (if w * 256 < 4294967296 then (l * 65536,w * 65536,s + 2) else (l * 256,w * 256,s + 1)) else (l,w,s)
def cut (w c:Int):Int:=w * c / 16777216
def nar (x:Int × Int × Int) (c b:Int):Int × Int × Int :=
 if b = 1 then ren x.1 (cut x.2.1 c) x.2.2 else ren (x.1 + cut x.2.1 c) (x.2.1 - cut x.2.1 c) x.2.2
def s0:Int × Int × Int:=(0,1099511627776,5)
theorem yo1 {l w s:Int} (h:w < 4294967296) (h2:8388608 <= w):ren (l * 256) (w * 256) (s + 1) = ren l w s:=by
 unfold ren
 rw [if_pos h]
 by_cases h3:w * 256 < 4294967296
 ·rw [if_pos h3,if_pos h3,if_neg (by omega)]
  refine Prod.ext ?_ (Prod.ext ?_ ?_)
  ·show l * 256 * 256 = l * 65536; omega
  ·show w * 256 * 256 = w * 65536; omega
  ·show s + 1 + 1 = s + 2; omega
 ·rw [if_neg h3,if_neg h3]
theorem ys7 {l w s:Int} (h:¬ w < 4294967296):ren l w s = (l,w,s):=by
 unfold ren; rw [if_neg h]
theorem yf7 {w c:Int} (hw:4294967296 <= w) (hw2:w <= 1099511627776) (hc:Ch c):8388608 <= cut w c/\8388608 <= w - cut w c/\cut w c < 1099511627776:=by
 obtain ⟨h1,h2⟩:=hc
 have a1:w * 32768 <= w * c:=Int.mul_le_mul_of_nonneg_left h1 (by omega)
 have a2:w * c <= w * 16744448:=Int.mul_le_mul_of_nonneg_left h2 (by omega)
 unfold cut
 generalize w * c = p at a1 a2 ⊢
 omega
structure Ok (x:Int × Int × Int):Prop where
 l0:0 <= x.1
 w0:4294967296 <= x.2.1
 w1:x.2.1 <= 1099511627776
 z:5 <= x.2.2
theorem ok0:Ok s0:=⟨by decide,by decide,by decide,by decide⟩
theorem yp3 {l w s:Int} (h0:0 <= l) (h1:8388608 <= w) (h2:w <= 1099511627776) (h3:5 <= s):Ok (ren l w s):=by
 unfold ren
 split
 ·split
  ·exact ⟨by show 0 <= l * 65536; omega,by show _ <= w * 65536; omega,by show w * 65536 <= _; omega,by show 5 <= s + 2; omega⟩
  ·exact ⟨by show 0 <= l * 256; omega,by show _ <= w * 256; omega,by show w * 256 <= _; omega,by show 5 <= s + 1; omega⟩
 ·exact ⟨h0,by show _ <= w; omega,h2,h3⟩
theorem yx8 {x:Int × Int × Int} {c b:Int} (h:Ok x) (hc:Ch c):Ok (nar x c b):=by
 obtain ⟨a1,a2,a3⟩:=yf7 h.w0 h.w1 hc
 have:=h.l0; have:=h.w0; have:=h.w1; have:=h.z
 unfold nar
 split
 ·exact yp3 (by omega) (by omega) (by omega) (by omega)
 ·exact yp3 (by omega) (by omega) (by omega) (by omega)
end SpanMath
namespace SpanMath
def pw:Nat->Int
 | 0=>1
 | k + 1=>pw k * 256
theorem uf:∀ k,0 < pw k
 | 0=>by decide
 | k + 1=>by have:=uf k; show 0 < pw k * 256; omega
theorem yiy (a:Nat):∀ b,pw (a + b) = pw a * pw b
 | 0=>by simp [pw]
 | b + 1=>by
  show pw (a + b) * 256 = pw a * (pw b * 256)
  rw [yiy a b,Int.mul_assoc]
theorem ymi {a b:Nat} (h:a <= b):pw a <= pw b:=by
 obtain ⟨c,rfl⟩:=Nat.exists_eq_add_of_le h
 rw [yiy]
 have h1:=uf a
 have h2:=uf c
 calc pw a = pw a * 1:=by omega
  _ <= pw a * pw c:=Int.mul_le_mul_of_nonneg_left (by omega) (by omega)
theorem yy4 {a b:Nat} (h:pw a < pw b):a < b:=by
 apply Nat.lt_of_not_le
 intro q
 have:=ymi q
 omega
def lo:Nat->Int->List Int
 | 0,_=>[]
 | k + 1,n=>n % 256 :: lo k (n / 256)
def wr (k:Nat) (n:Int):List Int:=(lo k n).reverse
theorem yq9:∀ k n,(lo k n).length = k
 | 0,_=>rfl
 | k + 1,n=>by simp [lo,yq9 k]
theorem yxq (k:Nat) (n:Int):(wr k n).length = k:=by simp [wr,yq9]
theorem yl2:∀ k n,∀ x ∈ lo k n,0 <= x/\x <= 255
 | 0,_,x,h=>by simp [lo] at h
 | k + 1,n,x,h=>by
  simp only [lo,List.mem_cons] at h
  rcases h with rfl | h
  ·omega
  ·exact yl2 k _ x h
theorem ysb (k:Nat) (n:Int):∀ x ∈ wr k n,0 <= x/\x <= 255:=fun x h=>yl2 k n x (by simpa [wr] using h)
theorem yr8 (k:Nat) (n:Int):wr (k + 1) n = wr k (n / 256) ++ [n % 256]:=by simp [wr,lo]
def val (xs:List Int):Int:=xs.foldl (fun a b=>a * 256 + b) 0
theorem yh1 (xs:List Int) (b:Int):val (xs ++ [b]) = val xs * 256 + b:=by simp [val,List.foldl_append]
theorem yqt:∀ (k:Nat) (n:Int),0 <= n->n < pw k->val (wr k n) = n
 | 0,n,h0,h1=>by
  have:n < 1:=h1
  have:n = 0:=by omega
  subst this; rfl
 | k + 1,n,h0,h1=>by
  have h2:n < pw k * 256:=h1
  rw [yr8,yh1,yqt k (n / 256) (by omega) (by omega)]
  omega
def vcf:Nat->Int->Int->Nat
 | 0,_,_=>0
 | n + 1,a,b=>if a = b then 0 else vcf n (a / 256) (b / 256) + 1
end SpanMath
namespace SpanMath
abbrev Sn:=Int × Int × Int
def sz (x:Sn):Nat:=x.2.2.toNat
structure OkS (x:Sn):Prop where
 ok:Ok x
 top:x.1 + x.2.1 <= pw (sz x)
theorem OkS.sz {x:Sn} (h:OkS x):((sz x:Nat):Int) = x.2.2:=by
 have:=h.ok.z
 unfold SpanMath.sz
 omega
theorem OkS.sz5 {x:Sn} (h:OkS x):5 <= SpanMath.sz x:=by
 have:=h.ok.z
 unfold SpanMath.sz
 omega
theorem vav:OkS s0:=⟨ok0,by decide⟩
structure Sub (x y:Sn) (r:Nat):Prop where
 z:sz y = sz x + r
 l:x.1 * pw r <= y.1
 h:y.1 + y.2.1 <= (x.1 + x.2.1) * pw r
theorem yl9 {l w s:Int} (hs:0 <= s):∃ r,Sub (l,w,s) (ren l w s) r/\(ren l w s).2.1 = w * pw r/\(ren l w s).1 = l * pw r:=by
 unfold ren
 split
 ·split
  ·refine ⟨2,⟨?_,?_,?_⟩,?_,?_⟩
   ·show (s + 2).toNat = s.toNat + 2; omega
   ·show l * (1 * 256 * 256) <= l * 65536; omega
   ·show l * 65536 + w * 65536 <= (l + w) * (1 * 256 * 256); omega
   ·show w * 65536 = w * (1 * 256 * 256); omega
   ·show l * 65536 = l * (1 * 256 * 256); omega
  ·refine ⟨1,⟨?_,?_,?_⟩,?_,?_⟩
   ·show (s + 1).toNat = s.toNat + 1; omega
   ·show l * (1 * 256) <= l * 256; omega
   ·show l * 256 + w * 256 <= (l + w) * (1 * 256); omega
   ·show w * 256 = w * (1 * 256); omega
   ·show l * 256 = l * (1 * 256); omega
 ·refine ⟨0,⟨?_,?_,?_⟩,?_,?_⟩
  ·rfl
  ·show l * 1 <= l; omega
  ·show l + w <= (l + w) * 1; omega
  ·show w = w * 1; omega
  ·show l = l * 1; omega
theorem yrz {x:Sn} {c b:Int} (h:Ok x) (hc:Ch c):∃ r,Sub x (nar x c b) r:=by
 obtain ⟨a1,a2,a3⟩:=yf7 h.w0 h.w1 hc
 have h0:=h.l0; have hz:=h.z
 unfold nar
 split
 ·obtain ⟨r,⟨q1,q2,q3⟩,_⟩:=yl9 (l:=x.1) (w:=cut x.2.1 c) (s:=x.2.2) (by omega)
  refine ⟨r,q1,q2,Int.le_trans q3 (Int.mul_le_mul_of_nonneg_right ?_ (Int.le_of_lt (uf r)))⟩
  show x.1 + cut x.2.1 c <= x.1 + x.2.1
  omega
 ·obtain ⟨r,⟨q1,q2,q3⟩,_⟩:=yl9 (l:=x.1 + cut x.2.1 c) (w:=x.2.1 - cut x.2.1 c) (s:=x.2.2) (by omega)
  refine ⟨r,q1,Int.le_trans (Int.mul_le_mul_of_nonneg_right ?_ (Int.le_of_lt (uf r))) q2,Int.le_trans q3 (Int.mul_le_mul_of_nonneg_right ?_ (Int.le_of_lt (uf r)))⟩
  ·show x.1 <= x.1 + cut x.2.1 c; omega
  ·show x.1 + cut x.2.1 c + (x.2.1 - cut x.2.1 c) <= x.1 + x.2.1; omega
theorem yhm {x:Sn} {c b:Int} (h:OkS x) (hc:Ch c):OkS (nar x c b):=by
 refine ⟨yx8 h.ok hc,?_⟩
 obtain ⟨r,q⟩:=yrz (b:=b) h.ok hc
 rw [q.z,yiy]
 exact Int.le_trans q.h (Int.mul_le_mul_of_nonneg_right h.top (Int.le_of_lt (uf r)))
def blk (l e:Int):Int:=(l + e - 1) / e
def ykh (l w:Int) (k:Nat):Prop:=(blk l (pw k) + 1) * pw k <= l + w
instance (l w:Int) (k:Nat):Decidable (ykh l w k):=inferInstanceAs (Decidable ((blk l (pw k) + 1) * pw k <= l + w))
theorem yqp (l:Int) {e:Int} (h:0 < e):l <= blk l e * e/\blk l e * e < l + e:=by
 unfold blk
 have h1:=Int.emod_add_mul_ediv (l + e - 1) e
 have h2:=Int.emod_nonneg (l + e - 1) (show e ≠ 0 by omega)
 have h3:=Int.emod_lt_of_pos (l + e - 1) h
 rw [Int.mul_comm] at h1
 generalize (l + e - 1) / e * e = q at h1 ⊢
 omega
theorem ymb {l w:Int} {k:Nat} (h:ykh l w k):pw k <= w:=by
 have h1:=yqp l (uf k)
 unfold ykh at h
 rw [Int.add_mul] at h
 omega
def tel (l w:Int):Nat->Nat->Nat
 | 0,k=>k
 | f + 1,k=>if ykh l w (k + 1) then tel l w f (k + 1) else k
theorem yo0 {l w:Int} {f k:Nat} (h:ykh l w (k + 1)):tel l w f (k + 1) = tel l w (f + 1) k:=by
 rw [tel,if_pos h]
theorem ys3 {l w:Int} {f k:Nat} (h:¬ ykh l w (k + 1)):tel l w f k = k:=by
 cases f with
 | zero=>rfl
 | succ f=>rw [tel,if_neg h]
theorem yhz {l w:Int}:∀ {f k:Nat},ykh l w k->ykh l w (tel l w f k)
 | 0,_,h=>h
 | f + 1,k,h=>by
  unfold tel
  split
  ·rename_i q; exact yhz q
  ·exact h
theorem pw5:pw 5 = 1099511627776:=by decide
theorem yqy {l w:Int} {k:Nat} (hw:w <= 1099511627776) (h:ykh l w k):k <= 5:=by
 have h1:=ymb h
 rw [<- pw5] at hw
 have h2:pw k < pw 6:=Int.lt_of_le_of_lt (Int.le_trans h1 hw) (by decide)
 have:=yy4 h2
 omega
def tK (x:Sn):Nat:=tel x.1 x.2.1 5 0
def tCn (x:Sn):Int:=blk x.1 (pw (tK x))
def tL (x:Sn):List Int:=wr (sz x - tK x) (tCn x)
theorem yz4 {x:Sn} (h:Ok x):ykh x.1 x.2.1 0:=by
 have:=h.w0
 show ((x.1 + 1 - 1) / 1 + 1) * 1 <= x.1 + x.2.1
 omega
theorem yc3 {x:Sn} (h:Ok x):ykh x.1 x.2.1 (tK x):=yhz (yz4 h)
theorem yt2 {x:Sn} (h:OkS x):tK x <= 5/\tK x <= sz x:=by
 have h1:=yqy h.ok.w1 (yc3 h.ok)
 have h2:=h.sz5
 omega
theorem ymq (x:Sn):(tL x).length = sz x - tK x:=yxq _ _
theorem yv8 {x:Sn} (h:Ok x):0 <= tCn x:=by
 have:=h.l0
 have:=uf (tK x)
 exact Int.ediv_nonneg (by omega) (by omega)
theorem yw3 {x:Sn} (h:OkS x):tCn x < pw (sz x - tK x):=by
 have h1:(tCn x + 1) * pw (tK x) <= x.1 + x.2.1:=yc3 h.ok
 have h2:=h.top
 have e:sz x - tK x + tK x = sz x:=Nat.sub_add_cancel (yt2 h).2
 rw [<- e,yiy] at h2
 have h3:=Int.le_of_mul_le_mul_right (Int.le_trans h1 h2) (uf (tK x))
 omega
theorem ywg {x:Sn} (h:OkS x):val (tL x) = tCn x:=yqt _ _ (yv8 h.ok) (yw3 h)
end SpanMath
namespace L2
open PySem PySem.Spec PyProof.Rows
abbrev Cx.comp (X:Cx) (scope:Scope) (C:Addr) (x:Str) (s2:Shared) (H2:Hp) (fp:List Addr):Cx :=
 { X with N:=[x],s₀:=s2,H₀:=H2,env:=compEnv scope C X.env,outer:=X.stack,ex:=fp,fn:=fun _=>true,pn:=[],xe:=fun _ _=>False }
def ybz (J:It) (te:TE) (D:Addr) (R:Hp->Prop) (H1:Hp):Prop:=∃ W:Nat->Nat->Hp->Prop,(∃ m,W 0 m (upd H1 D (.lst []))) /\
 ∀ i m H2,W i m H2->(J.stop i H2/\R H2)\/(J.go i H2/\∀ x H3,J.yld i H2 x H3->te [some x] H3 fun y H4=>∃ ys,H4 D = some (.lst ys)/\ys.length < sizeLine/\∃ m',m' < m/\W (i + 1) m' (upd H4 D (.lst (ys ++ [y]))))
def yyr (wi:TI) (te:TE):TE:=fun σ H Q=>wi σ H fun J H1=>∀ D,H1 D = none->ybz J te D (fun H2=>Q (.ref D) H2) H1
section
variable {X:Cx} {iter elt:Expr} {x:Str} {px pos:Pos} {scope:Scope} {te:TE} {wi:TI} {pins:List (Addr × Obj)} {σ:St}
theorem ynt {α:Type} {t:Sem α} {Q Q':α->Shared->Prop} {M:Model} {A:Around} {E:Value->Shared->Prop} {s:Shared} (h:wpAny M A t Q (fun _ _=>False) s) (hQ:∀ a s,Q a s->Q' a s):wpAny M A t Q' E s:=wpAny_mono h hQ fun _ _ z=>z.elim
theorem yk3 {s2:Shared} {H2:Hp} {it:Addr} {fp:List Addr} {tn:Nat->Heap->Prop} {J:It} (hc:X.calm = true)
  (he:∀ (C:Addr) (s2:Shared) (H2:Hp) (fp:List Addr),PE (X.comp scope C x s2 H2 fp) elt te)
  (hfree:∀ y ∈ scope.names,y.2 ≠ .free) (hcell:∀ y ∈ scope.names,y.2 ≠ .cell) (hkind:scope.kind = .function) (hx:scope.names.lookup x = some .local)
  (I2:Inv X pins σ H2 s2) (T:ynr X.prog X.w X.K (.Name x px) J fp it tn) (st2:tn 0 s2.heap) (f2:∀ b ∈ fp,ye3 X pins H2 b)
  {R:Addr->Hp->Prop} (h:∀ D,H2 D = none->ybz J te D (R D) H2) {RR:Value->Env->Result->Shared->Prop} {E:Value->Shared->Prop}
  (hR:∀ (D C:Addr) (H':Hp) (s':Shared) (m:Str->Option Value),ye3 X pins H' C->s'.heap.Ns C m->Inv X pins σ H' s'->R D H'->RR (.ref D) (compEnv scope C X.env) (.ok .next) s') :
  wpAny (model X.prog X.w) X.A (newList []) (fun acc s₃=>wpAny (model X.prog X.w) X.A (newFunctionEnv scope X.env.globals [] [] X.env.qual none .none (some X.env)) (fun cenv s₄ =>
   codeAny (model X.prog X.w) X.A (.compStart (.ListComp elt [⟨.Name x px,iter,[],0⟩] scope pos) 0 (.ref it) acc { cenv with scope:=scope }) (RR acc { cenv with scope:=scope }) s₄) E s₃) E s2:=by
 refine wpAny_newObj_type (wpAny_newFunctionEnv hcell (by intro y hy; simp at hy) (fun h₁ hns₁ hsb₁=>?_) hkind)
 dsimp only at hns₁ hsb₁ ⊢
 generalize hH2:s2.heap.push { cls:=.type "list",dict:=none,data:=.seq ([]:List Value).toArray } = G at hns₁ hsb₁ ⊢
 have hC:G.objs.size = s2.heap.objs.size + 1:=by rw [<- hH2,Heap.size_push]
 have hDC:s2.heap.objs.size ≠ G.objs.size:=by rw [hC]; exact Nat.ne_of_lt (Nat.lt_succ_self _)
 have hCle:s2.heap.objs.size <= G.objs.size:=by rw [hC]; exact Nat.le_succ _
 have below:∀ b,b < s2.heap.objs.size->b ≠ G.objs.size/\b ≠ s2.heap.objs.size:=fun b hb=>⟨by rw [hC]; exact Nat.ne_of_lt (Nat.lt_succ_of_lt hb),Nat.ne_of_lt hb⟩
 have old:∀ b o,s2.heap.get? b = some o->h₁.get? b = some o:=fun b o e=>hsb₁.extBut b o (below b (Heap.lt_size e)).1 (Heap.get?_push_of_some _ (hH2 ▸ Heap.get?_push_of_some _ e))
 have hacc:h₁.get? s2.heap.objs.size = some { cls:=.type "list",data:=.seq ([]:List Value).toArray }:=hsb₁.extBut _ _ hDC (Heap.get?_push_of_some _ (hH2 ▸ Heap.get?_push_size _ rfl))
 have fpl:∀ b ∈ fp,b < s2.heap.objs.size:=fun b hb=>let ⟨_,e,_⟩:=T.obj 0 _ st2 b hb; Heap.lt_size e
 have fpS:∀ b ∈ fp,b ∉ frs X.stack:=fun b hb z=>(List.mem_cons.mp (I2.stkSub b z)).elim (f2 b hb).2.1 (f2 b hb).2.2.1
 have nC:H2 G.objs.size = none:=I2.hok.fresh hCle
 have nD:H2 s2.heap.objs.size = none:=I2.hok.fresh (Nat.le_refl _)
 have okC:(X.comp scope G.objs.size x s2 H2 fp).Ok:=by
  refine ⟨I2.ok.mod,hkind,I2.ok.glob,I2.ok.blt,hCle,fun y z c e=>(by cases e),fun y e=>?_,fun y c _ e=>(by cases e),I2.ok.hd,I2.ok.frames,.inl rfl,fun b hb=>⟨(below b (fpl b hb)).1,fun y c e=>(by cases e)⟩,I2.bs,?_,fun b o e hb=>?_,fun b hb=>fpS b hb,I2.stack,I2.stkFree⟩
  ·exfalso
   have e':scope.names.lookup y = some .cell\/scope.names.lookup y = some .free:=e
   rcases e' with e' | e'
   ·exact hcell _ (PySem.mem_of_lookup e') rfl
   ·exact hfree _ (PySem.mem_of_lookup e') rfl
  ·exact Nat.le_trans I2.ok.bsz I2.sz
  ·rcases (f2 b hb).2.2.2.1 with z | z
   ·exact I2.ok.noex b o e z
   ·exact absurd (Nat.lt_of_lt_of_le (Heap.lt_size (I2.ok.bs b o e).1) z) (Nat.lt_irrefl _)
 have I3:∀ tk,Inv (X.comp scope G.objs.size x s2 H2 fp) [] [none] (upd H2 s2.heap.objs.size (.lst [])) { s2 with heap:=h₁,toks:=tk }:=fun tk =>
  ⟨okC,rfl,I2.bare,Un.laid old (Nat.le_refl _) nD,⟨_,hns₁,fun i y v _ e _=>by
    cases i with
    | zero=>cases e
    | succ i=>simp at e⟩,fun y c e=>(by cases e),(by show upd H2 s2.heap.objs.size _ G.objs.size = none; rw [yu hDC.symm]; exact nC),fun y c e=>(by cases e),fun p hp=>(by simp at hp),
   I2.hok.laid old (Nat.le_refl _) ⟨Nat.zero_le _,[],_,.nil,hacc⟩,rfl⟩
 have stat:∀ {H':Hp},(∀ b ∈ fp,H' b = none)->∀ b ∈ fp,ye3 (X.comp scope G.objs.size x s2 H2 fp) [] H' b:=fun hn b hb=>⟨hn b hb,(below b (fpl b hb)).1,fpS b hb,.inl hb,fun y c e=>(by cases e),fun p hp=>(by simp at hp)⟩
 have loop:∀ tk,codeAny (model X.prog X.w) X.A (.compLoop (.ListComp elt [⟨.Name x px,iter,[],0⟩] scope pos) 0 (.ref it) (.ref s2.heap.objs.size) (compEnv scope G.objs.size X.env)) (RR (.ref s2.heap.objs.size) (compEnv scope G.objs.size X.env)) { s2 with heap:=h₁,toks:=tk }:=by
  intro tk
  obtain ⟨W,⟨m0,w0⟩,turn⟩:=h s2.heap.objs.size nD
  refine codeAny_loop rfl (fun n s'=>∃ i v H',Inv (X.comp scope G.objs.size x s2 H2 fp) [] [v] H' s'/\tn i s'.heap/\(∀ b ∈ fp,H' b = none)/\W i n H') (fun n s' hI=>?_) m0
   ⟨0,none,_,I3 tk,T.keep 0 _ _ st2 (fun b hb o e=>old b o e),fun b hb=>(by rw [yu (below b (fpl b hb)).2]; exact (f2 b hb).1),w0⟩
  obtain ⟨i,v,H',I,st,fr,w⟩:=hI
  show wpAny _ _ ((compTurn (.ListComp elt [⟨.Name x px,iter,[],0⟩] scope pos) 0 (.ref it) (.ref s2.heap.objs.size) (compEnv scope G.objs.size X.env)).onRaise (fun x=>do noteFrame x (compEnv scope G.objs.size X.env); theTreesLotGoes x)) _ _ s'
  refine wpAny_noted ?_
  rw [compTurn_list1]
  refine wpAny_bind (wpAny_standAt (wpAny_bind ?_))
  rcases turn i n H' w with ⟨stop,q⟩ | ⟨go,step⟩
  ·refine thn (T.done (X.comp scope G.objs.size x s2 H2 fp) rfl rfl rfl hc i [] s' [v] H' _ I (stat fr) st stop) fun r s4 ⟨hr,I4⟩=>?_
   subst hr
   refine wpAny_pure ?_
   obtain ⟨m,hn,_⟩:=I4.loc
   exact hR _ _ H' s4 m (I2.fpOk hCle I4.free) hn (I2.call' (ch:=fp) I4.os I4.base I4.hok I4.bare fun b hb=>⟨(f2 b hb).2.2.2.1,(f2 b hb).2.1,(f2 b hb).2.2.2.2.1,(f2 b hb).2.2.2.2.2⟩) q
  ·refine thn (T.item (X.comp scope G.objs.size x s2 H2 fp) rfl rfl rfl hc i [] s' [v] H' _ I (stat fr) st go) fun r s4 ⟨u,hr,h4⟩=>?_
   subst hr
   refine wpAny_bind (thn h4 fun _ s5 ⟨y,H5,I5,r5,y5,st5,fr5⟩=>wpAny_bind ?_)
   have I5':=I5.pinned (stat fr5) (T.obj _ _ st5)
   refine wpAny_assign_Name (jq (i:=0) I5' (by simp) rfl (Or.inl hx) r5 (fun s6 I6=>?_) (Or.inl rfl))
   refine wpAny_bind (wpAny_bind (ynt (he _ _ _ _ _ s6 [some y] H5 _ I6 (step y H5 y5)) fun u2 s7 ⟨y2,H7,I7,r7,ys,hD,hl,m',hm,w'⟩=>wpAny_bind ?_))
   refine ynt (wo _ s7 [some y] H7 (.ref s2.heap.objs.size) [y2] (.ref s2.heap.objs.size) [u2] (fun _ H8=>H8 = upd H7 s2.heap.objs.size (.lst (ys ++ [y2]))) I7 rfl (.cons r7 .nil) ⟨_,ys,y2,rfl,rfl,hD,hl,rfl⟩) fun _ s8 ⟨_,H8,I8,_,e8⟩=>?_
   subst e8
   have pin:∀ b ∈ fp,∀ o,s5.heap.get? b = some o->s8.heap.get? b = some o/\upd H7 s2.heap.objs.size (HO.lst (ys ++ [y2])) b = none:=fun b hb o e =>
    ⟨(I8.pin (b,o) (List.mem_append_right _ (List.mem_append_right _ (wf hb e)))).1,(I8.pin (b,o) (List.mem_append_right _ (List.mem_append_right _ (wf hb e)))).2.1⟩
   refine wpAny_pure (wpAny_pure ⟨rfl,m',hm,i + 1,some y,_,I8.unpinned,T.keep _ _ _ st5 fun b hb o e=>(pin b hb o e).1,fun b hb=>?_,w'⟩)
   obtain ⟨o,e,d⟩:=T.obj _ _ st5 b hb
   exact (pin b hb o e).2
 exact codeAny_compStart_list (loop _) (T.self X.A 0 _ _ _ (T.keep 0 _ _ st2 (fun b hb o e=>old b o e)) (loop _))
theorem u4 (hc:X.calm = true) (hi:PI X (.Name x px) iter wi) (he:∀ (C:Addr) (s2:Shared) (H2:Hp) (fp:List Addr),PE (X.comp scope C x s2 H2 fp) elt te)
  (hfree:∀ y ∈ scope.names,y.2 ≠ .free:=by decide +kernel) (hcell:∀ y ∈ scope.names,y.2 ≠ .cell:=by decide +kernel) (hkind:scope.kind = .function:=by rfl)
  (hnames:∀ y ∈ scope.names,y.2 = .local->scope.names.lookup y.1 = some .local:=by decide +kernel) (hx:scope.names.lookup x = some .local:=by rfl) (hs:∀ x,foldedSetIterable iter X.env x = pure x:=by intro _; rfl) :
  PE X (.ListComp elt [⟨.Name x px,iter,[],0⟩] scope pos) (yyr wi te):=by
 intro pins s σ H Q I h
 refine wpAny_ListComp hfree hkind hnames (thn (hi pins s σ H _ I h) fun v s1 h1=>thn h1 fun itv s2 h2=>?_) hs
 obtain ⟨it,fp,tn,J,H2,e,I2,T,st2,f2,h⟩:=h2
 subst e
 refine yk3 (R:=fun D H'=>Q (.ref D) H') (RR:=fun acc cenv r s'=>∃ m,s'.heap.Ns cenv.locals m/\∀ h',Heap.SameBut cenv.locals s'.heap h' ->
  match r with | .ok _=>EP X pins σ Q acc { s' with heap:=h' } | .error x=>wpAny (model X.prog X.w) X.A (passOn "comprehension.variables-let-go" x cenv) (EP X pins σ Q) X.xe { s' with heap:=h' }) hc he hfree hcell hkind hx I2 T st2 f2 h ?_
 intro D C H' s' m f hn I' q
 refine ⟨m,hn,fun h' sb=>⟨.ref D,H',?_,rfl,q⟩⟩
 exact I'.turned (t':=s'.toks) (fun b o hb e=>sb.extBut b o hb e) f.1 f.2.1 f.2.2.2.1 f.2.2.2.2.1 f.2.2.2.2.2
theorem yuv {wi:TI} {te:TE} {H:Hp} {Q:VK} (h:wi σ H fun J H1=>∀ D,H1 D = none->ybz J te D (fun H2=>Q (.ref D) H2) H1):yyr wi te σ H Q:=h
def cW (n:Nat) (Pv:Nat->Hp->Prop) (i m:Nat) (H:Hp):Prop:=m = n - i/\i <= n/\Pv i H
theorem uo {K:W.Frag} {a D:Addr} {xs:List V} {te:TE} {R:Hp->Prop} {H1:Hp} (Pv:Nat->Hp->Prop) (h0:Pv 0 (upd H1 D (.lst []))) (hl:∀ i H,i <= xs.length->Pv i H->SqL K H a xs)
  (hs:∀ i x H,xs[i]? = some x->i < xs.length->Pv i H->te [some x] H fun y H4=>∃ ys,H4 D = some (.lst ys)/\ys.length < sizeLine/\∃ m',m' < xs.length - i/\cW xs.length Pv (i + 1) m' (upd H4 D (.lst (ys ++ [y]))))
  (hd:∀ H,Pv xs.length H->R H):ybz (Itl K a) te D R H1:=by
 refine ⟨cW xs.length Pv,⟨xs.length,by simp,Nat.zero_le _,h0⟩,?_⟩
 rintro i m H ⟨rfl,hi,p⟩
 have q:=hl i H hi p
 by_cases hlt:i < xs.length
 ·refine .inr ⟨⟨xs,xs[i],q,by simp [hlt]⟩,fun x H' y=>?_⟩
  obtain ⟨e,y⟩:=y
  subst e
  exact hs i x _ (y xs q) hlt p
 ·have e:i = xs.length:=by omega
  subst e
  exact .inl ⟨⟨xs,q,Nat.le_refl _⟩,hd H p⟩
theorem xu {n i:Nat} {Pv:Nat->Hp->Prop} {D:Addr} {ys:List V} {y:V} {H4:Hp} (hD:H4 D = some (.lst ys)) (hl:ys.length < sizeLine) (hi:i < n) (p:Pv (i + 1) (upd H4 D (.lst (ys ++ [y])))) :
  ∃ ys,H4 D = some (.lst ys)/\ys.length < sizeLine/\∃ m',m' < n - i/\cW n Pv (i + 1) m' (upd H4 D (.lst (ys ++ [y]))):=⟨ys,hD,hl,n - (i + 1),by omega,rfl,hi,p⟩
end
end L2
namespace L2
open PySem
def ytf:Expr->Bool
 | .Starred _ _=>false
 | _=>true
theorem yc {e:Expr} {es:List Expr} {env:Env} (h:ytf e = true):starEach (e :: es) env = (false,eval e env) :: starEach es env:=by
 cases e <;> first | rfl | cases h
end L2
namespace L2
open PySem PySem.Spec PyProof.Rows
structure yug (K:W.Frag) (C:Addr):Prop where
 hd:W.hasDictIn K C = true
 ga:W.findIn K (.ref C) "__getattribute__" = some (some (.builtin "BaseException.__getattribute__"))
 gt:W.findIn K (.ref C) "__getattr__" = some none
 ca:W.findIn K (.ref C) "__class__" = some (some (.builtin "object.__class__"))
 gg:W.specialIn K (.builtin "object.__class__") "__get__" = some (some (.builtin "getset_descriptor.__get__"))
 tk:W.takesIn K (.builtin "object.__class__") = some true
 mo:W.mroIn K C (.type "object") = some true
 mb:W.mroIn K C (.type "BaseException") = some true
theorem yvb {K:W.Frag} {C D:Addr} (h0:W.subIn K (.ref D) (.type "BaseException") = some true) (h1:W.hasDictIn K D = true) (h2:W.typeIn K (.ref D) = some (.type "type"))
  (h3:W.subIn K (.ref C) (.ref D) = some true):W.exmOne K (.ref C) (.ref D) = some true:=by
 obtain ⟨cd,h,_⟩:=W.any_some h1
 unfold W.exmOne W.kitCls
 rw [h0]
 dsimp only
 rw [h,h2,h3]
 rfl
def va1 (x C:Addr) (h:Heap):Prop:=∃ ox,h.get? x = some ox/\ox.cls = .ref C
section
variable {prog:Program} {w:World} {A:Around} {E:Value->Shared->Prop} {s:Shared} {K:W.Frag} {x C:Addr}
theorem va1.type {M:Model} {h:Heap} (I:va1 x C h):W.Looks M h (typeOf (.ref x)) (.ref C):=by
 obtain ⟨ox,h1,h2⟩:=I
 exact h2 ▸ (W.Looks.ld h1).andThen .now
end
section
variable {X:Cx}
end
end L2
namespace L2
open PySem PySem.Spec PyProof.Rows
theorem xk.there {P:Program} {w:World} {H:Hp} {h:Heap} {a:Addr} {o:HO} (x:xk P w H h a o):∃ ob,h.get? a = some ob:=by
 cases o with
 | lst xs=>obtain ⟨_,_,_,_,e⟩:=x; exact ⟨_,e⟩
 | tup xs=>obtain ⟨_,_,_,ob,e,_⟩:=x; exact ⟨_,e⟩
 | dK kvs=>obtain ⟨_,_,_,_,ob,_,_,e,_⟩:=x; exact ⟨_,e⟩
 | dT kvs=>obtain ⟨_,_,_,_,ob,_,_,e,_⟩:=x; exact ⟨_,e⟩
 | set S n=>obtain ⟨ob,_,_,_,e,_⟩:=x; exact ⟨_,e⟩
 | ins C dx fs=>obtain ⟨_,_,_,e,_⟩:=x; exact ⟨_,e⟩
 | own y=>exact x
 | xd fs=>obtain ⟨_,⟨_,_,_,e,_⟩,_⟩:=x; exact ⟨_,e⟩
 | rng lo hi=>obtain ⟨_,_,_,e⟩:=x; exact ⟨_,e⟩
 | frz ob u=>obtain ⟨e,_⟩:=x; exact ⟨_,e⟩
 | tbl ps=>exact ⟨_,(show h.get? a = some _ from x)⟩
 | met f y=>exact ⟨_,(show h.get? a = some _ from x)⟩
 | ext φ=>obtain ⟨_,e,_⟩:=x; exact e
theorem HOk.none_of {P:Program} {w:World} {H:Hp} {h:Heap} {a:Addr} (x:HOk P w H h) (e:h.get? a = none):H a = none:=by
 cases q:H a with
 | none=>rfl
 | some u =>
  obtain ⟨ob,z⟩:=(x a u q).there
  rw [e] at z
  cases z
def Fy (X:Cx) (pins:List (Addr × Obj)) (H:Hp) (b:Addr):Prop :=
 H b = none/\b ≠ X.env.locals/\b ∉ X.fs/\(b ∈ X.ex\/X.s₀.heap.get? b = none)/\(∀ y c,X.env.cells.lookup y = some c->c ≠ b)/\∀ p ∈ X.pn ++ pins,p.1 ≠ b
section
variable {X:Cx} {pins:List (Addr × Obj)} {σ:St} {H H':Hp} {s:Shared} {b x T:Addr} {h':Heap}
theorem yip (I:Inv X pins σ H s) (hb:s.heap.get? b = none) (hn:H' b = none):Fy X pins H' b:=by
 refine ⟨hn,?_,?_,?_,?_,?_⟩
 ·rintro rfl
  obtain ⟨_,⟨_,_,_,e,_⟩,_⟩:=I.loc
  rw [hb] at e; cases e
 ·intro z
  obtain ⟨_,o,e,_⟩:=I.funs.mem z
  rw [hb] at e; cases e
 ·by_cases hx:b ∈ X.ex
  ·exact .inl hx
  ·refine .inr ?_
   cases q:X.s₀.heap.get? b with
   | none=>rfl
   | some o =>
    obtain ⟨_,e⟩:=I.base.there b o q hx
    rw [hb] at e; cases e
 ·rintro y c e rfl
  obtain ⟨_,_,q,_⟩:=I.cell y c e
  rw [hb] at q; cases q
 ·intro p hp z
  have q:=(I.pin p hp).1
  rw [z,hb] at q; cases q
theorem Inv.fly (I:Inv X pins σ H s) (hx:Fy X pins H x) (hT:Fy X pins H T)
  (keep:∀ b o,b ≠ x->b ≠ T->b ∉ frs X.stack->s.heap.get? b = some o->h'.get? b = some o)
  (slot:∀ b o,b ∈ frs X.stack->s.heap.get? b = some o->∃ sl,h'.get? b = some { o with slots:=sl }):Inv X pins σ H { s with heap:=h' }:=by
 have ent:∀ {y b o},Fy X pins H y->X.s₀.heap.get? b = some o->b ∉ X.ex->b ≠ y:=fun {y b o} hy e he z=>by
  subst z
  rcases hy.2.2.2.1 with q | q
  ·exact he q
  ·rw [e] at q; cases q
 have any:∀ b o,b ≠ x->b ≠ T->s.heap.get? b = some o->∃ sl,h'.get? b = some { o with slots:=sl }:=fun b o h1 h2 e=>by
  by_cases z:b ∈ frs X.stack
  ·exact slot b o z e
  ·exact ⟨o.slots,keep b o h1 h2 z e⟩
 have cellK:∀ y c,X.env.cells.lookup y = some c->∀ v,s.heap.IsCell c v->h'.IsCell c v:=fun y c e v ⟨o,ho,hd⟩=>by
  obtain ⟨sl,q⟩:=any c o (hx.2.2.2.2.1 y c e) (hT.2.2.2.2.1 y c e) ho
  exact ⟨_,q,hd⟩
 refine ⟨I.ok,I.os,I.bare,⟨fun b o e n hb he=>?_,fun b o e n hb he=>?_,I.base.free,fun b o e he=>?_,I.base.tups,I.base.frzs,I.base.tbls⟩,?_,fun y c e=>?_,I.free,I.freeC,fun p hp=>?_,fun b u e=>?_,I.len⟩
 ·refine keep b o (ent hx e he) (ent hT e he) (fun z=>?_) (I.base.keep b o e n hb he)
  rcases List.mem_cons.mp (I.stkSub b z) with q | q
  ·exact absurd q (Nat.ne_of_lt (Nat.lt_of_lt_of_le (Heap.lt_size e) I.ok.above))
  ·exact hb q
 ·obtain ⟨sl,e1⟩:=I.base.slot b o e n hb he
  obtain ⟨sl',e2⟩:=any b _ (ent hx e he) (ent hT e he) e1
  exact ⟨sl',e2⟩
 ·obtain ⟨o',e1⟩:=I.base.there b o e he
  obtain ⟨sl',e2⟩:=any b _ (ent hx e he) (ent hT e he) e1
  exact ⟨_,e2⟩
 ·obtain ⟨m,hn,hl⟩:=I.loc
  refine ⟨m,?_,fun i y v e1 e2 e3=>?_⟩
  ·obtain ⟨o,es,ep,ho,r⟩:=hn
   obtain ⟨sl,q⟩:=any _ o (Ne.symm hx.2.1) (Ne.symm hT.2.1) ho
   exact ⟨_,es,ep,q,r⟩
  ·obtain ⟨u,r,l⟩:=hl i y v e1 e2 e3
   refine ⟨u,r,?_⟩
   rcases l with l | ⟨k,c,e,z⟩
   ·exact .inl l
   ·exact .inr ⟨k,c,e,cellK y c e _ z⟩
 ·obtain ⟨v,z⟩:=I.cell y c e
  exact ⟨v,cellK y c e v z⟩
 ·obtain ⟨e,n,ne,nf,d⟩:=I.pin p hp
  refine ⟨keep p.1 p.2 (hx.2.2.2.2.2 p hp) (hT.2.2.2.2.2 p hp) (fun z=>?_) e,n,ne,nf,d⟩
  rcases List.mem_cons.mp (I.stkSub _ z) with q | q
  ·exact ne q
  ·exact nf q
 ·have tr:∀ c v,H c = some v->c ≠ x/\c ≠ T/\c ∉ frs X.stack:=fun c v q =>
   ⟨fun z=>(by rw [z,hx.1] at q; cases q),fun z=>(by rw [z,hT.1] at q; cases q),fun z=>(by rw [I.stkFree c z] at q; cases q)⟩
  refine (I.hok b u e).stay (fun c v hc q=>?_) (fun _ q=>q) fun _ _ q=>q
  obtain ⟨z1,z2,z3⟩:c ≠ x/\c ≠ T/\c ∉ frs X.stack:=by
   rcases hc with rfl | hc
   ·exact tr _ _ e
   ·exact tr _ _ hc
  exact keep c v z1 z2 z3 q
def Trd (h:Heap) (x T:Addr) (C fl:Value):Prop :=
 ∃ oe vs oT ts a0,h.get? x = some oe/\(oe.cls = C/\vs[0]? = some a0)/\oe.data = .fields vs/\vs[1]? = some (.ref T)/\T ≠ x/\h.get? T = some oT/\oT.data = .fields ts/\ts[3]? = some fl
def hid (s:Shared) (X:Cx) (x T:Addr):Heap:=W.hideAll s.heap (x :: T :: frs X.stack)
theorem yga:(hid s X x T).StaysIn s.heap:=fun _ _ e=>W.of_hideAll _ e
theorem yt5:(hid s X x T).get? x = none:=W.hideAll_none _ (.head _)
theorem yz2:(hid s X x T).get? T = none:=W.hideAll_none _ (.tail _ (.head _))
theorem ygc (I:Inv X pins σ H s):s.heap.FunFrames (hid s X x T) X.stack :=
 W.funFrames_hide I.stack fun env he a ha=>.tail _ (.tail _ (List.mem_filterMap.mpr ⟨env,he,ha⟩))
theorem yiz {C fl:Value} (t:Trd s.heap x T C fl):∃ a0,s.heap.TracedAtW (hid s X x T) x C a0 fl:=by
 obtain ⟨oe,vs,oT,ts,a0,h1,h2,h3,h4,h5,h6,h7,h8⟩:=t
 exact ⟨a0,oe,vs,T,oT,ts,h1,h2,h3,h4,yz2,h5,h6,h7,h8⟩
theorem zf {C a0 fl:Value} (I:Inv X pins σ H s) (hx:Fy X pins H x) (hT:Fy X pins H T) (k1:(hid s X x T).StaysIn h') (k2:h'.FunFrames (hid s X x T) X.stack) (k3:h'.TracedAtW (hid s X x T) x C a0 fl)
  (k4:∀ b o,s.heap.get? b = some o->(∀ vs,o.data ≠ .fields vs)->∃ sl,h'.get? b = some { o with slots:=sl }) :
  Inv X pins σ H { s with heap:=h' }/\∃ T',Fy X pins H T'/\Trd h' x T' C fl:=by
 refine ⟨I.fly hx hT (fun b o n1 n2 n3 e=>k1 b o (W.hideAll_get _ e fun z=>?_)) fun b o hb e=>?_,?_⟩
 ·rcases List.mem_cons.mp z with z | z
  ·exact n1 z
  ·rcases List.mem_cons.mp z with z | z
   ·exact n2 z
   ·exact n3 z
 ·obtain ⟨_,o',e',nf⟩:=I.stack.mem hb
  rw [e] at e'; cases e'
  exact k4 b o e nf
 ·obtain ⟨oe,vs,T',oT,ts,h1,h2,h3,h4,h5,h6,h7,h8,h9⟩:=k3
  refine ⟨T',?_,oe,vs,oT,ts,a0,h1,h2,h3,h4,h6,h7,h8,h9⟩
  by_cases q:T' = T
  ·rw [q]; exact hT
  ·cases e:s.heap.get? T' with
   | none=>exact yip I e (I.hok.none_of e)
   | some o =>
    have z:T' ∈ frs X.stack:=Classical.byContradiction fun z=>by
     have:=W.hideAll_get (x :: T :: frs X.stack) e (fun m=>by
      rcases List.mem_cons.mp m with m | m
      ·exact h6 m
      ·rcases List.mem_cons.mp m with m | m
       ·exact q m
       ·exact z m)
     rw [show (W.hideAll s.heap (x :: T :: frs X.stack)).get? T' = none from h5] at this
     cases this
    obtain ⟨_,o',e',nf⟩:=k2.mem z
    rw [h7] at e'; cases e'
    exact absurd h8 (nf _)
end
def CXe (P:Program) (w:World):CXT:=fun outer H s E e s'=>∃ x T C H',e = .ref x/\s'.os = s.os/\AllBare s'.gens/\Un (frs outer) [] H H' s.heap s'.heap/\HOk P w H' s'.heap /\
 (H' x = none/\s.heap.get? x = none)/\(H' T = none/\s.heap.get? T = none)/\Trd s'.heap x T C .none/\E C none H'
def yei (X:Cx) (Ex:St->XK):Prop:=∀ (pins:List (Addr × Obj)) (σ:St) (H:Hp) (s':Shared) (x T:Addr) (C:Value),Inv X pins σ H s'->Fy X pins H x->Fy X pins H T->Trd s'.heap x T C .none->Ex σ C none H->X.xe (.ref x) s'
theorem v8 {P:Program} {w:World} {K:W.Frag} {mg:Str->Option Value} {base:Heap} {N:List Str} {qual:Str} {scope:Scope} {f:Addr} {cd:Value} {A:Around} {outer:List Env} {s:Shared} {H:Hp} {E:XK} :
  yei (wc (CXe P w) P w K mg base N qual scope f cd A outer s H E) (fun _=>E):=by
 intro pins σ H1 s' x T C I hx hT tr q
 show wpAny _ _ (leaving _ _) _ _ _
 obtain ⟨a0,ta⟩:=yiz (X:=wc (CXe P w) P w K mg base N qual scope f cd A outer s H E) tr
 refine wpAny_leaving_nextW (base:=hid s' (wc (CXe P w) P w K mg base N qual scope f cd A outer s H E) x T) (L:=s.heap.objs.size) I.ok.frames (ygc I) rfl ta yga yt5 fun h' ⟨k1,k2,k3,k4⟩=>?_
 obtain ⟨I',T',hT',t'⟩:=zf I hx hT k1 k2 k3 k4
 have new:∀ {b},Fy (wc (CXe P w) P w K mg base N qual scope f cd A outer s H E) pins H1 b->H1 b = none/\s.heap.get? b = none:=fun hb=>⟨hb.1,hb.2.2.2.1.resolve_left (by intro z; cases z)⟩
 exact ⟨x,T',C,H1,rfl,I'.os,I'.bare,I'.base,I'.hok,new hx,new hT',t',q⟩
theorem yn4 {P:Program} {w:World} {K:W.Frag} {mg:Str->Option Value} {base:Heap} {N:List Str} {qual:Str} {scope:Scope} {f:Addr} {cd:Value} {A:Around} {outer:List Env} {s:Shared} {H:Hp} {E:XK}
  {pins:List (Addr × Obj)} {σ:St} {H1:Hp} {s1:Shared} {h':Heap} {x:Addr} {C:Value} {vs:List Value} (I:Inv (wc (CXe P w) P w K mg base N qual scope f cd A outer s H E) pins σ H1 s1) (m:Heap.MadeExcOf s1.heap h' x C vs) (q:E C none H1) :
  (wc (CXe P w) P w K mg base N qual scope f cd A outer s H E).xe (.ref x) { s1 with heap:=h' }:=by
 obtain ⟨t,he,_,_⟩:=m.there
 have hx:Fy (wc (CXe P w) P w K mg base N qual scope f cd A outer s H E) pins H1 x:=yip I m.new (I.hok.none_of m.new)
 have I1:Inv (wc (CXe P w) P w K mg base N qual scope f cd A outer s H E) pins σ H1 { s1 with heap:=h' }:=I.kept (t':=s1.toks) m.keeps
 show wpAny _ _ (leaving _ _) _ _ _
 refine wpAny_leaving_firstW (base:=hid { s1 with heap:=h' } (wc (CXe P w) P w K mg base N qual scope f cd A outer s H E) x x) (L:=s.heap.objs.size) (a0:=.ref t) I1.ok.frames (ygc I1) rfl he yga yt5 rfl rfl rfl fun h'' ⟨k1,k2,k3,k4⟩=>?_
 obtain ⟨I',T',hT',t'⟩:=zf I1 hx hx k1 k2 k3 k4
 have new:∀ {b},Fy (wc (CXe P w) P w K mg base N qual scope f cd A outer s H E) pins H1 b->H1 b = none/\s.heap.get? b = none:=fun hb=>⟨hb.1,hb.2.2.2.1.resolve_left (by intro z; cases z)⟩
 exact ⟨x,T',C,H1,rfl,I'.os,I'.bare,I'.base,I'.hok,new hx,new hT',t',q⟩
end L2
namespace L2
open PySem PySem.Spec PyProof.Rows
def yq0 (sp:Sp) (dvs:List V) (Ex:St->XK) (t:TA):TE:=fun σ H Q=>t σ H fun vs H1=>sp (vs ++ dvs) H1 Q (Ex σ)
def ygd (C:Addr) (m:Str) (sp:Sp) (dvs:List V) (Ex:St->XK) (ta:TE) (t:TA):TE:=fun σ H Q=>ta σ H fun x H1=>∃ a dx fs,x = .ref a/\H1 a = some (.ins C dx fs)/\fs.lookup m = none /\
 t σ H1 fun vs H2=>sp (x :: (vs ++ dvs)) H2 Q (Ex σ)
def yqx (C:Addr) (sp:Sp) (dvs:List V) (Ex:St->XK) (t:TA):TE:=fun σ H Q=>t σ H fun vs H1=>∀ x dx,H1 x = none->H1 dx = none->dx ≠ x ->
 sp (.ref x :: (vs ++ dvs)) (upd (upd H1 dx (.own x)) x (.ins C dx [])) (fun v H2=>v = .non/\Q (.ref x) H2) (Ex σ)
section
variable {X:Cx} {k:Nat} {f C:Addr} {fd:FuncData} {ps:List Str} {sp:Sp} {dvs:List V} {ds:List Value} {Ex:St->XK} {x m:Str} {p pos apos:Pos} {e o:Expr} {es:List Expr} {ta:TE} {t:TA}
theorem Inv.came {pins:List (Addr × Obj)} {σ:St} {H:Hp} {s s':Shared} {v:Value} (I:Inv X pins σ H s) (hc:yei X Ex) (h:CXe X.prog X.w X.stack H s (Ex σ) v s'):X.xe v s':=by
 obtain ⟨y,T,D,H',rfl,os,bare,un,hok,hy,hT,tr,q⟩:=h
 exact hc pins σ H' s' y T D (I.call' os un hok bare fun b z=>absurd z (by simp)) (yip I hy.2 hy.1) (yip I hT.2 hT.1) tr q
theorem ymf {pins:List (Addr × Obj)} {σ:St} {H:Hp} {s:Shared} {Q:VK} {us:List Value} {vs:List V} (F:we X.prog X.w X.K X.mg X.base (CXe X.prog X.w) k f fd ps sp) (hr:z5 k X.A) (hb:y9 X.K fd ps ds) (hd:wg dvs ds) (hc:yei X Ex)
  (I:Inv X pins σ H s) (r:wg vs us) (h:sp (vs ++ dvs) H Q (Ex σ)):wpAny (model X.prog X.w) X.A (call (.ref f) us) (EP X pins σ Q) X.xe s:=by
 have r2:wg (vs ++ dvs) (us ++ ds):=r.append hd
 have hl:(us ++ ds).length = ps.length:=by rw [<- r2.length]; exact F.len _ _ _ _ h
 refine wpAny_call (codeAny_mono (F.run X.A X.stack s H ⟨us,[]⟩ (us ++ ds) (vs ++ dvs) Q (Ex σ) hr I.env0 (hb s us I.kIn hl) r2 h) fun r s' hq=>?_)
 cases r with
 | error e=>exact I.came hc hq
 | ok fl =>
  cases fl with
  | ret u=>exact I.after hq
  | next=>exact False.elim hq
  | brk=>exact False.elim hq
  | cont=>exact False.elim hq
theorem vv (F:we X.prog X.w X.K X.mg X.base (CXe X.prog X.w) k f fd ps sp) (hr:z5 k X.A) (hg:Gl X x) (hm:X.mg x = some (.ref f)) (hk:W.keepIn X.K (.ref f) = true) (hb:y9 X.K fd ps ds) (hd:wg dvs ds) (hc:yei X Ex)
  (ha:PA X (e :: es) t) (hdb:(x == ("__debug__":Str)) = false:=by decide) (he:starEach (e :: es) X.env = (false,eval e X.env) :: starEach es X.env:=by rfl) (hpl:(backTo pos (starEach es X.env)).any (·.1) = false:=by rfl) :
  PE X (.Call (.Name x p) (e :: es) [] pos) (yq0 sp dvs Ex t):=by
 intro pins s σ H Q I h
 refine wpAny_Call_Name_kw (zj I hg hm ?_ hdb)
 refine W.callWith_K (h₀:=X.base) I.ok.mod.kin hk (thn (ha pos pins s σ H _ I h) fun us s1 ⟨vs,H1,I1,r,q⟩=>⟨I1.kIn,?_⟩) he hpl
 exact ymf F hr hb hd hc I1 r q
theorem ux {pl:Sem Bool} (he:PE X o ta) (c:Cls X.K C) (hm:yag X.K C m f) (F:we X.prog X.w X.K X.mg X.base (CXe X.prog X.w) k f fd ps sp) (hr:z5 k X.A) (hb:y9 X.K fd ps ds) (hd:wg dvs ds) (hc:yei X Ex) (ha:PA X (e :: es) t)
  (hst:starEach (e :: es) X.env = (false,eval e X.env) :: starEach es X.env:=by rfl) (hpl:(backTo pos (starEach es X.env)).any (·.1) = false:=by rfl)
  (ht:eval (.Call (.Attribute o m apos) (e :: es) [] pos) X.env = (do
   let ov <- eval o X.env
   standAt apos.atName
   let (f,first) <- holding [ov] (getMethod ov m pl)
   callWith pos f first (backTo pos (starEach (e :: es) X.env)) (backToKw pos (keywordEach [] X.env))):=by rfl) :
  PE X (.Call (.Attribute o m apos) (e :: es) [] pos) (ygd C m sp dvs Ex ta t):=by
 intro pins s σ H Q I h
 refine W.methodCall_KW (pl:=pl) (thn (he pins s σ H _ I h) fun u s1 ⟨x,H1,I1,rx,a,dx,fs,ex,ea,l,q⟩=>?_) ht
 subst ex
 obtain rfl:u = Value.ref a:=rx
 refine j7 I1 ea c hm l ?_
 refine W.callWith_K (first:=[.ref a]) (h₀:=X.base) I.ok.mod.kin hm.kp (thn (ha pos pins s1 σ H1 _ I1 q) fun us s2 ⟨vs,H2,I2,r,q2⟩=>⟨I2.kIn,?_⟩) hst hpl
 exact ymf (us:=.ref a :: us) (vs:=.ref a :: vs) F hr hb hd hc I2 (.cons rfl r) q2
theorem ykz {pins:List (Addr × Obj)} {σ:St} {H:Hp} {s:Shared} {Q:VK} {us:List Value} {vs:List V} (M:Mk X.K C f) (F:we X.prog X.w X.K X.mg X.base (CXe X.prog X.w) k f fd ps sp) (hr:z5 (k + 1) X.A) (hb:y9 X.K fd ps ds) (hd:wg dvs ds)
  (hc:yei X Ex) (I:Inv X pins σ H s) (r:wg vs us)
  (h:∀ x dx,H x = none->H dx = none->dx ≠ x->sp (.ref x :: (vs ++ dvs)) (upd (upd H dx (.own x)) x (.ins C dx [])) (fun v H2=>v = .non/\Q (.ref x) H2) (Ex σ)) :
  wpAny (model X.prog X.w) X.A (call (.ref C) us) (EP X pins σ Q) X.xe s:=by
 have hq:=h (s.heap.objs.size + 1) s.heap.objs.size (I.hok.fresh (Nat.le_succ _)) (I.hok.fresh (Nat.le_refl _)) (Nat.ne_of_lt (Nat.lt_succ_self _))
 have I2:=Inv.made (C:=C) I
 have r2:wg (V.ref (s.heap.objs.size + 1) :: (vs ++ dvs)) (Value.ref (s.heap.objs.size + 1) :: (us ++ ds)):=.cons rfl (r.append hd)
 have hl:(Value.ref (s.heap.objs.size + 1) :: us ++ ds).length = ps.length:=by
  have e:=r2.length
  rw [F.len _ _ _ _ hq] at e
  exact e.symm
 refine wpAny_call (yia (f:=f) I.kIn M.makes M.init (beq_iff_eq.mp M.fn) (codeAny_mono (F.run _ X.stack _ _ ⟨Value.ref (s.heap.objs.size + 1) :: us,[]⟩ (Value.ref (s.heap.objs.size + 1) :: (us ++ ds)) _ _ (Ex σ) (hr.make C us [])
  (I2.env0.make C us []) (hb _ (Value.ref (s.heap.objs.size + 1) :: us) I2.kIn hl) r2 hq) fun r s' hq'=>?_))
 cases r with
 | error e=>exact I2.came hc hq'
 | ok fl =>
  cases fl with
  | ret u =>
   obtain ⟨v,H',I3,rv,ev,q3⟩:=I2.after hq'
   subst ev
   exact ⟨rv,⟨V.ref (s.heap.objs.size + 1),H',I3,rfl,q3⟩⟩
  | next=>exact False.elim hq'
  | brk=>exact False.elim hq'
  | cont=>exact False.elim hq'
theorem ycq (M:Mk X.K C f) (F:we X.prog X.w X.K X.mg X.base (CXe X.prog X.w) k f fd ps sp) (hr:z5 (k + 1) X.A) (hg:Gl X x) (hm:X.mg x = some (.ref C)) (hb:y9 X.K fd ps ds) (hd:wg dvs ds) (hc:yei X Ex)
  (ha:PA X (e :: es) t) (hdb:(x == ("__debug__":Str)) = false:=by decide) (he:starEach (e :: es) X.env = (false,eval e X.env) :: starEach es X.env:=by rfl) (hpl:(backTo pos (starEach es X.env)).any (·.1) = false:=by rfl) :
  PE X (.Call (.Name x p) (e :: es) [] pos) (yqx C sp dvs Ex t):=by
 intro pins s σ H Q I h
 refine wpAny_Call_Name_kw (zj I hg hm ?_ hdb)
 refine W.callWith_K (h₀:=X.base) I.ok.mod.kin M.kp (thn (ha pos pins s σ H _ I h) fun us s1 ⟨vs,H1,I1,r,q⟩=>⟨I1.kIn,?_⟩) he hpl
 exact ykz M F hr hb hd hc I1 r q
end
theorem PS.nox {X:Cx} {st:Stmt} {t:TS} (h:PS X.nox st t):PS X st t:=fun pins s σ H D I hw =>
 wpAny_mono (h pins s σ H D (I.wish _) hw) (fun _ _ q=>q.unwish) fun _ _ z=>False.elim z
section
variable {P:Program} {w:World} {K:W.Frag} {mg:Str->Option Value} {base:Heap}
theorem w4 {X:Cx}:yei X (fun _ _ _ _=>False):=fun _ _ _ _ _ _ _ _ _ _ _ q=>q.elim
theorem Fun.okE {x qual:Str} {st:Stmt} {f:Addr} {fd:FuncData} {N ps:List Str} {k:Nat} {sp:Sp} (F:Fun K x qual st f fd) (S:yn N ps (ya st)) (len:∀ vs H Q E,sp vs H Q E->vs.length = ps.length)
  (hbody:∀ (cdv:Value) (A:Around) (outer:List Env) (s:Shared) (H:Hp) (vs:List V) (Q:VK) (E:XK),z5 k (A.deeper (envOfC qual (ya st) s.heap.objs.size f cdv))->sp vs H Q E ->
   ∃ t,PSs (wc (CXe P w) P w K mg base N qual (ya st) f cdv A outer s H E) (yf st) t/\t { nx:=fun _ H'=>Q .non H',rt:=Q } (yad N vs) H):we P w K mg base (CXe P w) (k + 1) f fd ps sp:=by
 obtain ⟨oc,od,kV,doc,pm,an,cdv,ct,osl,rfl,lk,hcd⟩:=F.ex
 exact ypf lk hcd S len fun A outer s H vs Q E hr hsp=>hbody cdv A outer s H vs Q E hr hsp
end
abbrev bmV:List Value:=[.type "ValueError",.type "Exception",.type "BaseException",.type "object"]
abbrev XMk (K:W.Frag) (C:Addr):Prop:=W.excIn K C bmV "ValueError.__new__" = true
theorem yr2 {K:W.Frag} {h:Heap} {C:Addr} {bmB:List Value} {newId:String} (X:K.In h) (q:W.excIn K C bmB newId = true) :
  ∃ bm N nm qn bs hdct sn sub ab col dd k0 k1 k2 k3 k5 mN,h.get? C = some (excClassObj nm qn C N bs bm hdct sn sub ab col dd k0 k1 k2 k3 k5 newId)/\h.Ns N mN/\mN "__init__" = none/\OwnTail h bmB bm:=by
 unfold W.excIn at q
 split at q
 ·rename_i dd cd sl ho
  split at q
  ·rename_i C' bm k0 k1 k2 k3 n k5 hm hs
   simp only [Bool.and_eq_true,beq_iff_eq,Bool.not_eq_true'] at q
   obtain ⟨⟨⟨⟨⟨rfl,rfl⟩,hdel⟩,ht⟩,hok⟩,hni⟩:=q
   obtain ⟨nm,bs,mro,ns,qn,hd,sn,sub,ab,col,del⟩:=cd
   dsimp only at hm hdel hok hni
   subst hm hdel
   obtain ⟨l⟩:=sl
   have hs:l = [k0,k1,k2,k3,some (.builtin n),k5]:=hs
   subst hs
   exact ⟨bm,ns,nm,qn,bs,hd,sn,sub,ab,col,dd,k0,k1,k2,k3,k5,_,X _ _ ho,.of_isNs (W.isNs_of_in X hok),W.nsMap_none_of_in X hok hni,W.tail_of_in X ht⟩
  ·cases q
 ·cases q
def yrt (E:XK) (C:Addr) (t:TA):TS:=fun _ σ H=>t σ H fun vs H1=>vs.length <= sizeLine/\E (.ref C) none H1
theorem xp {P:Program} {w:World} {K:W.Frag} {mg:Str->Option Value} {base:Heap} {N:List Str} {qual:Str} {scope:Scope} {f:Addr} {cd:Value} {A:Around} {outer:List Env} {s:Shared} {H:Hp} {E:XK}
  {C:Addr} {x:Str} {np cpos pos:Pos} {e₀:Expr} {j5:List Expr} {t:TA} (hg:Gl (wc (CXe P w) P w K mg base N qual scope f cd A outer s H E) x) (hm:mg x = some (.ref C)) (hC:XMk K C)
  (ha:PA (wc (CXe P w) P w K mg base N qual scope f cd A outer s H E) (e₀ :: j5) t)
  (he:starEach (e₀ :: j5) (envOfC qual scope s.heap.objs.size f cd) = (false,eval e₀ (envOfC qual scope s.heap.objs.size f cd)) :: starEach j5 (envOfC qual scope s.heap.objs.size f cd):=by rfl)
  (hplain:(backTo cpos (starEach j5 (envOfC qual scope s.heap.objs.size f cd))).any (·.1) = false:=by rfl) (hdb:(x == ("__debug__":Str)) = false:=by decide) :
  PS (wc (CXe P w) P w K mg base N qual scope f cd A outer s H E) (.Raise (some (.Call (.Name x np) (e₀ :: j5) [] cpos)) none pos) (yrt E C t):=by
 intro pins s1 σ H1 D I h
 obtain ⟨tl,NN,nm,q,bs,hdct,sn,sub,ab,col,dd,k0,k1,k2,k3,k5,mN,hCo,hN,hni,T⟩:=yr2 I.mod.kin hC
 refine wpAny_Raise_call_subT (C:=C) (nm:=nm) (q:=q) (N:=NN) (bs:=bs) (bm:=tl) (hdct:=hdct) (sn:=sn) (sub:=sub) (ab:=ab) (col:=col) (dd:=dd) (k0:=k0) (k1:=k1) (k2:=k2) (k3:=k3) (k5:=k5)
  F.excBase_ValueError (mN:=mN) (T.hasType F.excBase_ValueError.hasBase) (I.ok.hd rfl) (by
   show (backTo cpos (starEach (e₀ :: j5) (envOfC qual scope s.heap.objs.size f cd))).any (·.1) = false
   rw [he]; show (false || (backTo cpos (starEach j5 (envOfC qual scope s.heap.objs.size f cd))).any (·.1)) = false; rw [hplain]; rfl) hni (zj I hg hm ⟨rfl,?_⟩ hdb)
 have h2:=ha cpos pins s1 σ H1 _ I h
 have he':starEach (e₀ :: j5) (wc (CXe P w) P w K mg base N qual scope f cd A outer s H E).env = (false,eval e₀ (wc (CXe P w) P w K mg base N qual scope f cd A outer s H E).env) :: starEach j5 (wc (CXe P w) P w K mg base N qual scope f cd A outer s H E).env:=he
 rw [he'] at h2 ⊢
 refine Calls.evalArgs_plain (wpAny_mono h2 (fun vs s₂ ⟨xs,H2,I2,r,hl,q2⟩=>⟨rfl,by rw [<- r.length]; exact hl,I2.bk _ _ hCo,hN.keeps I2.bk,T.keeps I2.bk,fun h' y m=>yn4 I2 m q2⟩) fun _ _ y=>y)
end L2
namespace L2
open PySem PySem.Spec PyProof.Rows
section
variable {X:Cx} {pins:List (Addr × Obj)} {σ:St} {H:Hp} {s:Shared} {x T:Addr}
abbrev Cx.pnd (X:Cx) (pn:List (Addr × Obj)):Cx:={ X with pn:=pn }
theorem Cx.Ok.pnd (ok:X.Ok) (pn:List (Addr × Obj)):(X.pnd pn).Ok :=
 ⟨ok.mod,ok.kind,ok.glob,ok.blt,ok.above,ok.inj,ok.has,ok.cab,ok.hd,ok.frames,ok.stk,ok.exf,ok.bs,ok.bsz,ok.noex,ok.exfs,ok.funs,ok.frf⟩
theorem Cx.Ok.unpnd {pn:List (Addr × Obj)} (ok:(X.pnd pn).Ok):X.Ok :=
 ⟨ok.mod,ok.kind,ok.glob,ok.blt,ok.above,ok.inj,ok.has,ok.cab,ok.hd,ok.frames,ok.stk,ok.exf,ok.bs,ok.bsz,ok.noex,ok.exfs,ok.funs,ok.frf⟩
theorem Inv.pnd (I:Inv X pins σ H s):Inv (X.pnd (X.pn ++ pins)) [] σ H s :=
 ⟨I.ok.pnd _,I.os,I.bare,I.base,I.loc,I.cell,I.free,I.freeC,fun p hp=>I.pin p (by simpa using hp),I.hok,I.len⟩
theorem Inv.unpnd {ps:List (Addr × Obj)} (I:Inv (X.pnd (X.pn ++ pins)) ps σ H s):Inv X pins σ H s :=
 ⟨I.ok.unpnd,I.os,I.bare,I.base,I.loc,I.cell,I.free,I.freeC,fun p hp=>I.pin p (List.mem_append_left _ hp),I.hok,I.len⟩
def XT (Y:Cx) (Ex:St->XK) (e:Value) (s':Shared):Prop:=∃ pins σ H x T C,e = .ref x/\Inv Y pins σ H s'/\Fy Y pins H x/\Fy Y pins H T/\Trd s'.heap x T C .none/\Ex σ C none H
abbrev Cx.tr (X:Cx) (pn:List (Addr × Obj)) (Ex:St->XK):Cx:=(X.pnd pn).wish (XT (X.pnd pn) Ex)
theorem yhw {pn:List (Addr × Obj)} {Ex:St->XK}:yei (X.tr pn Ex) Ex:=fun pins σ H _ x T C I hx hT tr q=>⟨pins,σ,H,x,T,C,rfl,I.unwish,hx,hT,tr,q⟩
abbrev Cx.su (X:Cx) (pn:List (Addr × Obj)) (x:Addr):Cx:={ X with A:=X.A.mark (some (.ref x)),calm:=false,pn:=pn,xe:=fun _ _=>False }
theorem Inv.su (I:Inv X pins σ H s) (x:Addr):Inv (X.su (X.pn ++ pins) x) [] σ H s :=
 ⟨⟨I.ok.mod,I.ok.kind,I.ok.glob,I.ok.blt,I.ok.above,I.ok.inj,I.ok.has,I.ok.cab,fun z=>(by cases z),I.ok.frames,I.ok.stk,I.ok.exf,I.ok.bs,I.ok.bsz,I.ok.noex,I.ok.exfs,I.ok.funs,I.ok.frf⟩,
  I.os,I.bare,I.base,I.loc,I.cell,I.free,I.freeC,fun p hp=>I.pin p (by simpa using hp),I.hok,I.len⟩
theorem Inv.unsu (I:Inv (X.su (X.pn ++ pins) x) [] σ H s) (ok:X.Ok):Inv X pins σ H s :=
 ⟨ok,I.os,I.bare,I.base,I.loc,I.cell,I.free,I.freeC,fun p hp=>I.pin p (List.mem_append_left _ hp),I.hok,I.len⟩
end
def ygk.un (D:ygk) (i:Nat):ygk:=⟨fun σ H=>D.nx (σ.set i none) H,D.rt,fun σ H=>D.bk (σ.set i none) H,fun σ H=>D.ct (σ.set i none) H⟩
section
variable {X:Cx} {body suite:List Stmt} {b₀:Stmt} {tx n:Str} {np hpos pos:Pos} {D:Addr} {i:Nat} {tb:(St->XK)->TS} {ts:TS}
end
section
variable {σ:St} {H:Hp} {Q:VK} {tr:TA} {ta:TE} {nx:St->Hp->Prop} {rt:VK} {bk ct:St->Hp->Prop} {ts:TS}
theorem yt0 {sp:Sp} {dvs:List V} {Ex:St->XK} (h:tr σ H fun vs H1=>sp (vs ++ dvs) H1 Q (Ex σ)):yq0 sp dvs Ex tr σ H Q:=h
theorem yc1 {C:Addr} {m:Str} {sp:Sp} {dvs:List V} {Ex:St->XK} (h:ta σ H fun x H1=>∃ a dx fs,x = .ref a/\H1 a = some (.ins C dx fs)/\fs.lookup m = none/\tr σ H1 fun vs H2=>sp (x :: (vs ++ dvs)) H2 Q (Ex σ)):ygd C m sp dvs Ex ta tr σ H Q:=h
theorem ytu {C:Addr} {sp:Sp} {dvs:List V} {Ex:St->XK} (h:tr σ H fun vs H1=>∀ x dx,H1 x = none->H1 dx = none->dx ≠ x->sp (.ref x :: (vs ++ dvs)) (upd (upd H1 dx (.own x)) x (.ins C dx [])) (fun v H2=>v = .non/\Q (.ref x) H2) (Ex σ)):yqx C sp dvs Ex tr σ H Q:=h
theorem ysp {E:XK} {C:Addr} {D:ygk} (h:tr σ H fun vs H1=>vs.length <= sizeLine/\E (.ref C) none H1):yrt E C tr D σ H:=h
end
end L2
namespace L2
open PySem PySem.Spec PyProof.Rows
section
variable {κ:Type} [DecidableEq κ]
def yan (kvs:List (κ × V)) (k:κ):Option V:=(kvs.find? fun kv=>decide (kv.1 = k)).map (·.2)
def ygj (kvs:List (κ × V)) (k:κ) (v:V):List (κ × V) :=
 if (kvs.any fun kv=>decide (kv.1 = k)) = true then kvs.map (fun kv=>if kv.1 = k then (kv.1,v) else kv) else kvs ++ [(k,v)]
theorem xg {p:κ × V} {r:List (κ × V)} {k:κ} (e:p.1 = k):yan (p :: r) k = some p.2:=by simp [yan,List.find?_cons,e]
theorem xh {p:κ × V} {r:List (κ × V)} {k:κ} (e:¬ p.1 = k):yan (p :: r) k = yan r k:=by simp [yan,List.find?_cons,e]
theorem jp (k:κ):∀ kvs:List (κ × V),(kvs.any fun kv=>decide (kv.1 = k)) = (yan kvs k).isSome
 | []=>rfl
 | p :: r=>by
  rw [List.any_cons]
  by_cases e:p.1 = k
  ·simp only [xg e,decide_eq_true e,Bool.true_or,Option.isSome_some]
  ·rw [xh e,decide_eq_false e,Bool.false_or]; exact jp k r
theorem yij (k j:κ) (y:V):∀ kvs:List (κ × V),yan (kvs.map fun kv=>if kv.1 = k then (kv.1,y) else kv) j = (yan kvs j).map fun x=>if j = k then y else x
 | []=>rfl
 | p :: r=>by
  have ih:=yij k j y r
  rw [List.map_cons]
  by_cases h:p.1 = k
  ·rw [if_pos h]
   by_cases e:p.1 = j
   ·rw [xg (p:=(p.1,y)) e,xg e,Option.map_some,if_pos (e.symm.trans h)]
   ·rw [xh (p:=(p.1,y)) e,xh e,ih]
  ·rw [if_neg h]
   by_cases e:p.1 = j
   ·rw [xg (p:=p) e,xg e,Option.map_some,if_neg (fun z=>h (e.trans z))]
   ·rw [xh (p:=p) e,xh e,ih]
theorem yfs (k j:κ) (y:V):∀ kvs:List (κ × V),yan kvs k = none->yan (kvs ++ [(k,y)]) j = if j = k then some y else yan kvs j
 | [],_=>by
  by_cases e:k = j
  ·rw [if_pos e.symm]; exact xg (p:=(k,y)) e
  ·rw [if_neg (fun z=>e z.symm)]; exact xh (p:=(k,y)) e
 | p :: r,hn=>by
  rw [List.cons_append]
  have hk:¬ p.1 = k:=fun z=>by rw [xg z] at hn; cases hn
  rw [xh hk] at hn
  have ih:=yfs k j y r hn
  by_cases e:p.1 = j
  ·rw [xg e,xg e,if_neg (fun z=>hk (e.trans z))]
  ·rw [xh e,xh e,ih]
theorem ycx (kvs:List (κ × V)) (k j:κ) (y:V):yan (ygj kvs k y) j = if j = k then some y else yan kvs j:=by
 unfold ygj
 by_cases a:(kvs.any fun kv=>decide (kv.1 = k)) = true
 ·rw [if_pos a,yij]
  rw [jp] at a
  by_cases e:j = k
  ·obtain ⟨x,hx⟩:=Option.isSome_iff_exists.mp a
   rw [if_pos e,e,hx,Option.map_some,if_pos rfl]
  ·rw [if_neg e]
   cases yan kvs j with
   | none=>rfl
   | some x=>rw [Option.map_some,if_neg e]
 ·rw [if_neg a]
  refine yfs k j y kvs ?_
  rw [jp] at a
  cases q:yan kvs k with
  | none=>rfl
  | some x=>rw [q] at a; exact (a rfl).elim
theorem ya3 (kvs:List (κ × V)) (k:κ) (v:V):(ygj kvs k v).length <= kvs.length + 1:=by
 unfold ygj
 split
 ·rw [List.length_map]; omega
 ·rw [List.length_append,List.length_cons,List.length_nil]; omega
theorem yo6 {kvs:List (κ × V)} {k:κ} (v:V) (h:yan kvs k = none):ygj kvs k v = kvs ++ [(k,v)]:=by
 unfold ygj
 rw [jp,h]
 exact if_neg (by decide)
theorem ygh.isSome_eq {o:Option V} {u:Option Value} (r:ygh o u):o.isSome = u.isSome:=by
 cases o with
 | none=>cases u with
  | none=>rfl
  | some _=>exact (show False from r).elim
 | some _=>cases u with
  | none=>exact (show False from r).elim
  | some _=>rfl
theorem KV.val {kvs:List (κ × V)} {vs:List (κ × Value)} (r:KV kvs vs) (k:κ):ygh (yan kvs k) (valueAt vs k):=by
 unfold KV at r
 induction r with
 | nil=>exact True.intro
 | @cons p q ps qs h t ih =>
  obtain ⟨h1,h2⟩:=h
  by_cases e:p.1 = k
  ·have e':q.1 = k:=h1.symm.trans e
   have b:valueAt (q :: qs) k = some q.2:=by simp [valueAt,List.find?_cons,e']
   rw [xg e,b]; exact h2
  ·have e':¬ q.1 = k:=fun z=>e (h1.trans z)
   have b:valueAt (q :: qs) k = valueAt qs k:=by simp [valueAt,List.find?_cons,e']
   rw [xh e,b]; exact ih
theorem KV.any {kvs:List (κ × V)} {vs:List (κ × Value)} (r:KV kvs vs) (k:κ):(kvs.any fun kv=>decide (kv.1 = k)) = vs.any fun kv=>decide (kv.1 = k):=by
 unfold KV at r
 induction r with
 | nil=>rfl
 | cons h t ih=>rw [List.any_cons,List.any_cons,ih,h.1]
theorem KV.repl {kvs:List (κ × V)} {vs:List (κ × Value)} (r:KV kvs vs) (k:κ) {y:V} {u:Value} (ry:w8 y u) :
  KV (kvs.map fun kv=>if kv.1 = k then (kv.1,y) else kv) (vs.map fun kv=>if kv.1 = k then (kv.1,u) else kv):=by
 unfold KV at r ⊢
 induction r with
 | nil=>exact .nil
 | @cons p q ps qs h t ih =>
  rw [List.map_cons,List.map_cons]
  refine .cons ?_ ih
  obtain ⟨h1,h2⟩:=h
  by_cases e:p.1 = k
  ·rw [if_pos e,if_pos (h1.symm.trans e)]; exact ⟨h1,ry⟩
  ·rw [if_neg e,if_neg (fun z=>e (h1.trans z))]; exact ⟨h1,h2⟩
theorem KV.put {kvs:List (κ × V)} {vs:List (κ × Value)} (r:KV kvs vs) (k:κ) {y:V} {u:Value} (ry:w8 y u):KV (ygj kvs k y) (stored vs k u):=by
 unfold ygj stored
 rw [r.any k]
 by_cases e:(vs.any fun kv=>decide (kv.1 = k)) = true
 ·rw [if_pos e,if_pos e]; exact r.repl k ry
 ·rw [if_neg e,if_neg e]; exact Paired.snoc r ⟨rfl,ry⟩
theorem KV.length {kvs:List (κ × V)} {vs:List (κ × Value)} (r:KV kvs vs):kvs.length = vs.length:=Paired.length r
end
theorem ypg {P:Program} {w:World} {k:Key} {u:Value} (r:w8 (kV k) u):(xn P w).is k u = true:=by
 cases k with
 | inl i=>obtain ⟨t,e⟩:=(show ∃ t,u = Value.int i t from r); subst e; exact ygv P w i t
 | inr x=>obtain ⟨t,e⟩:=(show ∃ t,u = Value.str x t from r); subst e; exact ygn P w x t
theorem yf1 {P:Program} {w:World}:∀ {ks:List Key} {us:List Value},wg (ks.map kV) us->ItemsAre (xn P w) ks us
 | [],_,r=>by rw [List.map_nil] at r; cases r; exact .nil
 | k :: ks,_,r=>by
  rw [List.map_cons] at r
  cases r with
  | cons h t=>exact .cons (ypg h) (yf1 t)
abbrev KT (H:Hp):List (List Key × V)->List (List Key × Addr × Value)->Prop:=Paired fun p q=>p.1 = q.1/\H q.2.1 = some (.tup (p.1.map kV))/\w8 p.2 q.2.2
theorem KT.val {H:Hp} {kvs:List (List Key × V)} {xs:List (List Key × Addr × Value)} (r:KT H kvs xs) (k:List Key):ygh (yan kvs k) ((atKey xs k).map (·.2)):=by
 induction r with
 | nil=>exact True.intro
 | @cons p q ps qs h t ih =>
  obtain ⟨h1,_,h2⟩:=h
  by_cases e:p.1 = k
  ·have e':q.1 = k:=h1.symm.trans e
   have b:atKey (q :: qs) k = some q.2:=by simp [atKey,List.find?_cons,e']
   rw [xg e,b]; exact h2
  ·have e':¬ q.1 = k:=fun z=>e (h1.trans z)
   have b:atKey (q :: qs) k = atKey qs k:=by simp [atKey,List.find?_cons,e']
   rw [xh e,b]; exact ih
theorem KT.repl {H:Hp} {kvs:List (List Key × V)} {xs:List (List Key × Addr × Value)} (r:KT H kvs xs) (k:List Key) {y:V} {u:Value} (ry:w8 y u) :
  KT H (kvs.map fun kv=>if kv.1 = k then (kv.1,y) else kv) (xs.map (putAt k u)):=by
 induction r with
 | nil=>exact .nil
 | @cons p q ps qs h t ih =>
  rw [List.map_cons,List.map_cons]
  refine .cons ?_ ih
  obtain ⟨h1,h2,h3⟩:=h
  unfold putAt
  by_cases e:p.1 = k
  ·rw [if_pos e,if_pos (h1.symm.trans e)]; exact ⟨h1,h2,ry⟩
  ·rw [if_neg e,if_neg (fun z=>e (h1.trans z))]; exact ⟨h1,h2,h3⟩
theorem KT.put {H:Hp} {kvs:List (List Key × V)} {xs:List (List Key × Addr × Value)} (r:KT H kvs xs) (k:List Key) {b:Addr} {y:V} {u:Value} (hb:H b = some (.tup (k.map kV))) (ry:w8 y u) :
  KT H (ygj kvs k y) (storedH xs k b u):=by
 have e:(kvs.any fun kv=>decide (kv.1 = k)) = (atKey xs k).isSome:=by
  rw [jp,(r.val k).isSome_eq,Option.isSome_map]
 unfold ygj storedH
 rw [e]
 by_cases q:(atKey xs k).isSome = true
 ·rw [if_pos q,if_pos q]; exact r.repl k ry
 ·rw [if_neg q,if_neg q]; exact Paired.snoc r ⟨rfl,hb,ry⟩
theorem KT.keeps {H H':Hp} {kvs:List (List Key × V)} {xs:List (List Key × Addr × Value)} (r:KT H kvs xs) (ht:∀ b ys,H b = some (.tup ys)->H' b = some (.tup ys)):KT H' kvs xs :=
 Paired.mapP r fun _ _ z=>⟨z.1,ht _ _ z.2.1,z.2.2⟩
section
variable {P:Program} {w:World} {H:Hp} {h:Heap} {a:Addr}
theorem yyx {u:HO} (ok:HOk P w H h) (e:Rd H a u):xk P w H h a u:=e.ok ok
theorem ypj {kvs:List (Key × V)} (ok:HOk P w H h) (e:Rd H a (.dK kvs)):kvs.length <= sizeLine/\(a == sysModules) = false/\∃ vs,KV kvs vs/\h.DictOf (xn P w) a vs :=
 show xk P w H h a (.dK kvs) from yyx ok e
theorem vae {kvs:List (Key × V)} (ok:HOk P w H h) (e:H a = some (.dK kvs)):kvs.length <= sizeLine/\(a == sysModules) = false/\∃ vs,KV kvs vs/\h.DictOf (xn P w) a vs:=ypj ok (.inl e)
theorem yi6 {ks:List Key} (ok:HOk P w H h) (e:H a = some (.tup (ks.map kV))):(tupleKind (xn P w)).is h ks a:=by
 obtain ⟨_,its,r,o,h1,h2,n,h3⟩:=(show xk P w H h a (.tup (ks.map kV)) from ok a _ e)
 exact ⟨o,its.toArray,n,h1,h2,h3,by simpa using yf1 r⟩
theorem ypi {kvs:List (List Key × V)} (ok:HOk P w H h) (e:Rd H a (.dT kvs)):kvs.length <= sizeLine/\(a == sysModules) = false /\
  ∃ xs,KT H kvs xs/\h.DictOfH (tupleKind (xn P w)) a xs:=by
 obtain ⟨z,y,xs,r,o,es,ep,h1,h2,h3,h4,h5⟩:=(show xk P w H h a (.dT kvs) from yyx ok e)
 refine ⟨z,y,xs,r,o,es,ep,h1,h2,h3,h4,fun x hx=>?_,h5⟩
 have all:∀ {l:List (List Key × V)} {m:List (List Key × Addr × Value)},KT H l m->∀ x ∈ m,(tupleKind (xn P w)).is h x.1 x.2.1:=by
  intro l m q
  induction q with
  | nil=>intro x hx; exact nomatch hx
  | @cons p q ps qs hq t ih =>
   intro x hx
   rcases List.mem_cons.mp hx with e | hx
   ·subst e
    exact yi6 ok (by rw [<- hq.1]; exact hq.2.1)
   ·exact ih x hx
 exact all r x hx
theorem vai {kvs:List (List Key × V)} (ok:HOk P w H h) (e:H a = some (.dT kvs)):kvs.length <= sizeLine/\(a == sysModules) = false /\
  ∃ xs,KT H kvs xs/\h.DictOfH (tupleKind (xn P w)) a xs:=ypi ok (.inl e)
end
def ynp (H:Hp) (a:Addr) (y:V) (r:Option V):Prop :=
 (∃ kvs k,Rd H a (.dK kvs)/\y = kV k/\r = yan kvs k)\/∃ kvs k b,Rd H a (.dT kvs)/\y = .ref b/\H b = some (.tup (k.map kV))/\r = yan kvs k
def yuk (H:Hp) (a:Addr) (y v:V) (H':Hp):Prop :=
 (∃ kvs k,H a = some (.dK kvs)/\y = kV k/\kvs.length < sizeLine/\H' = upd H a (.dK (ygj kvs k v))) \/
 ∃ kvs k b,H a = some (.dT kvs)/\y = .ref b/\H b = some (.tup (k.map kV))/\kvs.length < sizeLine/\H' = upd H a (.dT (ygj kvs k v))
theorem ynp.t {H:Hp} {a b:Addr} {kvs:List (List Key × V)} {k:List Key} (e:H a = some (.dT kvs)) (eb:H b = some (.tup (k.map kV))):ynp H a (.ref b) (yan kvs k):=.inr ⟨kvs,k,b,.inl e,rfl,eb,rfl⟩
theorem yuk.t {H:Hp} {a b:Addr} {kvs:List (List Key × V)} {k:List Key} {v:V} (e:H a = some (.dT kvs)) (eb:H b = some (.tup (k.map kV))) (hl:kvs.length < sizeLine) :
  yuk H a (.ref b) v (upd H a (.dT (ygj kvs k v))):=.inr ⟨kvs,k,b,e,rfl,eb,hl,rfl⟩
section
variable {X:Cx} {pins:List (Addr × Obj)} {σ:St} {H:Hp} {s:Shared} {a:Addr} {y v:V} {u r:Value} {o:Option V} {A:Around} {E:Value->Shared->Prop}
theorem Inv.big (I:Inv X pins σ H s):sysModules < s.heap.objs.size:=by
 have h:mainGlobals < s.heap.objs.size:=(I.mod.glob.keeps I.bk).lt
 exact Nat.lt_trans (by decide) h
theorem yli {Q:Value->Shared->Prop} (hu:A.units + 1 < cLine) (I:Inv X pins σ H s) (g:ynp H a y (some v)) (ry:w8 y u) (h:∀ w' s',Inv X pins σ H s'->w8 v w'->Q w' s') :
  wpAny (model X.prog X.w) A (getItem (.ref a) u) Q E s:=by
 rcases g with ⟨kvs,k,e,ey,l⟩ | ⟨kvs,k,b,e,ey,eb,l⟩
 ·subst ey
  obtain ⟨z,hd,vs,rel,dd⟩:=ypj I.hok e
  obtain ⟨w',hw,rw'⟩:=ygh.some_of (v:=v) (o:=valueAt vs k) (by rw [l]; exact rel.val k)
  exact wpAny_getItem_of (ypg ry) dd.mapOf hw (h w' _ (I.tok _) rw')
 ·subst ey
  cases (show u = Value.ref b from ry)
  obtain ⟨z,hd,xs,rel,dd⟩:=ypi I.hok e
  obtain ⟨w',hw,rw'⟩:=ygh.some_of (v:=v) (o:=(atKey xs k).map (·.2)) (by rw [l]; exact rel.val k)
  obtain ⟨p,hp,hp2⟩:=Option.map_eq_some_iff.mp hw
  refine wpAny_getItem_heap (tupleKind_room_in1 hu) (yi6 I.hok eb) dd hp ?_
  rw [hp2]
  exact h w' _ (I.tok _) rw'
theorem ytx {Q:Value->Shared->Prop} (hu:A.units + 1 < cLine) (I:Inv X pins σ H s) (g:ynp H a y o) (ry:w8 y u) (h:∀ s',Inv X pins σ H s'->Q (.bool (!o.isSome)) s') :
  wpAny (model X.prog X.w) A (compareOp .NotIn u (.ref a)) Q E s:=by
 rcases g with ⟨kvs,k,e,ey,l⟩ | ⟨kvs,k,b,e,ey,eb,l⟩
 ·subst ey
  obtain ⟨z,hd,vs,rel,dd⟩:=ypj I.hok e
  refine wpAny_notIn_of (ypg ry) hd dd.mapOf ?_
  rw [<- (rel.val k).isSome_eq,<- l]
  exact h _ (I.tok _)
 ·subst ey
  cases (show u = Value.ref b from ry)
  obtain ⟨z,hd,xs,rel,dd⟩:=ypi I.hok e
  refine wpAny_notIn_heap (tupleKind_room_in1 hu) (yi6 I.hok eb) hd dd ?_
  have q:=(rel.val k).isSome_eq
  rw [Option.isSome_map] at q
  rw [<- q,<- l]
  exact h _ (I.tok _)
theorem ymm {h':Heap} {t':Nat} {ob:HO} (I:Inv X pins σ H s) (mu:Mut (H a)) (hs:Heap.SameBut a s.heap h') (he:∃ q,h'.get? a = some q) (new:xk X.prog X.w (upd H a ob) h' a ob) :
  Inv X pins σ (upd H a ob) { s with heap:=h',toks:=t' } :=
 I.write (x:=a) (e:=a) mu (.inl rfl) (fun b q hb z=>(hs.2 b hb).trans z) he new
theorem yx3 {P:Program} {w:World} {H':Hp} {h':Heap} {kvs:List (Key × V)} {vs:List (Key × Value)} (z:kvs.length <= sizeLine) (hd:(a == sysModules) = false) (rel:KV kvs vs) (dd:h'.DictOf (xn P w) a vs) :
  xk P w H' h' a (.dK kvs):=⟨z,hd,vs,rel,dd⟩
theorem ykw {H':Hp} {Q:Unit->Shared->Prop} (hu:A.units + 1 < cLine) (I:Inv X pins σ H s) (g:yuk H a y v H') (ry:w8 y u) (rv:w8 v r) (h:∀ s',Inv X pins σ H' s'->Q () s') :
  wpAny (model X.prog X.w) A (setItem (.ref a) u r) Q E s:=by
 rcases g with ⟨kvs,k,e,ey,l,eH⟩ | ⟨kvs,k,b,e,ey,eb,l,eH⟩
 ·subst ey eH
  obtain ⟨z,hd,vs,rel,dd⟩:=vae I.hok e
  have hz:vs.length <= sizeLine:=by rw [<- rel.length]; exact z
  have hl:(ygj kvs k v).length <= sizeLine:=by have:=ya3 kvs k v; omega
  refine wpAny_setItem_pairs (hsz:=hz) (ypg ry) dd fun h' dd' hs=>h _ ?_
  have he:∃ q,h'.get? a = some q:=let ⟨q,_,_,hq,_⟩:=dd'; ⟨q,hq⟩
  exact ymm I (by rw [e]; exact True.intro) hs he (yx3 hl hd (rel.put k rv) dd')
 ·subst ey eH
  cases (show u = Value.ref b from ry)
  obtain ⟨z,hd,xs,rel,dd⟩:=vai I.hok e
  have hz:xs.length <= sizeLine:=by rw [<- Paired.length rel]; exact z
  have hl:(ygj kvs k v).length <= sizeLine:=by have:=ya3 kvs k v; omega
  refine wpAny_setItem_heap (hsz:=hz) (tupleKind_room_in1 hu) (yi6 I.hok eb) dd fun h' dd' hs=>h _ ?_
  obtain ⟨q,es,ep,hq,h2,h3,h4,_,h5⟩:=dd'
  refine ymm I (by rw [e]; exact True.intro) hs ⟨q,hq⟩ ⟨hl,hd,_,(rel.put k eb rv).keeps fun c ys ec=>?_,q,es,ep,hq,h2,h3,h4,h5⟩
  rw [yu (xw ec e (fun z=>nomatch z))]
  exact ec
end
section
variable {X:Cx} {pins:List (Addr × Obj)} {σ:St} {H:Hp} {s:Shared} {a:Addr} {kvs:List (Key × V)} {k:Key} {u:Value} {A:Around} {E:Value->Shared->Prop}
end
def vbm (i:Expr):Prop:=∀ ov iv,subscripted i false ov iv = operate [ov,iv] (getItem ov iv)
theorem ys5 {prog:Program} {w:World} {A:Around} {E:Value->Shared->Prop} {s:Shared} {env:Env} {value slice:Expr} {pos:Pos} {T id:String} {Q:Value->Shared->Prop}
  (hl:typeLookup (.type T) "__getitem__" = pure (some (.builtin id))) (hs:vbm slice)
  (h:wpAny (model prog w) A (eval value env) (fun o s₁=>wpAny (model prog w) A (eval slice env) (fun i s₂=>s₂.TypeIs o T/\wpAny (model prog w) A (getItem o i) Q E s₂) E s₁) E s) :
  wpAny (model prog w) A (eval (.Subscript value slice pos) env) Q E s:=by
 refine Subscript_ (wpAny_mono h (fun o s₁ h₁=>wpAny_mono h₁ (fun i s₂ h₂=>?_) fun _ _ x=>x) fun _ _ x=>x)
 obtain ⟨hT,h₂⟩:=h₂
 unfold subscriptTail
 refine wpAny_bind ?_
 rw [getitemInPython_of_ne hT.not_modules]
 refine wpAny_bind (wpAny_specialOf hT hl ?_)
 have fin:wpAny (model prog w) A (subscripted slice false o i) (fun r s₃=>wpAny (model prog w) A (letTemporaryGo value o r >>= fun _=>pure r) Q E s₃) E s₂:=by
  rw [hs o i]
  exact wpAny_operating (wpAny_mono h₂ (fun r s₃ h₃=>wpAny_bind (wpAny_letTemporaryGo (wpAny_pure h₃))) fun _ _ x=>x)
 first
  | exact wpAny_pure (wpAny_bind fin)
  | exact wpAny_bind (wpAny_pure (wpAny_bind fin))
  | exact wpAny_bind fin
theorem yhc {X:Cx} {pins:List (Addr × Obj)} {σ:St} {H:Hp} {s:Shared} {a:Addr} {y:V} {o:Option V} (I:Inv X pins σ H s) (g:ynp H a y o):s.TypeIs (.ref a) "dict":=by
 rcases g with ⟨kvs,k,e,_,_⟩ | ⟨kvs,k,b,e,_,_,_⟩
 ·obtain ⟨_,_,vs,_,dd⟩:=ypj I.hok e
  exact dd.typeIs
 ·obtain ⟨_,_,xs,_,dd⟩:=ypi I.hok e
  exact dd.typeIs
def yyw (td ty:TE):TE:=fun σ H Q=>td σ H fun x H1=>ty σ H1 fun y H2=>∃ a v,x = .ref a/\ynp H2 a y (some v)/\Q v H2
def yl3 (ty td:TE):TE:=fun σ H Q=>ty σ H fun y H1=>td σ H1 fun x H2=>∃ a o,x = .ref a/\ynp H2 a y o/\Q (.bl (!o.isSome)) H2
def yy2 (td ty tv:TE):TS:=fun D σ H=>tv σ H fun v H1=>td σ H1 fun x H2=>ty σ H2 fun y H3=>∃ a H4,x = .ref a/\yuk H3 a y v H4/\D.nx σ H4
section
variable {X:Cx} {o i e value:Expr} {pos pos' tpos:Pos} {td ty tv:TE}
theorem ysc (hu:X.A.units + 1 < cLine) (ho:PE X o td) (hi:PE X i ty) (hs:vbm i):PE X (.Subscript o i pos) (yyw td ty):=by
 intro pins s σ H Q I h
 refine ys5 PySem.F.slot_dict_getitem.lookup hs (thn (ho pins s σ H _ I h) fun u s1 ⟨x,H1,I1,rx,q1⟩=>thn (hi pins s1 σ H1 _ I1 q1) fun iv s2 ⟨y,H2,I2,ry,a,v,ex,g,q2⟩=>?_)
 subst ex
 obtain rfl:u = Value.ref a:=rx
 exact ⟨yhc I2 g,yli hu I2 g ry fun w' s3 I3 rw'=>⟨v,H2,I3,rw',q2⟩⟩
theorem ylr (hu:X.A.units + 1 < cLine) (hi:PE X i ty) (ho:PE X o td):PC X .NotIn i o (yl3 ty td):=by
 intro pins s σ H Q I h
 refine thn (hi pins s σ H _ I h) fun iv s1 ⟨y,H1,I1,ry,q1⟩=>thn (ho pins s1 σ H1 _ I1 q1) fun u s2 ⟨x,H2,I2,rx,a,ov,ex,g,q2⟩=>?_
 subst ex
 obtain rfl:u = Value.ref a:=rx
 exact ytx hu I2 g ry fun s3 I3=>⟨.bl (!ov.isSome),H2,I3,rfl,q2⟩
theorem ytm (hu:X.A.units + 1 < cLine) (ho:PE X o td) (hi:PE X i ty) (hv:PE X value tv) (hs:swapsWith value (some (.Subscript o i pos')) pos.line X.env = pure false) :
  PS X (.Assign [.Subscript o i pos'] value pos) (yy2 td ty tv):=by
 intro pins s σ H D I h
 refine wpAny_Assign_Subscript (thn (hv pins s σ H _ I h) fun r s1 ⟨v,H1,I1,rv,q1⟩=>thn (ho pins s1 σ H1 _ I1 q1) fun u s2 ⟨x,H2,I2,rx,q2⟩=>thn (hi pins s2 σ H2 _ I2 q2) fun iv s3 ⟨y,H3,I3,ry,a,H4,ex,g,q3⟩=>?_) hs
 subst ex
 obtain rfl:u = Value.ref a:=rx
 exact ykw hu I3 g ry rv fun s4 I4=>⟨σ,H4,I4,q3⟩
end
theorem yod {P:Program} {w:World} {H:Hp} (h:Heap) (hb:sysModules < h.objs.size):xk P w H (h.push { cls:=.type "dict",data:=.dict #[] }) h.objs.size (.dT []) :=
 ⟨Nat.zero_le _,beq_eq_false_iff_ne.mpr (Ne.symm (Nat.ne_of_lt hb)),[],.nil,_,#[],0,Heap.get?_push_size _ rfl,⟨rfl,rfl,rfl⟩,rfl,rfl,List.nodup_nil⟩
def yru:TE:=fun _ H Q=>∀ p,H p = none->Q (.ref p) (upd H p (.dT []))
section
variable {X:Cx} {pos:Pos}
theorem yog:PE X (.Dict [] [] pos) yru:=fun pins s σ H Q I h =>
 wpAny_Dict_empty ⟨.ref s.heap.objs.size,_,I.laid (a:=s.heap.objs.size) (o:=.dT []) (t':=s.toks) (fun _ _ q=>Heap.get?_push_of_some _ q) (Nat.le_refl _) (yod s.heap I.big),rfl,h _ (I.hok.fresh (Nat.le_refl _))⟩
end
structure M1 (X:Cx) (o:Expr) (m:Str) (apos:Pos) (e:Expr) (cpos:Pos):Prop where
 base:attributeBase o m X.env (eval o X.env) = eval o X.env
 few:((backTo cpos (starEach [e] X.env)).all (fun x=>!x.1) && (backToKw cpos (keywordEach [] X.env)).all (fun x=>x.1.isSome)
  && decide (([e]:List Expr).length + ([]:List Keyword).length + (if ([]:List Keyword).isEmpty then 0 else 1) < 30)) = true
 line:(apos.endLine == cpos.line) = true
 trees:backTo cpos (starEach [e] X.env) = [(false,eval e X.env)]
structure M2 (X:Cx) (o:Expr) (m:Str) (apos:Pos) (e f:Expr) (cpos:Pos):Prop where
 base:attributeBase o m X.env (eval o X.env) = eval o X.env
 few:((backTo cpos (starEach [e,f] X.env)).all (fun x=>!x.1) && (backToKw cpos (keywordEach [] X.env)).all (fun x=>x.1.isSome)
  && decide (([e,f]:List Expr).length + ([]:List Keyword).length + (if ([]:List Keyword).isEmpty then 0 else 1) < 30)) = true
 line:(apos.endLine == cpos.line) = true
 trees:backTo cpos (starEach [e,f] X.env) = [(false,eval e X.env),(false,eval f X.env)]
section
variable {X:Cx} {pins:List (Addr × Obj)} {σ:St} {H:Hp} {s:Shared} {a:Addr} {y d:V} {u r:Value} {o:Option V} {A:Around} {E:Value->Shared->Prop}
end
section
variable {X:Cx} {o e f:Expr} {apos cpos:Pos} {td ty tx:TE}
end
section
variable {X:Cx} {pins:List (Addr × Obj)} {σ:St} {H:Hp} {s:Shared} {a:Addr} {kvs:List (Key × V)} {A:Around} {E:Value->Shared->Prop}
end
section
variable {X:Cx} {pins:List (Addr × Obj)} {σ:St} {H:Hp} {s:Shared} {a:Addr} {y:V} {u:Value} {A:Around} {E:Value->Shared->Prop}
end
end L2
namespace L2
open PySem PySem.Spec PyProof.Rows
@[irreducible] def QE (X:Cx) (e:Expr) (t:TE):Prop:=PE X e t
@[irreducible] def QSs (X:Cx) (st:List Stmt) (t:TS):Prop:=PSs X st t
section
variable {X:Cx} {e:Expr} {es:List Expr} {te:TE} {t:TA} {pos:Pos} {ts us:TS} {st:Stmt} {j5:List Stmt}
end
end L2
namespace L2
open PySem PySem.Spec PyProof.Rows
@[irreducible] def QS (X:Cx) (st:Stmt) (t:TS):Prop:=PS X st t
section
variable {X:Cx} {e:Expr} {te:TE} {pos:Pos} {ts us:TS} {st:Stmt} {j5:List Stmt}
theorem yq {R:TS->Prop} (h1:PS X st ts) (h2:∃ us,PSs X j5 us/\R (vaw ts us)):∃ t,PSs X (st :: j5) t/\R t:=let ⟨_,a,b⟩:=h2; ⟨_,yk h1 a,b⟩
end
end L2
namespace L2
open PySem PySem.Spec PyProof.Rows
theorem yh2:∀ {bs:List Bool} {us:List Value},wg (bs.map V.bl) us->us = bs.map Value.bool
 | [],_,.nil=>rfl
 | b :: r,_,.cons a t=>by rw [show _ = Value.bool b from a,yh2 t]; rfl
theorem yln (bs:List Bool):((List.range bs.length).all fun i=>(bs[i]?).getD true) = bs.all id:=by
 rw [Bool.eq_iff_iff,List.all_eq_true,List.all_eq_true]
 constructor
 ·intro h b hb
  obtain ⟨i,hi,rfl⟩:=List.getElem_of_mem hb
  have:=h i (List.mem_range.mpr hi)
  rw [List.getElem?_eq_getElem hi] at this
  exact this
 ·intro h i hi
  have hi:=List.mem_range.mp hi
  rw [List.getElem?_eq_getElem hi]
  exact h _ (List.getElem_mem hi)
section
variable {X:Cx}
theorem jo (hc:X.calm = true):ybe X (.builtin "all") (fun xs H Q=>∃ p bs,xs = [.ref p]/\SqL X.K H p (List.map V.bl bs)/\Q (.bl (bs.all id)) H):=by
 intro pins s σ H xs us Q I r h
 obtain ⟨p,bs,rfl,hq,q⟩:=h
 obtain ⟨u,rfl,rx⟩:=ynn r
 cases rx
 obtain ⟨its,r',pl,hz⟩:=I.list hq
 obtain rfl:=yh2 r'
 have hl:=pl.isList
 have hlt:p < s.heap.objs.size:=by obtain ⟨_,e,_⟩:=hl; exact Heap.lt_size e
 refine call_all_walk (wpAny_pyIter_list hl ?_)
 refine ⟨s.heap.objs.size,[s.heap.objs.size,p],[s.heap.objs.size],(bs.map Value.bool).toArray.size,_,_,fun i=>(bs[i]?).getD true,rfl,Walks.list (A:=X.A.in1) (show X.A.handled = none from I.ok.hd hc) _ p (Nat.ne_of_lt hlt) (bs.map Value.bool).toArray,
  ⟨⟨_,Heap.get?_push_size _ rfl,rfl,rfl⟩,hl.push _⟩,fun i v s' Q' E' hP hQ=>?_,fun h' tk hk=>?_⟩
 ·have hP:(bs.map Value.bool)[i]? = some v:=by simpa using hP
  rw [List.getElem?_map] at hP
  cases e:bs[i]? with
  | none=>rw [e] at hP; cases hP
  | some b =>
   dsimp only at hQ
   rw [e] at hP hQ
   cases hP
   exact wpAny_truthy_bool hQ
 ·have e:((List.range (bs.map Value.bool).toArray.size).all fun i=>(bs[i]?).getD true) = bs.all id:=by
   rw [List.size_toArray,List.length_map]
   exact yln bs
  rw [e]
  refine ⟨.bl (bs.all id),H,I.kept (t':=tk) fun b x e=>hk b x (fun hm=>?_) (Heap.get?_push_of_some _ e),rfl,q⟩
  rw [List.mem_singleton.mp hm] at e
  exact Nat.lt_irrefl _ (Heap.lt_size e)
end
end L2
namespace L2
open PySem PySem.Spec PyProof.Rows
theorem wl {env:Env}:∀ {names:List (Str × NameKind)} {x:Str} {k:NameKind},
  (names.map fun (n,k)=>if (k == NameKind.free && env.scope.kind == .function && env.kindOf n == some .cell) then (n,NameKind.cell) else (n,k)).lookup x = some k->∃ k0,(x,k0) ∈ names/\(k = k0\/k0 = .free)
 | [],_,_,h=>by simp at h
 | (n,k1) :: r,x,k,h=>by
  rw [List.map_cons] at h
  by_cases hx:x = n
  ·subst hx
   refine ⟨k1,.head _,?_⟩
   dsimp only at h
   split at h
   ·rename_i hc
    simp only [Bool.and_eq_true,beq_iff_eq] at hc
    exact .inr hc.1.1
   ·simp [List.lookup] at h
    exact .inl h.symm
  ·have:(x == n) = false:=by simpa using hx
   have h':(r.map fun (n,k)=>if (k == NameKind.free && env.scope.kind == .function && env.kindOf n == some .cell) then (n,NameKind.cell) else (n,k)).lookup x = some k:=by
    dsimp only at h
    split at h <;> simpa [List.lookup,this] using h
   obtain ⟨k0,m,q⟩:=wl h'
   exact ⟨k0,.tail _ m,q⟩
def zd (ys:List Str) (env:Env):List (Str × Addr):=ys.map fun y=>(y,(env.cells.lookup y).getD 0)
theorem yaq {env:Env}:∀ {ys:List Str} {y:Str} {c:Addr},(zd ys env).lookup y = some c->y ∈ ys/\c = (env.cells.lookup y).getD 0
 | [],_,_,h=>by simp [zd] at h
 | z :: r,y,c,h=>by
  by_cases hy:y = z
  ·subst hy
   simp [zd,List.lookup] at h
   exact ⟨.head _,h.symm⟩
  ·have hb:(y == z) = false:=by simpa using hy
   have h':(zd r env).lookup y = some c:=by simpa [zd,List.lookup,hb] using h
   obtain ⟨m,e⟩:=yaq h'
   exact ⟨.tail _ m,e⟩
theorem uy {env:Env}:∀ {ys:List Str} {y:Str},y ∈ ys->(zd ys env).lookup y = some ((env.cells.lookup y).getD 0)
 | z :: r,y,h=>by
  by_cases hy:y = z
  ·subst hy
   simp [zd,List.lookup]
  ·have hb:(y == z) = false:=by simpa using hy
   have hm:y ∈ r:=by
    rcases List.mem_cons.mp h with q | q
    ·exact absurd q hy
    ·exact q
   have:=uy (env:=env) hm
   simpa [zd,List.lookup,hb] using this
abbrev Cx.compF (X:Cx) (scope:Scope) (ys:List Str) (C:Addr) (x:Str) (s2:Shared) (H2:Hp) (fp:List Addr):Cx :=
 { X with N:=x :: ys,s₀:=s2,H₀:=H2,env:=compEnvC scope (zd ys X.env) C X.env,outer:=X.stack,ex:=fp,fn:=fun _=>false,pn:=[],xe:=fun _ _=>False }
def u1 (J:It) (te:TE) (fr:St) (D:Addr) (R:Hp->Prop) (H1:Hp):Prop:=∃ W:Nat->Nat->Hp->Prop,(∃ m,W 0 m (upd H1 D (.lst []))) /\
 ∀ i m H2,W i m H2->(J.stop i H2/\R H2)\/(J.go i H2/\∀ x H3,J.yld i H2 x H3->te (some x :: fr) H3 fun y H4=>∃ ys,H4 D = some (.lst ys)/\ys.length < sizeLine/\∃ m',m' < m/\W (i + 1) m' (upd H4 D (.lst (ys ++ [y]))))
def wa (js:List Nat) (σ:St):St:=js.map fun j=>(σ[j]?).getD none
def ync (wi:TI) (te:TE) (js:List Nat):TE:=fun σ H Q=>wi σ H fun J H1=>∀ D,H1 D = none->u1 J te (wa js σ) D (fun H2=>Q (.ref D) H2) H1
section
variable {X:Cx} {iter elt:Expr} {x:Str} {px pos:Pos} {scope:Scope} {te:TE} {wi:TI} {pins:List (Addr × Obj)} {σ:St} {ys:List Str} {js:List Nat}
theorem ybu {s2:Shared} {H2:Hp} {it:Addr} {fp:List Addr} {tn:Nat->Heap->Prop} {J:It} (hc:X.calm = true)
  (he:∀ (C:Addr) (s2:Shared) (H2:Hp) (fp:List Addr),PE (X.compF scope ys C x s2 H2 fp) elt te)
  (hcell:∀ y ∈ scope.names,y.2 ≠ .cell) (hkind:scope.kind = .function) (hx:scope.names.lookup x = some .local) (hnd:(x :: ys).Nodup)
  (hfr:∀ y ∈ scope.names,y.2 = .free->y.1 ∈ ys) (hyc:∀ y ∈ ys,X.env.kindOf y = some .cell) (hrel:∀ y ∈ ys,(relabel scope X.env).names.lookup y = some .cell) (hjs:js.map (fun j=>X.N[j]?) = ys.map some)
  (I2:Inv X pins σ H2 s2) (T:ynr X.prog X.w X.K (.Name x px) J fp it tn) (st2:tn 0 s2.heap) (f2:∀ b ∈ fp,ye3 X pins H2 b)
  {R:Addr->Hp->Prop} (h:∀ D,H2 D = none->u1 J te (wa js σ) D (R D) H2) {RR:Value->Addr->Result->Shared->Prop} {E:Value->Shared->Prop}
  (hR:∀ (D C:Addr) (H':Hp) (s':Shared) (m:Str->Option Value),ye3 X pins H' C->s'.heap.Ns C m->Inv X pins σ H' s'->R D H'->RR (.ref D) C (.ok .next) s') :
  wpAny (model X.prog X.w) X.A (newList []) (fun acc s₃=>wpAny (model X.prog X.w) X.A (newFunctionEnv scope X.env.globals (zd ys X.env) [] X.env.qual none .none (some X.env)) (fun cenv s₄ =>
   codeAny (model X.prog X.w) X.A (.compStart (.ListComp elt [⟨.Name x px,iter,[],0⟩] scope pos) 0 (.ref it) acc { cenv with scope:=relabel scope X.env }) (RR acc cenv.locals) s₄) E s₃) E s2:=by
 have hsub:∀ y c,(zd ys X.env).lookup y = some c->X.env.cells.lookup y = some c:=fun y c e=>by
  obtain ⟨m,rfl⟩:=yaq e
  obtain ⟨c',q⟩:=I2.ok.has y (.inl (hyc y m))
  rw [q]
  rfl
 refine wpAny_newObj_type (wpAny_newFunctionEnv hcell (by intro y hy; simp at hy) (fun h₁ hns₁ hsb₁=>?_) hkind)
 dsimp only at hns₁ hsb₁ ⊢
 generalize hH2:s2.heap.push { cls:=.type "list",dict:=none,data:=.seq ([]:List Value).toArray } = G at hns₁ hsb₁ ⊢
 have hC:G.objs.size = s2.heap.objs.size + 1:=by rw [<- hH2,Heap.size_push]
 have hDC:s2.heap.objs.size ≠ G.objs.size:=by rw [hC]; exact Nat.ne_of_lt (Nat.lt_succ_self _)
 have hCle:s2.heap.objs.size <= G.objs.size:=by rw [hC]; exact Nat.le_succ _
 have below:∀ b,b < s2.heap.objs.size->b ≠ G.objs.size/\b ≠ s2.heap.objs.size:=fun b hb=>⟨by rw [hC]; exact Nat.ne_of_lt (Nat.lt_succ_of_lt hb),Nat.ne_of_lt hb⟩
 have old:∀ b o,s2.heap.get? b = some o->h₁.get? b = some o:=fun b o e=>hsb₁.extBut b o (below b (Heap.lt_size e)).1 (Heap.get?_push_of_some _ (hH2 ▸ Heap.get?_push_of_some _ e))
 have hacc:h₁.get? s2.heap.objs.size = some { cls:=.type "list",data:=.seq ([]:List Value).toArray }:=hsb₁.extBut _ _ hDC (Heap.get?_push_of_some _ (hH2 ▸ Heap.get?_push_size _ rfl))
 have fpl:∀ b ∈ fp,b < s2.heap.objs.size:=fun b hb=>let ⟨_,e,_⟩:=T.obj 0 _ st2 b hb; Heap.lt_size e
 have fpS:∀ b ∈ fp,b ∉ frs X.stack:=fun b hb z=>(List.mem_cons.mp (I2.stkSub b z)).elim (f2 b hb).2.1 (f2 b hb).2.2.1
 have nC:H2 G.objs.size = none:=I2.hok.fresh hCle
 have nD:H2 s2.heap.objs.size = none:=I2.hok.fresh (Nat.le_refl _)
 have cellOld:∀ y c,(zd ys X.env).lookup y = some c->∃ v o,s2.heap.get? c = some o/\o.data = .cell v:=fun y c e=>by
  obtain ⟨v,o,q1,q2⟩:=I2.cell y c (hsub y c e)
  exact ⟨v,o,q1,q2⟩
 have okC:(X.compF scope ys G.objs.size x s2 H2 fp).Ok:=by
  refine ⟨I2.ok.mod,hkind,I2.ok.glob,I2.ok.blt,hCle,fun y z c e e'=>I2.ok.inj y z c (hsub y c e) (hsub z c e'),fun y e=>?_,fun y c z e=>(by cases z),I2.ok.hd,I2.ok.frames,.inl rfl,fun b hb=>⟨(below b (fpl b hb)).1,fun y c e=>(f2 b hb).2.2.2.2.1 y c (hsub y c e)⟩,I2.bs,?_,fun b o e hb=>?_,fun b hb=>fpS b hb,I2.stack,I2.stkFree⟩
  ·have e':(relabel scope X.env).names.lookup y = some .cell\/(relabel scope X.env).names.lookup y = some .free:=e
   have hin:y ∈ ys:=by
    rcases e' with e' | e'
    ·obtain ⟨k0,m,q⟩:=wl e'
     rcases q with q | q
     ·exact absurd q.symm (hcell _ m)
     ·exact hfr _ m q
    ·obtain ⟨k0,m,q⟩:=wl e'
     rcases q with q | q
     ·exact hfr _ m q.symm
     ·exact hfr _ m q
   exact ⟨_,uy hin⟩
  ·exact Nat.le_trans I2.ok.bsz I2.sz
  ·rcases (f2 b hb).2.2.2.1 with z | z
   ·exact I2.ok.noex b o e z
   ·exact absurd (Nat.lt_of_lt_of_le (Heap.lt_size (I2.ok.bs b o e).1) z) (Nat.lt_irrefl _)
 have hlen:(wa js σ).length = ys.length:=by
  have:=congrArg List.length hjs
  simpa [wa] using this
 have I3:∀ tk,Inv (X.compF scope ys G.objs.size x s2 H2 fp) [] (none :: wa js σ) (upd H2 s2.heap.objs.size (.lst [])) { s2 with heap:=h₁,toks:=tk }:=fun tk =>
  ⟨okC,rfl,I2.bare,Un.laid old (Nat.le_refl _) nD,⟨_,hns₁,fun i y v e1 e2 e3=>by
    cases i with
    | zero=>cases e2
    | succ i =>
     have e1:ys[i]? = some y:=by simpa using e1
     have e2:(wa js σ)[i]? = some (some v):=by simpa using e2
     have hy:y ∈ ys:=List.mem_of_getElem? e1
     have ej:=congrArg (fun l=>l[i]?) hjs
     simp only [List.getElem?_map,e1,Option.map_some] at ej
     cases q:js[i]? with
     | none=>rw [q] at ej; cases ej
     | some j =>
      rw [q] at ej
      have ej:X.N[j]? = some y:=by simpa using ej
      have es:σ[j]? = some (some v):=by
       simp only [wa,List.getElem?_map,q,Option.map_some,Option.some.injEq] at e2
       cases r:σ[j]? with
       | none=>rw [r] at e2; cases e2
       | some w'=>rw [r] at e2; rw [show w' = some v from e2]
      obtain ⟨m0,_,hl0⟩:=I2.loc
      obtain ⟨u,ru,lk⟩:=hl0 j y v ej es (.inr (.inl (hyc y hy)))
      refine ⟨u,ru,.inr ⟨.inl (hrel y hy),?_⟩⟩
      rcases lk with ⟨k1,_⟩ | ⟨_,c,ec,o,ho,hd⟩
      ·rw [hyc y hy] at k1; cases k1
      ·refine ⟨c,?_,o,old c o ho,hd⟩
       show (zd ys X.env).lookup y = some c
       rw [uy hy,ec]
       rfl⟩,fun y c e=>(by
    obtain ⟨v,o,q1,q2⟩:=cellOld y c e
    exact ⟨v,o,old c o q1,q2⟩),(by show upd H2 s2.heap.objs.size _ G.objs.size = none; rw [yu hDC.symm]; exact nC),fun y c e=>(by
    obtain ⟨v,o,q1,q2⟩:=cellOld y c e
    show upd H2 s2.heap.objs.size _ c = none
    rw [yu (below c (Heap.lt_size q1)).2]
    exact I2.freeC y c (hsub y c e)),fun p hp=>(by simp at hp),
   I2.hok.laid old (Nat.le_refl _) ⟨Nat.zero_le _,[],_,.nil,hacc⟩,by show (none :: wa js σ).length = (x :: ys).length; simp [hlen]⟩
 have stat:∀ {H':Hp},(∀ b ∈ fp,H' b = none)->∀ b ∈ fp,ye3 (X.compF scope ys G.objs.size x s2 H2 fp) [] H' b:=fun hn b hb=>⟨hn b hb,(below b (fpl b hb)).1,fpS b hb,.inl hb,fun y c e=>(f2 b hb).2.2.2.2.1 y c (hsub y c e),fun p hp=>(by simp at hp)⟩
 have loop:∀ tk,codeAny (model X.prog X.w) X.A (.compLoop (.ListComp elt [⟨.Name x px,iter,[],0⟩] scope pos) 0 (.ref it) (.ref s2.heap.objs.size) (compEnvC scope (zd ys X.env) G.objs.size X.env)) (RR (.ref s2.heap.objs.size) G.objs.size) { s2 with heap:=h₁,toks:=tk }:=by
  intro tk
  obtain ⟨W,⟨m0,w0⟩,turn⟩:=h s2.heap.objs.size nD
  refine codeAny_loop rfl (fun n s'=>∃ i v H',Inv (X.compF scope ys G.objs.size x s2 H2 fp) [] (v :: wa js σ) H' s'/\tn i s'.heap/\(∀ b ∈ fp,H' b = none)/\W i n H') (fun n s' hI=>?_) m0
   ⟨0,none,_,I3 tk,T.keep 0 _ _ st2 (fun b hb o e=>old b o e),fun b hb=>(by rw [yu (below b (fpl b hb)).2]; exact (f2 b hb).1),w0⟩
  obtain ⟨i,v,H',I,st,fr,w⟩:=hI
  show wpAny _ _ ((compTurn (.ListComp elt [⟨.Name x px,iter,[],0⟩] scope pos) 0 (.ref it) (.ref s2.heap.objs.size) (compEnvC scope (zd ys X.env) G.objs.size X.env)).onRaise (fun x=>do noteFrame x (compEnvC scope (zd ys X.env) G.objs.size X.env); theTreesLotGoes x)) _ _ s'
  refine wpAny_noted ?_
  rw [compTurn_list1]
  refine wpAny_bind (wpAny_standAt (wpAny_bind ?_))
  rcases turn i n H' w with ⟨stop,q⟩ | ⟨go,step⟩
  ·refine thn (T.done (X.compF scope ys G.objs.size x s2 H2 fp) rfl rfl rfl hc i [] s' (v :: wa js σ) H' _ I (stat fr) st stop) fun r s4 ⟨hr,I4⟩=>?_
   subst hr
   refine wpAny_pure ?_
   obtain ⟨m,hn,_⟩:=I4.loc
   exact hR _ _ H' s4 m (I2.fpOk hCle I4.free) hn (I2.call' (ch:=fp) I4.os I4.base I4.hok I4.bare fun b hb=>⟨(f2 b hb).2.2.2.1,(f2 b hb).2.1,(f2 b hb).2.2.2.2.1,(f2 b hb).2.2.2.2.2⟩) q
  ·refine thn (T.item (X.compF scope ys G.objs.size x s2 H2 fp) rfl rfl rfl hc i [] s' (v :: wa js σ) H' _ I (stat fr) st go) fun r s4 ⟨u,hr,h4⟩=>?_
   subst hr
   refine wpAny_bind (thn h4 fun _ s5 ⟨y,H5,I5,r5,y5,st5,fr5⟩=>wpAny_bind ?_)
   have I5':=I5.pinned (stat fr5) (T.obj _ _ st5)
   refine wpAny_assign_Name (jq (i:=0) I5' hnd rfl (Or.inl (lookup_relabel_local hx)) r5 (fun s6 I6=>?_) (Or.inr (lookup_relabel_local hx)))
   refine wpAny_bind (wpAny_bind (ynt (he _ _ _ _ _ s6 (some y :: wa js σ) H5 _ I6 (step y H5 y5)) fun u2 s7 ⟨y2,H7,I7,r7,zs,hD,hl,m',hm,w'⟩=>wpAny_bind ?_))
   refine ynt (wo _ s7 (some y :: wa js σ) H7 (.ref s2.heap.objs.size) [y2] (.ref s2.heap.objs.size) [u2] (fun _ H8=>H8 = upd H7 s2.heap.objs.size (.lst (zs ++ [y2]))) I7 rfl (.cons r7 .nil) ⟨_,zs,y2,rfl,rfl,hD,hl,rfl⟩) fun _ s8 ⟨_,H8,I8,_,e8⟩=>?_
   subst e8
   have pin:∀ b ∈ fp,∀ o,s5.heap.get? b = some o->s8.heap.get? b = some o/\upd H7 s2.heap.objs.size (HO.lst (zs ++ [y2])) b = none:=fun b hb o e =>
    ⟨(I8.pin (b,o) (List.mem_append_right _ (List.mem_append_right _ (wf hb e)))).1,(I8.pin (b,o) (List.mem_append_right _ (List.mem_append_right _ (wf hb e)))).2.1⟩
   refine wpAny_pure (wpAny_pure ⟨rfl,m',hm,i + 1,some y,_,I8.unpinned,T.keep _ _ _ st5 fun b hb o e=>(pin b hb o e).1,fun b hb=>?_,w'⟩)
   obtain ⟨o,e,d⟩:=T.obj _ _ st5 b hb
   exact (pin b hb o e).2
 exact codeAny_compStart_list (loop _) (T.self X.A 0 _ _ _ (T.keep 0 _ _ st2 (fun b hb o e=>old b o e)) (loop _))
theorem uz (hc:X.calm = true) (hi:PI X (.Name x px) iter wi) (he:∀ (C:Addr) (s2:Shared) (H2:Hp) (fp:List Addr),PE (X.compF scope ys C x s2 H2 fp) elt te) (hjs:js.map (fun j=>X.N[j]?) = ys.map some)
  (hclos:closureFor scope X.env = pure (zd ys X.env)) (hnd:(x :: ys).Nodup:=by decide) (hyc:∀ y ∈ ys,X.env.kindOf y = some .cell) (hrel:∀ y ∈ ys,(relabel scope X.env).names.lookup y = some .cell)
  (hfr:∀ y ∈ scope.names,y.2 = .free->y.1 ∈ ys:=by decide +kernel) (hcell:∀ y ∈ scope.names,y.2 ≠ .cell:=by decide +kernel) (hkind:scope.kind = .function:=by rfl)
  (hnames:∀ y ∈ scope.names,y.2 = .local->scope.names.lookup y.1 = some .local:=by decide +kernel) (hx:scope.names.lookup x = some .local:=by rfl) (hs:∀ x,foldedSetIterable iter X.env x = pure x:=by intro _; rfl) :
  PE X (.ListComp elt [⟨.Name x px,iter,[],0⟩] scope pos) (ync wi te js):=by
 intro pins s σ H Q I h
 rw [eval_ListComp]
 refine wpAny_comprehension_free (use:=none) rfl hs hclos hkind hnames (thn (hi pins s σ H _ I h) fun v s1 h1=>thn h1 fun itv s2 h2=>?_)
 obtain ⟨it,fp,tn,J,H2,e,I2,T,st2,f2,h⟩:=h2
 subst e
 refine ybu (R:=fun D H'=>Q (.ref D) H') (RR:=compPost (model X.prog X.w) X.A X.xe none (EP X pins σ Q)) hc he hcell hkind hx hnd hfr hyc hrel hjs I2 T st2 f2 h ?_
 intro D C H' s' m f hn I' q
 refine ⟨m,hn,fun h' sb=>⟨.ref D,H',?_,rfl,q⟩⟩
 exact I'.turned (t':=s'.toks) (fun b o hb e=>sb.extBut b o hb e) f.1 f.2.1 f.2.2.2.1 f.2.2.2.2.1 f.2.2.2.2.2
theorem yn5 {i:Nat} {y:Str} {py spos:Pos} (hN:X.N.Nodup) (hy:X.N[i]? = some y) (hl:X.env.scope.names.lookup y = some .local) (hc:X.calm = true) (hi:PI X (.Name x px) iter wi)
  (he:∀ (C:Addr) (s2:Shared) (H2:Hp) (fp:List Addr),PE (X.compF scope ys C x s2 H2 fp) elt te) (hjs:js.map (fun j=>X.N[j]?) = ys.map some)
  (hclos:closureFor scope X.env = pure (zd ys X.env)) (hyc:∀ y ∈ ys,X.env.kindOf y = some .cell) (hrel:∀ y ∈ ys,(relabel scope X.env).names.lookup y = some .cell)
  (hsw:swapsWith (.ListComp elt [⟨.Name x px,iter,[],0⟩] scope pos) (some (.Name y py)) spos.line X.env = pure true:=by rfl) (hnd:(x :: ys).Nodup:=by decide)
  (hfr:∀ y ∈ scope.names,y.2 = .free->y.1 ∈ ys:=by decide +kernel) (hcell:∀ y ∈ scope.names,y.2 ≠ .cell:=by decide +kernel) (hkind:scope.kind = .function:=by rfl)
  (hnames:∀ y ∈ scope.names,y.2 = .local->scope.names.lookup y.1 = some .local:=by decide +kernel) (hx:scope.names.lookup x = some .local:=by rfl) (hs:∀ x,foldedSetIterable iter X.env x = pure x:=by intro _; rfl) :
  PS X (.Assign [.Name y py] (.ListComp elt [⟨.Name x px,iter,[],0⟩] scope pos) spos) (yuj (ync wi te js) (w5 i)):=by
 intro pins s σ H D0 I h
 rw [exec_Assign_Name_used _ _ _ _ hsw]
 refine wpAny_bind (wpAny_standAt (wpAny_bind ?_))
 show wpAny _ X.A (do let _ <- comprehension (.ListComp elt [⟨.Name x px,iter,[],0⟩] scope pos) scope X.env _ (newList []) false (eval iter X.env) (some (assign (.Name y py) X.env))) _ _ s
 refine wpAny_bind (wpAny_mono (wpAny_comprehension_free (use:=some (assign (.Name y py) X.env)) (Q:=fun _ s'=>SP X pins D0 .next s') rfl hs hclos hkind hnames (thn (hi pins s σ H _ I h) fun v s1 h1=>thn h1 fun itv s2 h2=>?_)) (fun _ s' hq=>wpAny_pure (wpAny_pure hq)) fun _ _ e=>e)
 obtain ⟨it,fp,tn,J,H2,e,I2,T,st2,f2,h⟩:=h2
 subst e
 refine ybu (R:=fun D H'=>w5 i (.ref D) σ H' D0.nx) (RR:=compPost (model X.prog X.w) X.A X.xe (some (assign (.Name y py) X.env)) (fun _ s'=>SP X pins D0 .next s')) hc he hcell hkind hx hnd hfr hyc hrel hjs I2 T st2 f2 h ?_
 intro D C H' s' m f hn I' q
 refine wpAny_assign_Name (jj (v:=V.ref D) I' hN hy (Or.inl hl) rfl (fun s'' I'' k''=>?_) (Or.inr hl))
 refine ⟨m,?_,fun h' sb=>⟨_,H',?_,q⟩⟩
 ·obtain ⟨b,sb,hb⟩:=k''
  refine hn.sameBut sb fun z=>?_
  rcases hb with hb | hb
  ·exact f.2.1 (z.trans hb)
  ·exact f.2.2.2.2.1 y b hb z.symm
 ·exact I''.turned (t':=s''.toks) (fun b o hb e=>sb.extBut b o hb e) f.1 f.2.1 f.2.2.2.1 f.2.2.2.2.1 f.2.2.2.2.2
theorem ys6 {H:Hp} {Q:VK} (h:wi σ H fun J H1=>∀ D,H1 D = none->u1 J te (wa js σ) D (fun H2=>Q (.ref D) H2) H1):ync wi te js σ H Q:=h
theorem j6 {K:W.Frag} {a D:Addr} {xs:List V} {te:TE} {fr:St} {R:Hp->Prop} {H1:Hp} (Pv:Nat->Hp->Prop) (h0:Pv 0 (upd H1 D (.lst []))) (hl:∀ i H,i <= xs.length->Pv i H->SqL K H a xs)
  (hs:∀ i x H,xs[i]? = some x->i < xs.length->Pv i H->te (some x :: fr) H fun y H4=>∃ ys,H4 D = some (.lst ys)/\ys.length < sizeLine/\∃ m',m' < xs.length - i/\cW xs.length Pv (i + 1) m' (upd H4 D (.lst (ys ++ [y]))))
  (hd:∀ H,Pv xs.length H->R H):u1 (Itl K a) te fr D R H1:=by
 refine ⟨cW xs.length Pv,⟨xs.length,by simp,Nat.zero_le _,h0⟩,?_⟩
 rintro i m H ⟨rfl,hi,p⟩
 have q:=hl i H hi p
 by_cases hlt:i < xs.length
 ·refine .inr ⟨⟨xs,xs[i],q,by simp [hlt]⟩,fun x H' y=>?_⟩
  obtain ⟨e,y⟩:=y
  subst e
  exact hs i x _ (y xs q) hlt p
 ·have e:i = xs.length:=by omega
  subst e
  exact .inl ⟨⟨xs,q,Nat.le_refl _⟩,hd H p⟩
theorem yhe {lo:Int} {n:Nat} {D:Addr} {te:TE} {fr:St} {R:Hp->Prop} {H1:Hp} (Pv:Nat->Hp->Prop) (h0:Pv 0 (upd H1 D (.lst [])))
  (hs:∀ i H,i < n->Pv i H->te (some (.int (lo + i)) :: fr) H fun y H4=>∃ ys,H4 D = some (.lst ys)/\ys.length < sizeLine/\∃ m',m' < n - i/\cW n Pv (i + 1) m' (upd H4 D (.lst (ys ++ [y]))))
  (hd:∀ H,Pv n H->R H):u1 (Itr lo n) te fr D R H1:=by
 refine ⟨cW n Pv,⟨n,by simp,Nat.zero_le _,h0⟩,?_⟩
 rintro i m H ⟨rfl,hi,p⟩
 by_cases hlt:i < n
 ·refine .inr ⟨hlt,fun x H' y=>?_⟩
  obtain ⟨e,y⟩:=y
  subst e y
  exact hs i _ hlt p
 ·have e:i = n:=by omega
  subst e
  exact .inl ⟨Nat.le_refl _,hd H p⟩
end
end L2
namespace L2
theorem v9 {α:Type} {P:α->Prop}:∀ y ∈ ([]:List α),P y:=fun _ h=>nomatch h
theorem all_cons {α:Type} {P:α->Prop} {y:α} {r:List α} (h:P y) (t:∀ z ∈ r,P z):∀ z ∈ y :: r,P z:=fun z hz=>by
 rcases List.mem_cons.mp hz with e | hz
 ·exact e ▸ h
 ·exact t z hz
end L2
namespace L2
open PySem PySem.Spec PyProof.Rows
section
variable {prog:Program} {w:World} {A:Around} {E:Value->Shared->Prop} {s:Shared}
end
section
variable {X:Cx}
theorem yie:∀ {ns:List Int} {us:List Value},wg (ns.map V.int) us->∃ xs:Array (Int × Tok),us.toArray = intItems xs/\xs.toList.map (·.1) = ns
 | [],_,.nil=>⟨#[],by simp [intItems],rfl⟩
 | n :: r,_,.cons (l₂:=us) a t=>by
  obtain ⟨tk,rfl⟩:=a
  obtain ⟨xs,e1,e2⟩:=yie t
  refine ⟨((n,tk) :: xs.toList).toArray,?_,by simp [e2]⟩
  have:us = (intItems xs).toList:=by rw [<- e1]
  rw [this]
  simp [intItems]
theorem ju (hc:X.calm = true):ybe X (.builtin "sum") (fun vs H Q=>∃ p ns,vs = [.ref p]/\SqL X.K H p (List.map V.int ns)/\Q (.int ns.sum) H):=by
 intro pins s σ H xs us Q I r h
 obtain ⟨p,ns,rfl,hq,q⟩:=h
 obtain ⟨u,rfl,rx⟩:=ynn r
 cases rx
 obtain ⟨its,r',pl,hz⟩:=I.list hq
 obtain ⟨ys,e1,e2⟩:=yie r'
 have hl:s.heap.IsList p (intItems ys):=e1 ▸ pl.isList
 refine sum_intListG (I.ok.hd hc) hl fun h' tk t' hk=>?_
 rw [preSum_eq,List.take_of_length_le (by simp),e2]
 exact ⟨.int ns.sum,H,I.kept (t':=tk) hk,⟨_,rfl⟩,q⟩
end
end L2
namespace L2
open PySem PySem.Spec PyProof.Rows
section
variable {X:Cx} {e:Expr} {t1 t2:TE}
def yue (t1 t2:TE):TE:=fun σ H Q=>t1 σ H Q\/t2 σ H Q
theorem yi4 (h1:PE X e t1) (h2:PE X e t2):PE X e (yue t1 t2):=by
 intro pins s σ H Q I h
 rcases h with h | h
 ·exact h1 pins s σ H Q I h
 ·exact h2 pins s σ H Q I h
theorem yi7 {σ:St} {H:Hp} {Q:VK} (h:t1 σ H Q):yue t1 t2 σ H Q:=.inl h
theorem ybw {σ:St} {H:Hp} {Q:VK} (h:t2 σ H Q):yue t1 t2 σ H Q:=.inr h
end
theorem yy {α:Type} {H:Hp} {p:Addr} {o:HO} {A:Hp->α->Prop} {Q:α} (hp:H p = none) (h:∀ H',vm H H'->H' p = some o->A H' Q):A (upd H p o) Q:=h _ (vn hp) yd
section
variable {K:W.Frag} {a D:Addr} {xs:List V} {te:TE} {fr:St} {R:Hp->Prop} {H1:Hp}
theorem yf5 (Pv:Nat->Hp->Prop) (h0:Pv 0 (upd H1 D (.lst []))) (hl:∀ i H,i <= xs.length->Pv i H->SqT K H a xs)
  (hs:∀ i x H,xs[i]? = some x->i < xs.length->Pv i H->te (some x :: fr) H fun y H4=>∃ ys,H4 D = some (.lst ys)/\ys.length < sizeLine/\∃ m',m' < xs.length - i/\cW xs.length Pv (i + 1) m' (upd H4 D (.lst (ys ++ [y]))))
  (hd:∀ H,Pv xs.length H->R H):u1 (Itt K a) te fr D R H1:=by
 refine ⟨cW xs.length Pv,⟨xs.length,by simp,Nat.zero_le _,h0⟩,?_⟩
 rintro i m H ⟨rfl,hi,p⟩
 have q:=hl i H hi p
 by_cases hlt:i < xs.length
 ·refine .inr ⟨⟨xs,xs[i],q,by simp [hlt]⟩,fun x H' y=>?_⟩
  obtain ⟨e,y⟩:=y
  subst e
  exact hs i x _ (y xs q) hlt p
 ·have e:i = xs.length:=by omega
  subst e
  exact .inl ⟨⟨xs,q,Nat.le_refl _⟩,hd H p⟩
theorem yol (Pv:Nat->Hp->Prop) (h0:Pv 0 (upd H1 D (.lst []))) (hl:∀ i H,i <= xs.length->Pv i H->SqT K H a xs)
  (hs:∀ i x H,xs[i]? = some x->i < xs.length->Pv i H->te [some x] H fun y H4=>∃ ys,H4 D = some (.lst ys)/\ys.length < sizeLine/\∃ m',m' < xs.length - i/\cW xs.length Pv (i + 1) m' (upd H4 D (.lst (ys ++ [y]))))
  (hd:∀ H,Pv xs.length H->R H):ybz (Itt K a) te D R H1:=by
 refine ⟨cW xs.length Pv,⟨xs.length,by simp,Nat.zero_le _,h0⟩,?_⟩
 rintro i m H ⟨rfl,hi,p⟩
 have q:=hl i H hi p
 by_cases hlt:i < xs.length
 ·refine .inr ⟨⟨xs,xs[i],q,by simp [hlt]⟩,fun x H' y=>?_⟩
  obtain ⟨e,y⟩:=y
  subst e
  exact hs i x _ (y xs q) hlt p
 ·have e:i = xs.length:=by omega
  subst e
  exact .inl ⟨⟨xs,q,Nat.le_refl _⟩,hd H p⟩
def Mp (H1:Hp) (D:Addr) (f:Nat->V) (i:Nat) (H:Hp):Prop:=vm H1 H/\H D = some (.lst ((List.range i).map f))
theorem Mp.zero {f:Nat->V} (hD:H1 D = none):Mp H1 D f 0 (upd H1 D (.lst [])):=⟨vn hD,yd⟩
theorem Mp.step {f:Nat->V} {n i:Nat} {H4:Hp} {y:V} (hD:H1 D = none) (hn:n < sizeLine) (hi:i < n) (S:vm H1 H4) (h4:H4 D = some (.lst ((List.range i).map f))) (e:y = f i) :
  ∃ ys,H4 D = some (.lst ys)/\ys.length < sizeLine/\∃ m',m' < n - i/\cW n (Mp H1 D f) (i + 1) m' (upd H4 D (.lst (ys ++ [y]))):=by
 refine xu (n:=n) h4 (by rw [List.length_map,List.length_range]; omega) hi ⟨?_,?_⟩
 ·intro b o hb
  rw [yu (ye hb hD)]
  exact S b o hb
 ·rw [yd,List.range_succ,List.map_append,e]
  rfl
theorem ya7 {f:Nat->V} {g:V->V} {xs:List V} (h:∀ i x,xs[i]? = some x->f i = g x):(List.range xs.length).map f = xs.map g:=by
 refine List.ext_getElem? fun i=>?_
 rw [List.getElem?_map,List.getElem?_map]
 by_cases hi:i < xs.length
 ·rw [List.getElem?_range hi,List.getElem?_eq_getElem hi]
  show some (f i) = some (g xs[i])
  rw [h i _ (List.getElem?_eq_getElem hi)]
 ·rw [List.getElem?_eq_none (by rw [List.length_range]; omega),List.getElem?_eq_none (by omega)]
  rfl
def ofG (g:V->V) (xs:List V) (i:Nat):V:=((xs[i]?).map g).getD .non
theorem yi8 {g:V->V} {xs:List V} {i:Nat} {x:V} (h:xs[i]? = some x):ofG g xs i = g x:=by
 unfold ofG
 rw [h]
 rfl
def MpK (H1:Hp) (D:Addr) (f:Nat->V) (n i:Nat):VK:=fun y H4=>∃ ys,H4 D = some (.lst ys)/\ys.length < sizeLine/\∃ m',m' < n - i/\cW n (Mp H1 D f) (i + 1) m' (upd H4 D (.lst (ys ++ [y])))
theorem Mp.done {g:V->V} {i:Nat} {x y:V} {H4:Hp} (hD:H1 D = none) (hn:xs.length < sizeLine) (hx:xs[i]? = some x) (S:vm H1 H4) (h4:H4 D = some (.lst ((List.range i).map (ofG g xs)))) (e:y = g x):MpK H1 D (ofG g xs) xs.length i y H4:=by
 have hi:i < xs.length:=by
  rcases Nat.lt_or_ge i xs.length with q | q
  ·exact q
  ·rw [List.getElem?_eq_none q] at hx; cases hx
 exact Mp.step hD hn hi S h4 (e.trans (yi8 hx).symm)
theorem Mp.doneR {f:Nat->V} {n i:Nat} {y:V} {H4:Hp} (hD:H1 D = none) (hn:n < sizeLine) (hi:i < n) (S:vm H1 H4) (h4:H4 D = some (.lst ((List.range i).map f))) (e:y = f i):MpK H1 D f n i y H4:=Mp.step hD hn hi S h4 e
theorem ya6 (g:V->V) (hq:SqL K H1 a xs) (hD:H1 D = none)
  (hs:∀ i x H,xs[i]? = some x->vm H1 H->H D = some (.lst ((List.range i).map (ofG g xs)))->te (some x :: fr) H (MpK H1 D (ofG g xs) xs.length i))
  (hd:∀ H,vm H1 H->H D = some (.lst (xs.map g))->R H):u1 (Itl K a) te fr D R H1 :=
 j6 (Mp H1 D (ofG g xs)) (Mp.zero hD) (fun _ _ _ p=>p.1.seq hq) (fun i x H hx hi p=>hs i x H hx p.1 p.2)
  fun H p=>hd H p.1 (by rw [<- ya7 (f:=ofG g xs) fun i x=>yi8]; exact p.2)
theorem ybt (g:V->V) (hq:SqT K H1 a xs) (hD:H1 D = none)
  (hs:∀ i x H,xs[i]? = some x->vm H1 H->H D = some (.lst ((List.range i).map (ofG g xs)))->te (some x :: fr) H (MpK H1 D (ofG g xs) xs.length i))
  (hd:∀ H,vm H1 H->H D = some (.lst (xs.map g))->R H):u1 (Itt K a) te fr D R H1 :=
 yf5 (Mp H1 D (ofG g xs)) (Mp.zero hD) (fun _ _ _ p=>p.1.tup hq) (fun i x H hx hi p=>hs i x H hx p.1 p.2)
  fun H p=>hd H p.1 (by rw [<- ya7 (f:=ofG g xs) fun i x=>yi8]; exact p.2)
theorem yk2 (g:V->V) (hq:SqT K H1 a xs) (hD:H1 D = none)
  (hs:∀ i x H,xs[i]? = some x->vm H1 H->H D = some (.lst ((List.range i).map (ofG g xs)))->te [some x] H (MpK H1 D (ofG g xs) xs.length i))
  (hd:∀ H,vm H1 H->H D = some (.lst (xs.map g))->R H):ybz (Itt K a) te D R H1 :=
 yol (Mp H1 D (ofG g xs)) (Mp.zero hD) (fun _ _ _ p=>p.1.tup hq) (fun i x H hx hi p=>hs i x H hx p.1 p.2)
  fun H p=>hd H p.1 (by rw [<- ya7 (f:=ofG g xs) fun i x=>yi8]; exact p.2)
theorem yfa {lo:Int} {n:Nat} (f:Nat->V) (hD:H1 D = none)
  (hs:∀ i H,i < n->vm H1 H->H D = some (.lst ((List.range i).map f))->te (some (.int (lo + i)) :: fr) H (MpK H1 D f n i))
  (hd:∀ H,vm H1 H->H D = some (.lst ((List.range n).map f))->R H):u1 (Itr lo n) te fr D R H1 :=
 yhe (Mp H1 D f) (Mp.zero hD) (fun i H hi p=>hs i H hi p.1 p.2) fun H p=>hd H p.1 p.2
theorem ytz {tr:TA} {σ:St} {H:Hp} {R:It->Hp->Prop} (h:tr σ H fun vs H1=>∃ i j:Int,vs = [.int i,.int j]/\(-(2 ^ 62) <= i/\i < 2 ^ 62/\-(2 ^ 62) <= j/\j < 2 ^ 62)/\R (Itr i (j - i).toNat) H1):yyt tr σ H R:=h
end
structure Mk0 (K:W.Frag) (C:Addr):Prop where
 makes:W.makesIn K C = true
 init:W.findIn K (.ref C) "__init__" = some (some (.builtin "object.__init__"))
 kp:W.keepIn K (.ref C) = true
end L2
namespace L2
open PySem PySem.Spec PyProof.Rows
def yyo (K:W.Frag):List V->Hp->VK->Prop:=fun xs H Q=>∃ p ys,xs = [.ref p]/\(SqL K H p ys\/SqT K H p ys)/\Q (.int ys.length) H
theorem ylh {X:Cx}:ybe X (.builtin "len") (yyo X.K):=yw
end L2
namespace L2
open PySem PySem.Spec PyProof.Rows
abbrev Cx.compT (X:Cx) (scope:Scope) (ys:List Str) (C:Addr) (xs:List Str) (s2:Shared) (H2:Hp) (fp:List Addr):Cx :=
 { X with N:=xs ++ ys,s₀:=s2,H₀:=H2,env:=compEnvC scope (zd ys X.env) C X.env,outer:=X.stack,ex:=fp,fn:=fun _=>false,pn:=[],xe:=fun _ _=>False }
def yac (J:It) (g:TG) (te:TE) (n:Nat) (fr:St) (D:Addr) (R:Hp->Prop) (H1:Hp):Prop:=∃ W:Nat->Nat->Hp->Prop,(∃ m,W 0 m (upd H1 D (.lst []))) /\
 ∀ i m H2,W i m H2->(J.stop i H2/\R H2)\/(J.go i H2/\∀ x H3 pre,J.yld i H2 x H3->List.length pre = n->g x (pre ++ fr) H3 fun σ' H'=>(∃ pre',List.length pre' = n/\σ' = pre' ++ fr)/\te σ' H' fun y H4=>∃ ys,H4 D = some (.lst ys)/\ys.length < sizeLine/\∃ m',m' < m/\W (i + 1) m' (upd H4 D (.lst (ys ++ [y]))))
def ym3 (wi:TI) (g:TG) (te:TE) (n:Nat) (js:List Nat):TE:=fun σ H Q=>wi σ H fun J H1=>∀ D,H1 D = none->yac J g te n (wa js σ) D (fun H2=>Q (.ref D) H2) H1
section
variable {X:Cx} {iter elt tg:Expr} {xs:List Str} {g:TG} {pos:Pos} {scope:Scope} {te:TE} {wi:TI} {pins:List (Addr × Obj)} {σ:St} {ys:List Str} {js:List Nat}
theorem ybp {s2:Shared} {H2:Hp} {it:Addr} {fp:List Addr} {tn:Nat->Heap->Prop} {J:It} (hc:X.calm = true)
  (he:∀ (C:Addr) (s2:Shared) (H2:Hp) (fp:List Addr),PE (X.compT scope ys C xs s2 H2 fp) elt te)
  (hgt:∀ (C:Addr) (s2:Shared) (H2:Hp) (fp:List Addr),PG (X.compT scope ys C xs s2 H2 fp) tg g)
  (hcell:∀ y ∈ scope.names,y.2 ≠ .cell) (hkind:scope.kind = .function)
  (hfr:∀ y ∈ scope.names,y.2 = .free->y.1 ∈ ys) (hyc:∀ y ∈ ys,X.env.kindOf y = some .cell) (hrel:∀ y ∈ ys,(relabel scope X.env).names.lookup y = some .cell) (hjs:js.map (fun j=>X.N[j]?) = ys.map some)
  (I2:Inv X pins σ H2 s2) (T:ynr X.prog X.w X.K tg J fp it tn) (st2:tn 0 s2.heap) (f2:∀ b ∈ fp,ye3 X pins H2 b)
  {R:Addr->Hp->Prop} (h:∀ D,H2 D = none->yac J g te xs.length (wa js σ) D (R D) H2) {RR:Value->Addr->Result->Shared->Prop} {E:Value->Shared->Prop}
  (hR:∀ (D C:Addr) (H':Hp) (s':Shared) (m:Str->Option Value),ye3 X pins H' C->s'.heap.Ns C m->Inv X pins σ H' s'->R D H'->RR (.ref D) C (.ok .next) s') :
  wpAny (model X.prog X.w) X.A (newList []) (fun acc s₃=>wpAny (model X.prog X.w) X.A (newFunctionEnv scope X.env.globals (zd ys X.env) [] X.env.qual none .none (some X.env)) (fun cenv s₄ =>
   codeAny (model X.prog X.w) X.A (.compStart (.ListComp elt [⟨tg,iter,[],0⟩] scope pos) 0 (.ref it) acc { cenv with scope:=relabel scope X.env }) (RR acc cenv.locals) s₄) E s₃) E s2:=by
 have hsub:∀ y c,(zd ys X.env).lookup y = some c->X.env.cells.lookup y = some c:=fun y c e=>by
  obtain ⟨m,rfl⟩:=yaq e
  obtain ⟨c',q⟩:=I2.ok.has y (.inl (hyc y m))
  rw [q]
  rfl
 refine wpAny_newObj_type (wpAny_newFunctionEnv hcell (by intro y hy; simp at hy) (fun h₁ hns₁ hsb₁=>?_) hkind)
 dsimp only at hns₁ hsb₁ ⊢
 generalize hH2:s2.heap.push { cls:=.type "list",dict:=none,data:=.seq ([]:List Value).toArray } = G at hns₁ hsb₁ ⊢
 have hC:G.objs.size = s2.heap.objs.size + 1:=by rw [<- hH2,Heap.size_push]
 have hDC:s2.heap.objs.size ≠ G.objs.size:=by rw [hC]; exact Nat.ne_of_lt (Nat.lt_succ_self _)
 have hCle:s2.heap.objs.size <= G.objs.size:=by rw [hC]; exact Nat.le_succ _
 have below:∀ b,b < s2.heap.objs.size->b ≠ G.objs.size/\b ≠ s2.heap.objs.size:=fun b hb=>⟨by rw [hC]; exact Nat.ne_of_lt (Nat.lt_succ_of_lt hb),Nat.ne_of_lt hb⟩
 have old:∀ b o,s2.heap.get? b = some o->h₁.get? b = some o:=fun b o e=>hsb₁.extBut b o (below b (Heap.lt_size e)).1 (Heap.get?_push_of_some _ (hH2 ▸ Heap.get?_push_of_some _ e))
 have hacc:h₁.get? s2.heap.objs.size = some { cls:=.type "list",data:=.seq ([]:List Value).toArray }:=hsb₁.extBut _ _ hDC (Heap.get?_push_of_some _ (hH2 ▸ Heap.get?_push_size _ rfl))
 have fpl:∀ b ∈ fp,b < s2.heap.objs.size:=fun b hb=>let ⟨_,e,_⟩:=T.obj 0 _ st2 b hb; Heap.lt_size e
 have fpS:∀ b ∈ fp,b ∉ frs X.stack:=fun b hb z=>(List.mem_cons.mp (I2.stkSub b z)).elim (f2 b hb).2.1 (f2 b hb).2.2.1
 have nC:H2 G.objs.size = none:=I2.hok.fresh hCle
 have nD:H2 s2.heap.objs.size = none:=I2.hok.fresh (Nat.le_refl _)
 have cellOld:∀ y c,(zd ys X.env).lookup y = some c->∃ v o,s2.heap.get? c = some o/\o.data = .cell v:=fun y c e=>by
  obtain ⟨v,o,q1,q2⟩:=I2.cell y c (hsub y c e)
  exact ⟨v,o,q1,q2⟩
 have okC:(X.compT scope ys G.objs.size xs s2 H2 fp).Ok:=by
  refine ⟨I2.ok.mod,hkind,I2.ok.glob,I2.ok.blt,hCle,fun y z c e e'=>I2.ok.inj y z c (hsub y c e) (hsub z c e'),fun y e=>?_,fun y c z e=>(by cases z),I2.ok.hd,I2.ok.frames,.inl rfl,fun b hb=>⟨(below b (fpl b hb)).1,fun y c e=>(f2 b hb).2.2.2.2.1 y c (hsub y c e)⟩,I2.bs,?_,fun b o e hb=>?_,fun b hb=>fpS b hb,I2.stack,I2.stkFree⟩
  ·have e':(relabel scope X.env).names.lookup y = some .cell\/(relabel scope X.env).names.lookup y = some .free:=e
   have hin:y ∈ ys:=by
    rcases e' with e' | e'
    ·obtain ⟨k0,m,q⟩:=wl e'
     rcases q with q | q
     ·exact absurd q.symm (hcell _ m)
     ·exact hfr _ m q
    ·obtain ⟨k0,m,q⟩:=wl e'
     rcases q with q | q
     ·exact hfr _ m q.symm
     ·exact hfr _ m q
   exact ⟨_,uy hin⟩
  ·exact Nat.le_trans I2.ok.bsz I2.sz
  ·rcases (f2 b hb).2.2.2.1 with z | z
   ·exact I2.ok.noex b o e z
   ·exact absurd (Nat.lt_of_lt_of_le (Heap.lt_size (I2.ok.bs b o e).1) z) (Nat.lt_irrefl _)
 have hlen:(wa js σ).length = ys.length:=by
  have:=congrArg List.length hjs
  simpa [wa] using this
 have I3:∀ tk,Inv (X.compT scope ys G.objs.size xs s2 H2 fp) [] (List.replicate xs.length none ++ wa js σ) (upd H2 s2.heap.objs.size (.lst [])) { s2 with heap:=h₁,toks:=tk }:=fun tk =>
  ⟨okC,rfl,I2.bare,Un.laid old (Nat.le_refl _) nD,⟨_,hns₁,fun i y v e1 e2 e3=>by
    by_cases hi0:i < xs.length
    ·rw [List.getElem?_append_left (by simpa using hi0),List.getElem?_replicate,if_pos hi0] at e2
     cases e2
    ·obtain ⟨i,rfl⟩:∃ i',i = xs.length + i':=⟨i - xs.length,by omega⟩
     have e1:ys[i]? = some y:=by rw [List.getElem?_append_right (by omega)] at e1; simpa using e1
     have e2:(wa js σ)[i]? = some (some v):=by rw [List.getElem?_append_right (by simp)] at e2; simpa using e2
     have hy:y ∈ ys:=List.mem_of_getElem? e1
     have ej:=congrArg (fun l=>l[i]?) hjs
     simp only [List.getElem?_map,e1,Option.map_some] at ej
     cases q:js[i]? with
     | none=>rw [q] at ej; cases ej
     | some j =>
      rw [q] at ej
      have ej:X.N[j]? = some y:=by simpa using ej
      have es:σ[j]? = some (some v):=by
       simp only [wa,List.getElem?_map,q,Option.map_some,Option.some.injEq] at e2
       cases r:σ[j]? with
       | none=>rw [r] at e2; cases e2
       | some w'=>rw [r] at e2; rw [show w' = some v from e2]
      obtain ⟨m0,_,hl0⟩:=I2.loc
      obtain ⟨u,ru,lk⟩:=hl0 j y v ej es (.inr (.inl (hyc y hy)))
      refine ⟨u,ru,.inr ⟨.inl (hrel y hy),?_⟩⟩
      rcases lk with ⟨k1,_⟩ | ⟨_,c,ec,o,ho,hd⟩
      ·rw [hyc y hy] at k1; cases k1
      ·refine ⟨c,?_,o,old c o ho,hd⟩
       show (zd ys X.env).lookup y = some c
       rw [uy hy,ec]
       rfl⟩,fun y c e=>(by
    obtain ⟨v,o,q1,q2⟩:=cellOld y c e
    exact ⟨v,o,old c o q1,q2⟩),(by show upd H2 s2.heap.objs.size _ G.objs.size = none; rw [yu hDC.symm]; exact nC),fun y c e=>(by
    obtain ⟨v,o,q1,q2⟩:=cellOld y c e
    show upd H2 s2.heap.objs.size _ c = none
    rw [yu (below c (Heap.lt_size q1)).2]
    exact I2.freeC y c (hsub y c e)),fun p hp=>(by simp at hp),
   I2.hok.laid old (Nat.le_refl _) ⟨Nat.zero_le _,[],_,.nil,hacc⟩,by show (List.replicate xs.length none ++ wa js σ).length = (xs ++ ys).length; simp [hlen]⟩
 have stat:∀ {H':Hp},(∀ b ∈ fp,H' b = none)->∀ b ∈ fp,ye3 (X.compT scope ys G.objs.size xs s2 H2 fp) [] H' b:=fun hn b hb=>⟨hn b hb,(below b (fpl b hb)).1,fpS b hb,.inl hb,fun y c e=>(f2 b hb).2.2.2.2.1 y c (hsub y c e),fun p hp=>(by simp at hp)⟩
 have loop:∀ tk,codeAny (model X.prog X.w) X.A (.compLoop (.ListComp elt [⟨tg,iter,[],0⟩] scope pos) 0 (.ref it) (.ref s2.heap.objs.size) (compEnvC scope (zd ys X.env) G.objs.size X.env)) (RR (.ref s2.heap.objs.size) G.objs.size) { s2 with heap:=h₁,toks:=tk }:=by
  intro tk
  obtain ⟨W,⟨m0,w0⟩,turn⟩:=h s2.heap.objs.size nD
  refine codeAny_loop rfl (fun n s'=>∃ i v H',List.length v = xs.length/\Inv (X.compT scope ys G.objs.size xs s2 H2 fp) [] (v ++ wa js σ) H' s'/\tn i s'.heap/\(∀ b ∈ fp,H' b = none)/\W i n H') (fun n s' hI=>?_) m0
   ⟨0,List.replicate xs.length none,_,by simp,I3 tk,T.keep 0 _ _ st2 (fun b hb o e=>old b o e),fun b hb=>(by rw [yu (below b (fpl b hb)).2]; exact (f2 b hb).1),w0⟩
  obtain ⟨i,v,H',hv,I,st,fr,w⟩:=hI
  show wpAny _ _ ((compTurn (.ListComp elt [⟨tg,iter,[],0⟩] scope pos) 0 (.ref it) (.ref s2.heap.objs.size) (compEnvC scope (zd ys X.env) G.objs.size X.env)).onRaise (fun x=>do noteFrame x (compEnvC scope (zd ys X.env) G.objs.size X.env); theTreesLotGoes x)) _ _ s'
  refine wpAny_noted ?_
  rw [compTurn_list1]
  refine wpAny_bind (wpAny_standAt (wpAny_bind ?_))
  rcases turn i n H' w with ⟨stop,q⟩ | ⟨go,step⟩
  ·refine thn (T.done (X.compT scope ys G.objs.size xs s2 H2 fp) rfl rfl rfl hc i [] s' (v ++ wa js σ) H' _ I (stat fr) st stop) fun r s4 ⟨hr,I4⟩=>?_
   subst hr
   refine wpAny_pure ?_
   obtain ⟨m,hn,_⟩:=I4.loc
   exact hR _ _ H' s4 m (I2.fpOk hCle I4.free) hn (I2.call' (ch:=fp) I4.os I4.base I4.hok I4.bare fun b hb=>⟨(f2 b hb).2.2.2.1,(f2 b hb).2.1,(f2 b hb).2.2.2.2.1,(f2 b hb).2.2.2.2.2⟩) q
  ·refine thn (T.item (X.compT scope ys G.objs.size xs s2 H2 fp) rfl rfl rfl hc i [] s' (v ++ wa js σ) H' _ I (stat fr) st go) fun r s4 ⟨u,hr,h4⟩=>?_
   subst hr
   refine wpAny_bind (thn h4 fun _ s5 ⟨y,H5,I5,r5,y5,st5,fr5⟩=>wpAny_bind ?_)
   have I5':=I5.pinned (stat fr5) (T.obj _ _ st5)
   refine ynt (hgt _ _ _ _ _ s5 (v ++ wa js σ) H5 y u _ I5' r5 (step y H5 v y5 hv)) fun _ s6 ⟨σ',H6,I6,⟨pre',hp',ep⟩,q6⟩=>?_
   subst ep
   refine wpAny_bind (wpAny_bind (ynt (he _ _ _ _ _ s6 (pre' ++ wa js σ) H6 _ I6 q6) fun u2 s7 ⟨y2,H7,I7,r7,zs,hD,hl,m',hm,w'⟩=>wpAny_bind ?_))
   refine ynt (wo _ s7 (pre' ++ wa js σ) H7 (.ref s2.heap.objs.size) [y2] (.ref s2.heap.objs.size) [u2] (fun _ H8=>H8 = upd H7 s2.heap.objs.size (.lst (zs ++ [y2]))) I7 rfl (.cons r7 .nil) ⟨_,zs,y2,rfl,rfl,hD,hl,rfl⟩) fun _ s8 ⟨_,H8,I8,_,e8⟩=>?_
   subst e8
   have pin:∀ b ∈ fp,∀ o,s5.heap.get? b = some o->s8.heap.get? b = some o/\upd H7 s2.heap.objs.size (HO.lst (zs ++ [y2])) b = none:=fun b hb o e =>
    ⟨(I8.pin (b,o) (List.mem_append_right _ (List.mem_append_right _ (wf hb e)))).1,(I8.pin (b,o) (List.mem_append_right _ (List.mem_append_right _ (wf hb e)))).2.1⟩
   refine wpAny_pure (wpAny_pure ⟨rfl,m',hm,i + 1,pre',_,hp',I8.unpinned,T.keep _ _ _ st5 fun b hb o e=>(pin b hb o e).1,fun b hb=>?_,w'⟩)
   obtain ⟨o,e,d⟩:=T.obj _ _ st5 b hb
   exact (pin b hb o e).2
 exact codeAny_compStart_list (loop _) (T.self X.A 0 _ _ _ (T.keep 0 _ _ st2 (fun b hb o e=>old b o e)) (loop _))
theorem yig (hc:X.calm = true) (hi:PI X tg iter wi) (he:∀ (C:Addr) (s2:Shared) (H2:Hp) (fp:List Addr),PE (X.compT scope ys C xs s2 H2 fp) elt te) (hjs:js.map (fun j=>X.N[j]?) = ys.map some)
  (hgt:∀ (C:Addr) (s2:Shared) (H2:Hp) (fp:List Addr),PG (X.compT scope ys C xs s2 H2 fp) tg g)
  (hclos:closureFor scope X.env = pure (zd ys X.env)) (hyc:∀ y ∈ ys,X.env.kindOf y = some .cell) (hrel:∀ y ∈ ys,(relabel scope X.env).names.lookup y = some .cell)
  (hfr:∀ y ∈ scope.names,y.2 = .free->y.1 ∈ ys:=by decide +kernel) (hcell:∀ y ∈ scope.names,y.2 ≠ .cell:=by decide +kernel) (hkind:scope.kind = .function:=by rfl)
  (hnames:∀ y ∈ scope.names,y.2 = .local->scope.names.lookup y.1 = some .local:=by decide +kernel) (hs:∀ x,foldedSetIterable iter X.env x = pure x:=by intro _; rfl) :
  PE X (.ListComp elt [⟨tg,iter,[],0⟩] scope pos) (ym3 wi g te xs.length js):=by
 intro pins s σ H Q I h
 rw [eval_ListComp]
 refine wpAny_comprehension_free (use:=none) rfl hs hclos hkind hnames (thn (hi pins s σ H _ I h) fun v s1 h1=>thn h1 fun itv s2 h2=>?_)
 obtain ⟨it,fp,tn,J,H2,e,I2,T,st2,f2,h⟩:=h2
 subst e
 refine ybp (R:=fun D H'=>Q (.ref D) H') (RR:=compPost (model X.prog X.w) X.A X.xe none (EP X pins σ Q)) hc he hgt hcell hkind hfr hyc hrel hjs I2 T st2 f2 h ?_
 intro D C H' s' m f hn I' q
 refine ⟨m,hn,fun h' sb=>⟨.ref D,H',?_,rfl,q⟩⟩
 exact I'.turned (t':=s'.toks) (fun b o hb e=>sb.extBut b o hb e) f.1 f.2.1 f.2.2.2.1 f.2.2.2.2.1 f.2.2.2.2.2
theorem ysg {H:Hp} {Q:VK} {n:Nat} (h:wi σ H fun J H1=>∀ D,H1 D = none->yac J g te n (wa js σ) D (fun H2=>Q (.ref D) H2) H1):ym3 wi g te n js σ H Q:=h
end
end L2
namespace L2
open PySem PySem.Spec PyProof.Rows
section
variable {X:Cx} {tg:Expr}
end
section
variable {prog:Program} {w:World} {A:Around} {E:Value->Shared->Prop} {s:Shared}
theorem jc {it l:Addr} {i:Nat} {items} {x:Value} {Q:Value->Shared->Prop} (hit:s.heap.IsTupleIter it l i) (hl:s.heap.IsTuple l items) (hx:items[i]? = some x)
  (hQ:∀ h',h'.IsTupleIter it l (i + 1)->Heap.SameBut it s.heap h'->Q x { s with heap:=h' }):wpAny (model prog w) A (Builtin.SmallTypes.nextOf (.ref it)) Q E s:=by
 obtain ⟨ob,hob,hcl,hdt⟩:=id hit
 obtain ⟨ol,hol,_,nl,hdl⟩:=hl
 unfold Builtin.SmallTypes.nextOf
 refine wpAny_bind (wpAny_callSpecial?_slot (name:=Str.ofString "__next__") hit.typeIs slot_tupleiter_next (wpAny_call_entry slot_tupleiter_next hit.typeIs entry_tupleiter_next ?_ (args_tupleiter_next _)))
 show wpAny _ _ (field (.ref it) 0 >>= _) _ _ s
 refine wpAny_bind (wpAny_field hob hdt (x:=.ref l) rfl ?_)
 show wpAny _ _ (if (Value.ref l == Value.none) = true then _ else _) _ _ s
 rw [if_neg (show ¬ ((Value.ref l == Value.none) = true) from Bool.false_ne_true)]
 show wpAny _ _ (field (.ref it) 1 >>= _) _ _ s
 refine wpAny_bind (wpAny_field hob hdt (x:=.int i 0) rfl ?_)
 show wpAny _ _ (seqItems? (.ref l) >>= _) _ _ s
 refine wpAny_bind (wpAny_seqItems hol hdl ?_)
 simp only [Int.toNat_natCast,hx]
 refine wpAny_bind (wpAny_setField hob hdt (by simp) (wpAny_pure ⟨x,rfl,wpAny_pure (hQ _ ⟨_,Heap.get?_update_self _ hob (Obj.isFreed_of_fields (Obj.data_mapFields hdt _)),(Obj.cls_mapFields ..).trans hcl,?_⟩ (Heap.SameBut.update ..))⟩))
 rw [Obj.data_mapFields hdt]
 simp [rawInt]
theorem ya2 {it l:Addr} {i:Nat} {items} {Q:Value->Shared->Prop} (hh:A.handled = none) (hit:s.heap.IsTupleIter it l i) (hl:s.heap.IsTuple l items) (hx:items[i]? = none)
  (hE:∀ h' e,Heap.ExtBut it s.heap h'->(∃ o,h'.get? e = some o/\o.cls = .type "StopIteration")->E (.ref e) { s with heap:=h' }):wpAny (model prog w) A (Builtin.SmallTypes.nextOf (.ref it)) Q E s:=by
 obtain ⟨ob,hob,hcl,hdt⟩:=id hit
 obtain ⟨ol,hol,_,nl,hdl⟩:=hl
 unfold Builtin.SmallTypes.nextOf
 refine wpAny_bind (wpAny_callSpecial?_slot (name:=Str.ofString "__next__") hit.typeIs slot_tupleiter_next (wpAny_call_entry slot_tupleiter_next hit.typeIs entry_tupleiter_next ?_ (args_tupleiter_next _)))
 (show wpAny _ _ (field (.ref it) 0 >>= _) _ _ s); refine wpAny_bind (wpAny_field hob hdt (x:=.ref l) rfl ?_)
 (show wpAny _ _ (if (Value.ref l == Value.none) = true then _ else _) _ _ s); rw [if_neg (show ¬ ((Value.ref l == Value.none) = true) from Bool.false_ne_true)]
 (show wpAny _ _ (field (.ref it) 1 >>= _) _ _ s); refine wpAny_bind (wpAny_field hob hdt (x:=.int i 0) rfl ?_)
 (show wpAny _ _ (seqItems? (.ref l) >>= _) _ _ s); refine wpAny_bind (wpAny_seqItems hol hdl ?_)
 simp only [Int.toNat_natCast,hx]; refine wpAny_bind (wpAny_rule (wpAny_bind (wpAny_setField hob hdt (by simp) ?_)))
 (show wpAny _ _ (newExc (.type "StopIteration") [] >>= _) _ _ _); refine wpAny_bind ?_
 simp only [newExc,newTuple]; refine wpAny_bind (wpAny_newObj_type ?_ (by size_fits))
 refine wpAny_bind (m:=firstArgMember _ _) (wpAny_of_eq (a:=Value.none) (by first | rfl | (simp only [firstArgMember]; rfl)) (wpAny_newObj_type ?_ (by size_fits)))
 simp only [raiseNew]; refine wpAny_bind (wpAny_handled ?_)
 (first | rw [show A.in1.handled = none from hh] | rw [hh]); refine wpAny_bind (wpAny_pure (wpAny_throw ?_))
 exact hE _ _ (((Heap.SameBut.update _ ..).extBut.push _).push _) ⟨_,Heap.get?_push_size _ rfl,rfl⟩
end
section
open AutoSeq1 (wpAny_loadPart')
set_option maxRecDepth 100000
end
section
variable {prog:Program} {w:World} {A:Around} {E:Value->Shared->Prop} {s:Shared}
end
section
variable {X:Cx}
end
end L2
namespace L2
open PySem PySem.Spec PyProof.Rows
section
variable {X:Cx} {tg:Expr}
end
end L2
namespace L2
section
variable {σ:St} {H:Hp} {Q:VK} {td ty tx tv:TE}
theorem yu3 (h:td σ H fun x H1=>ty σ H1 fun y H2=>∃ a v,x = .ref a/\ynp H2 a y (some v)/\Q v H2):yyw td ty σ H Q:=h
theorem yok (h:ty σ H fun y H1=>td σ H1 fun x H2=>∃ a o,x = .ref a/\ynp H2 a y o/\Q (.bl (!o.isSome)) H2):yl3 ty td σ H Q:=h
theorem ywu {nx bk ct:St->Hp->Prop} {rt:VK} (h:tv σ H fun v H1=>td σ H1 fun x H2=>ty σ H2 fun y H3=>∃ a H4,x = .ref a/\yuk H3 a y v H4/\nx σ H4):yy2 td ty tv ⟨nx,rt,bk,ct⟩ σ H:=h
theorem ysl (h:∀ p,H p = none->Q (.ref p) (upd H p (.dT []))):yru σ H Q:=h
end
end L2
namespace L2
open PySem PySem.Spec PyProof.Rows
def Itz (K:W.Frag) (a b:Addr):It :=
 ⟨fun i H=>∃ xs ys x y,SqL K H a xs/\SqL K H b ys/\xs[i]? = some x/\ys[i]? = some y,
  fun i H v H'=>∃ t x y,v = .ref t/\H t = none/\H' = upd H t (.tup [x,y])/\(∀ xs,SqL K H a xs->xs[i]? = some x)/\(∀ ys,SqL K H b ys->ys[i]? = some y),
  fun i H=>∃ xs ys,SqL K H a xs/\SqL K H b ys/\(xs.length <= i\/ys.length <= i)⟩
structure Zap (z TI TO i1 i2:Addr):Prop where
 a1:TI ≠ z
 a2:TO ≠ z
 a3:i1 ≠ z
 a4:i2 ≠ z
 a5:TI ≠ TO
 a6:TI ≠ i1
 a7:TI ≠ i2
 a8:TO ≠ i1
 a9:TO ≠ i2
 b1:i1 ≠ i2
def Zst (z TI TO i1 i2 l1 l2:Addr) (i:Nat) (h:Heap):Prop:=IsZip h z TI TO .none/\IsPair h TI (.ref i1) (.ref i2)/\(∃ a b,IsPair h TO a b)/\h.IsListIter i1 l1 i/\h.IsListIter i2 l2 i
theorem ud {h:Heap} {a b:Addr} {o o':Obj} (e:h.get? a = some o) (e':h.get? b = some o') (n:o.cls ≠ o'.cls):a ≠ b:=by
 rintro rfl
 rw [e] at e'
 cases e'
 exact n rfl
theorem yqf (z:Nat):Zap (z + 4) (z + 2) (z + 3) z (z + 1):=by
 constructor <;> (show (_:Nat) ≠ (_:Nat); omega)
theorem nT {a b:String} (h:Value.type a ≠ Value.type b):Value.type a ≠ Value.type b:=h
theorem Zap.apart {X:Cx} {pins:List (Addr × Obj)} {σ:St} {H:Hp} {s:Shared} {z TI TO i1 i2 l1 l2:Addr} {i:Nat} {xs ys:List Value} (d:Zap z TI TO i1 i2) (st:Zst z TI TO i1 i2 l1 l2 i s.heap) (p:PlainL s.heap l1 xs.toArray) (q:PlainL s.heap l2 ys.toArray) (_:Inv X pins σ H s):ZipApart z TI TO i1 i2 l1 l2:=by
 obtain ⟨hz,hTI,⟨a,b,hTO⟩,⟨o1,e1,c1,_⟩,⟨o2,e2,c2,_⟩⟩:=st
 obtain ⟨ol,el,cl,_⟩:=p.isList
 obtain ⟨om,em,cm,_⟩:=q.isList
 exact ⟨d.a1,d.a2,d.a3,d.a4,d.a5,d.a6,d.a7,d.a8,d.a9,d.b1,
  ud el hz (by rw [cl]; exact nT (by decide)),ud el hTO (by rw [cl]; exact nT (by decide)),ud el e1 (by rw [cl,c1]; decide),ud el e2 (by rw [cl,c2]; decide),
  ud em hz (by rw [cm]; exact nT (by decide)),ud em hTO (by rw [cm]; exact nT (by decide)),ud em e1 (by rw [cm,c1]; decide),ud em e2 (by rw [cm,c2]; decide)⟩
theorem yo9 {P:Program} {w:World} {K:W.Frag} {elts:List Expr} {x1} {tpos:Pos} (l1 l2 z TI TO i1 i2:Addr) (d:Zap z TI TO i1 i2) :
  ynr P w K (.Tuple elts x1 tpos) (Itz K l1 l2) [z,TI,TO,i1,i2] z (Zst z TI TO i1 i2 l1 l2) where
 mem:=by simp
 obj:=fun i h st b hb=>by
  obtain ⟨hz,hTI,⟨_,_,hTO⟩,⟨o1,e1,_,d1⟩,⟨o2,e2,_,d2⟩⟩:=st
  simp only [List.mem_cons,List.not_mem_nil,or_false] at hb
  rcases hb with rfl | rfl | rfl | rfl | rfl
  ·exact ⟨_,hz,fun v z=>by cases z⟩
  ·exact ⟨_,hTI,fun v z=>by cases z⟩
  ·exact ⟨_,hTO,fun v z=>by cases z⟩
  ·exact ⟨o1,e1,fun v z=>by rw [d1] at z; cases z⟩
  ·exact ⟨o2,e2,fun v z=>by rw [d2] at z; cases z⟩
 keep:=fun i h h' st k=>by
  obtain ⟨hz,hTI,⟨a,b,hTO⟩,h1,h2⟩:=st
  exact ⟨k z (by simp) _ hz,k TI (by simp) _ hTI,⟨a,b,k TO (by simp) _ hTO⟩,h1.at fun o e=>k i1 (by simp) o e,h2.at fun o e=>k i2 (by simp) o e⟩
 item:=by
  intro X hP hw hK hc i pins s σ H E I hf st hg
  subst hP hw hK
  obtain ⟨xs,ys,x,y,hq,hq',hx,hy⟩:=hg
  obtain ⟨its,rv,p,hz0⟩:=I.list hq
  obtain ⟨its',rv',p',hz0'⟩:=I.list hq'
  obtain ⟨u,hu,ru⟩:=rv.get hx
  obtain ⟨u',hu',ru'⟩:=rv'.get hy
  have D:=d.apart st p p' I
  obtain ⟨hz,hTI,⟨va,vb,hTO⟩,hi1,hi2⟩:=st
  refine wpAny_pyNext_zip_item D hz hTI hTO hi1 hi2 p.isList p'.isList (x:=u) (y:=u') (by simpa using hu) (by simpa using hu') fun h' a1 a2 a3 a4 a5 a6 hk=>?_
  refine ⟨_,rfl,wpAny_letOwnedTupleGo_zip a1 fun h'' hz'' hs''=>?_⟩
  have hTn:H s.heap.objs.size = none:=I.hok.fresh (Nat.le_refl _)
  have lz:z < s.heap.objs.size:=Heap.lt_size hz
  have lo:TO < s.heap.objs.size:=Heap.lt_size hTO
  have lI:TI < s.heap.objs.size:=Heap.lt_size hTI
  have l1':i1 < s.heap.objs.size:=by obtain ⟨o,e,_⟩:=id hi1; exact Heap.lt_size e
  have l2':i2 < s.heap.objs.size:=by obtain ⟨o,e,_⟩:=id hi2; exact Heap.lt_size e
  have keep:∀ b o,b ≠ z->b ≠ TO->b ≠ i1->b ≠ i2->s.heap.get? b = some o->h''.get? b = some o:=fun b o n1 n2 n3 n4 e=>(hs''.2 b n1).trans (hk b o n1 n2 n3 n4 e)
  have htup:h''.get? s.heap.objs.size = some { cls:=.type "tuple",data:=.seq #[u,u'] }:=(hs''.2 _ (Nat.ne_of_gt lz)).trans a5
  have nt:∀ {b v},H b = some v->b ≠ z/\b ≠ TO/\b ≠ i1/\b ≠ i2:=fun {b v} e=>⟨ye e (hf z (by simp)).1,ye e (hf TO (by simp)).1,ye e (hf i1 (by simp)).1,ye e (hf i2 (by simp)).1⟩
  have hok:HOk X.prog X.w (upd H s.heap.objs.size (.tup [x,y])) h'':=fun b o e=>by
   by_cases hb:b = s.heap.objs.size
   ·subst hb
    rw [yd] at e
    cases e
    exact ⟨by show 2 <= sizeLine; decide,[u,u'],.cons ru (.cons ru' .nil),⟨_,htup,rfl,_,rfl⟩⟩
   ·rw [yu hb] at e
    refine (I.hok b o e).stay (fun c v hc' q=>?_) (fun c q=>by rw [yu (ye q hTn)]; exact q) fun c ys q=>by rw [yu (ye q hTn)]; exact q
    obtain ⟨n1,n2,n3,n4⟩:c ≠ z/\c ≠ TO/\c ≠ i1/\c ≠ i2:=by
     rcases hc' with rfl | hc'
     ·exact nt e
     ·exact nt hc'
    exact keep c v n1 n2 n3 n4 q
  have un:Un (frs X.stack) [z,TI,TO,i1,i2] H (upd H s.heap.objs.size (.tup [x,y])) s.heap h'':=by
   have kp:∀ {b o},b ∉ [z,TI,TO,i1,i2]->s.heap.get? b = some o->h''.get? b = some o:=fun {b o} hb e=>keep b o (fun q=>hb (by simp [q])) (fun q=>hb (by simp [q])) (fun q=>hb (by simp [q])) (fun q=>hb (by simp [q])) e
   refine ⟨fun b o e n _ hx=>kp hx e,fun b o e n _ hx=>⟨o.slots,kp hx e⟩,fun b o e n _=>by rw [yu (Nat.ne_of_lt (Heap.lt_size e))]; exact n,fun b o e hx=>⟨o,kp hx e⟩,
    fun b ys e=>by rw [yu (ye e hTn)]; exact e,fun b o v e=>by rw [yu (ye e hTn)]; exact e,fun b ps e=>⟨#[],by rw [yu (ye e hTn),e]; simp⟩⟩
  have I1:Inv X pins σ (upd H s.heap.objs.size (.tup [x,y])) { s with heap:=h'' }:=I.call' (s':={ s with heap:=h'' }) rfl un hok I.bare fun b hb=>by
   have f:=hf b hb
   exact ⟨f.2.2.2.1,f.2.1,f.2.2.2.2.1,f.2.2.2.2.2⟩
  refine ⟨.ref s.heap.objs.size,_,I1,rfl,⟨_,x,y,rfl,hTn,rfl,fun zs h=>by rw [I.list_inj h hq]; exact hx,fun zs h=>by rw [I.list_inj h hq']; exact hy⟩,?_,fun b hb=>?_⟩
  ·exact ⟨hz'',keep _ _ D.TIz D.TITO D.TIi1 D.TIi2 hTI,⟨u,u',(hs''.2 _ D.TOz).trans a2⟩,a3.at fun o e=>(hs''.2 _ D.i1z).trans e,a4.at fun o e=>(hs''.2 _ D.i2z).trans e⟩
  ·rw [yu (fun q=>?_)]
   ·exact (hf b hb).1
   ·have hq:b < s.heap.objs.size:=by
     simp only [List.mem_cons,List.not_mem_nil,or_false] at hb
     rcases hb with rfl | rfl | rfl | rfl | rfl <;> assumption
    exact absurd q (Nat.ne_of_lt hq)
 done:=by
  intro X hP hw hK hc i pins s σ H E I hf st hg
  subst hP hw hK
  obtain ⟨xs,ys,hq,hq',hx⟩:=hg
  obtain ⟨its,rv,p,hz0⟩:=I.list hq
  obtain ⟨its',rv',p',hz0'⟩:=I.list hq'
  have D:=d.apart st p p' I
  obtain ⟨hz,hTI,⟨va,vb,hTO⟩,hi1,hi2⟩:=st
  have hl:=rv.length
  have hl':=rv'.length
  refine wpAny_pyNext_zip_end (show X.A.handled = none from I.ok.hd hc) D hz hTI hTO hi1 hi2 p.isList p'.isList (by simp; omega) fun h' hk=>⟨rfl,?_⟩
  have nt:∀ {b v},H b = some v->b ≠ z/\b ≠ TO/\b ≠ i1/\b ≠ i2:=fun {b v} e=>⟨ye e (hf z (by simp)).1,ye e (hf TO (by simp)).1,ye e (hf i1 (by simp)).1,ye e (hf i2 (by simp)).1⟩
  have hok:HOk X.prog X.w H h':=fun b o e=>by
   refine (I.hok b o e).stay (fun c v hc' q=>?_) (fun c q=>q) fun c ys q=>q
   obtain ⟨n1,n2,n3,n4⟩:c ≠ z/\c ≠ TO/\c ≠ i1/\c ≠ i2:=by
    rcases hc' with rfl | hc'
    ·exact nt e
    ·exact nt hc'
   exact hk c v n1 n2 n3 n4 q
  have un:Un (frs X.stack) [z,TI,TO,i1,i2] H H s.heap h':=by
   have kp:∀ {b o},b ∉ [z,TI,TO,i1,i2]->s.heap.get? b = some o->h'.get? b = some o:=fun {b o} hb e=>hk b o (fun q=>hb (by simp [q])) (fun q=>hb (by simp [q])) (fun q=>hb (by simp [q])) (fun q=>hb (by simp [q])) e
   exact ⟨fun b o e n _ hx=>kp hx e,fun b o e n _ hx=>⟨o.slots,kp hx e⟩,fun b o e n _=>n,fun b o e hx=>⟨o,kp hx e⟩,fun b ys e=>e,fun b o v e=>e,fun b ps e=>⟨#[],by rw [e]; simp⟩⟩
  exact I.call' (s':={ s with heap:=h' }) rfl un hok I.bare fun b hb=>by
   have f:=hf b hb
   exact ⟨f.2.2.2.1,f.2.1,f.2.2.2.2.1,f.2.2.2.2.2⟩
 self:=fun _ _ _ _ _ st h=>wpAny_pyIter_zip st.1 h
section
variable {X:Cx}
def va9 (K:W.Frag) (ta:TA):TI:=fun σ H R=>ta σ H fun vs H1=>∃ a b,vs = [.ref a,.ref b]/\(∃ xs ys,SqL K H1 a xs/\SqL K H1 b ys)/\R (Itz K a b) H1
theorem yq5 {elts:List Expr} {x1} {tpos:Pos} {l m:Expr} {ta:TA} {p pos:Pos} (hg:Gl X "zip") (hm:X.mg "zip" = none) (ha:PA X [l,m] ta) (hs:starEach [l,m] X.env = [(false,eval l X.env),(false,eval m X.env)]:=by rfl) (hs2:starEach [m] X.env = [(false,eval m X.env)]:=by rfl) :
  PI X (.Tuple elts x1 tpos) (.Call (.Name "zip" p) [l,m] [] pos) (va9 X.K ta):=by
 intro pins s σ H R I h
 refine Call_ (ya9 I hg hm (show bootBuiltins "zip" = some (.type "zip") by decide +kernel) (PyProof.Rows.callWith_type1 (thn (ha pos pins s σ H _ I h) fun us s1 ⟨vs,H1,I1,r1,q1⟩=>?_) (by rw [hs,hs2]) (by rw [hs2]; rfl)))
 obtain ⟨a,b,e,⟨xs,ys,hq,hq'⟩,q⟩:=q1
 subst e
 cases r1 with
 | cons r rr =>
  cases rr with
  | cons r' rr =>
   cases rr
   cases r
   cases r'
   obtain ⟨its,rv,pl,hz⟩:=I1.list hq
   obtain ⟨its',rv',pl',hz'⟩:=I1.list hq'
   refine call_zip_2 pl.isList pl'.isList fun h' hz hTI hTO h1 h2 hsz hk=>?_
   refine wpAny_pyIter_zip hz ?_
   have zap:Zap (s1.heap.objs.size + 4) (s1.heap.objs.size + 2) (s1.heap.objs.size + 3) s1.heap.objs.size (s1.heap.objs.size + 1):=yqf _
   refine ⟨s1.heap.objs.size + 4,[s1.heap.objs.size + 4,s1.heap.objs.size + 2,s1.heap.objs.size + 3,s1.heap.objs.size,s1.heap.objs.size + 1],_,_,H1,rfl,I1.kept (t':=s1.toks) hk,yo9 a b _ _ _ _ _ zap,⟨hz,hTI,⟨_,_,hTO⟩,h1,h2⟩,fun b hb=>?_,q⟩
   have hb:s1.heap.objs.size <= b:=by
    simp only [List.mem_cons,List.not_mem_nil,or_false] at hb
    rcases hb with rfl | rfl | rfl | rfl | rfl <;> omega
   exact I1.fpOk hb (I1.hok.fresh hb)
theorem ywa {K:W.Frag} {ta:TA} {σ:St} {H:Hp} {R:It->Hp->Prop} (h:ta σ H fun vs H1=>∃ a b,vs = [.ref a,.ref b]/\(∃ xs ys,SqL K H1 a xs/\SqL K H1 b ys)/\R (Itz K a b) H1):va9 K ta σ H R:=h
end
theorem ybm {K:W.Frag} {a b D:Addr} {xs ys:List V} {g:TG} {te:TE} {n:Nat} {fr:St} {R:Hp->Prop} {H1:Hp} (f:Nat->V) (hq:SqL K H1 a xs) (hq':SqL K H1 b ys) (hl:ys.length = xs.length) (hD:H1 D = none)
  (hs:∀ i x y H t pre,xs[i]? = some x->ys[i]? = some y->vm H1 H->H D = some (.lst ((List.range i).map f))->H t = none->List.length pre = n->g (.ref t) (pre ++ fr) (upd H t (.tup [x,y])) fun σ' H'=>(∃ pre',List.length pre' = n/\σ' = pre' ++ fr)/\te σ' H' (MpK H1 D f xs.length i))
  (hd:∀ H,vm H1 H->H D = some (.lst ((List.range xs.length).map f))->R H):yac (Itz K a b) g te n fr D R H1:=by
 refine ⟨cW xs.length (Mp H1 D f),⟨xs.length,by simp,Nat.zero_le _,Mp.zero hD⟩,?_⟩
 rintro i m H ⟨rfl,hi,p⟩
 have q:=p.1.seq hq
 have q':=p.1.seq hq'
 by_cases hlt:i < xs.length
 ·refine .inr ⟨⟨xs,ys,xs[i],ys[i]'(by omega),q,q',by simp [hlt],by simp [hl,hlt]⟩,fun y H' pre yl hp=>?_⟩
  obtain ⟨t,x,y,rfl,ht,rfl,hx,hy⟩:=yl
  exact hs i x y H t pre (hx xs q) (hy ys q') p.1 p.2 ht hp
 ·have e:i = xs.length:=by omega
  subst e
  exact .inl ⟨⟨xs,ys,q,q',.inl (Nat.le_refl _)⟩,hd H p.1 p.2⟩
section
variable {X:Cx} {iter elt tg:Expr} {xs:List Str} {g:TG} {pos:Pos} {scope:Scope} {te:TE} {wi:TI} {ys:List Str} {js:List Nat}
theorem yoc {i:Nat} {y:Str} {py spos:Pos} (hN:X.N.Nodup) (hy:X.N[i]? = some y) (hl:X.env.scope.names.lookup y = some .local) (hc:X.calm = true) (hi:PI X tg iter wi)
  (he:∀ (C:Addr) (s2:Shared) (H2:Hp) (fp:List Addr),PE (X.compT scope ys C xs s2 H2 fp) elt te) (hjs:js.map (fun j=>X.N[j]?) = ys.map some)
  (hgt:∀ (C:Addr) (s2:Shared) (H2:Hp) (fp:List Addr),PG (X.compT scope ys C xs s2 H2 fp) tg g)
  (hclos:closureFor scope X.env = pure (zd ys X.env)) (hyc:∀ y ∈ ys,X.env.kindOf y = some .cell) (hrel:∀ y ∈ ys,(relabel scope X.env).names.lookup y = some .cell)
  (hsw:swapsWith (.ListComp elt [⟨tg,iter,[],0⟩] scope pos) (some (.Name y py)) spos.line X.env = pure true:=by rfl)
  (hfr:∀ y ∈ scope.names,y.2 = .free->y.1 ∈ ys:=by decide +kernel) (hcell:∀ y ∈ scope.names,y.2 ≠ .cell:=by decide +kernel) (hkind:scope.kind = .function:=by rfl)
  (hnames:∀ y ∈ scope.names,y.2 = .local->scope.names.lookup y.1 = some .local:=by decide +kernel) (hs:∀ x,foldedSetIterable iter X.env x = pure x:=by intro _; rfl) :
  PS X (.Assign [.Name y py] (.ListComp elt [⟨tg,iter,[],0⟩] scope pos) spos) (yuj (ym3 wi g te xs.length js) (w5 i)):=by
 intro pins s σ H D0 I h
 rw [exec_Assign_Name_used _ _ _ _ hsw]
 refine wpAny_bind (wpAny_standAt (wpAny_bind ?_))
 show wpAny _ X.A (do let _ <- comprehension (.ListComp elt [⟨tg,iter,[],0⟩] scope pos) scope X.env _ (newList []) false (eval iter X.env) (some (assign (.Name y py) X.env))) _ _ s
 refine wpAny_bind (wpAny_mono (wpAny_comprehension_free (use:=some (assign (.Name y py) X.env)) (Q:=fun _ s'=>SP X pins D0 .next s') rfl hs hclos hkind hnames (thn (hi pins s σ H _ I h) fun v s1 h1=>thn h1 fun itv s2 h2=>?_)) (fun _ s' hq=>wpAny_pure (wpAny_pure hq)) fun _ _ e=>e)
 obtain ⟨it,fp,tn,J,H2,e,I2,T,st2,f2,h⟩:=h2
 subst e
 refine ybp (R:=fun D H'=>w5 i (.ref D) σ H' D0.nx) (RR:=compPost (model X.prog X.w) X.A X.xe (some (assign (.Name y py) X.env)) (fun _ s'=>SP X pins D0 .next s')) hc he hgt hcell hkind hfr hyc hrel hjs I2 T st2 f2 h ?_
 intro D C H' s' m f hn I' q
 refine wpAny_assign_Name (jj (v:=V.ref D) I' hN hy (Or.inl hl) rfl (fun s'' I'' k''=>?_) (Or.inr hl))
 refine ⟨m,?_,fun h' sb=>⟨_,H',?_,q⟩⟩
 ·obtain ⟨b,sb,hb⟩:=k''
  refine hn.sameBut sb fun z=>?_
  rcases hb with hb | hb
  ·exact f.2.1 (z.trans hb)
  ·exact f.2.2.2.2.1 y b hb z.symm
 ·exact I''.turned (t':=s''.toks) (fun b o hb e=>sb.extBut b o hb e) f.1 f.2.1 f.2.2.2.1 f.2.2.2.2.1 f.2.2.2.2.2
end
section
variable {X:Cx}
def onI (f:Int->Int):V->V
 | .int i=>.int (f i)
 | v=>v
theorem yl0 (f:Int->Int) (ns:List Int):(ns.map V.int).map (onI f) = (ns.map f).map V.int:=by
 rw [List.map_map,List.map_map]
 rfl
theorem ymy {pre:List (Option V)} (h:List.length pre = 2):∃ v1 v2,pre = [v1,v2]:=by
 match pre,h with
 | [v1,v2],_=>exact ⟨v1,v2,rfl⟩
end
theorem yw4 {to ti:TE} {t:yzn} {v:V} {σ:St} {H:Hp} {Q:St->Hp->Prop} (h:to σ H fun o H1=>ti σ H1 fun i H2=>t o i v H2 fun H3=>Q σ H3):vbi to ti t v σ H Q:=h
section
variable {X:Cx}
def yy8:V->List V->Hp->VK->Prop:=fun x vs H Q=>∃ i:Int,x = .int i/\vs = []/\Q (.int (Builtin.Int.intBits i:Nat)) H
theorem ysv:MtR X "int.bit_length" yy8:=by
 intro pins s σ H x vs v us Q I rx rv h
 obtain ⟨i,rfl,rfl,q⟩:=h
 obtain ⟨t,rfl⟩:=rx
 have hus:=rv.zero
 subst hus
 exact PyProof.Rows.call_int_bit_length ⟨.int _,H,I.tok _,⟨_,rfl⟩,q⟩
theorem yya {K:W.Frag} {i:Int} {H:Hp} {Q:VK} (h:Q (.int (Builtin.Int.intBits i:Nat)) H):tyV K "int" (.int i) H/\yy8 (.int i) [] H Q:=⟨rfl,i,rfl,rfl,h⟩
end
end L2
namespace L2
open PySem PySem.Spec PyProof.Rows
section
variable {prog:Program} {w:World} {A:Around} {E:Value->Shared->Prop} {s:Shared}
theorem yos {z TI TO i1 i2 l1 l2:Addr} {k1 k2:Nat} {xs ys:Array Value} {x y a b:Value} {Q:Value->Shared->Prop} (D:ZipApart z TI TO i1 i2 l1 l2) (hz:IsZip s.heap z TI TO .none) (hTI:IsPair s.heap TI (.ref i1) (.ref i2)) (hTO:IsPair s.heap TO a b)
  (h1:s.heap.IsTupleIter i1 l1 k1) (h2:s.heap.IsTupleIter i2 l2 k2) (hl1:s.heap.IsTuple l1 xs) (hl2:s.heap.IsTuple l2 ys) (hx:xs[k1]? = some x) (hy:ys[k2]? = some y)
  (hQ:∀ h',IsZip h' z TI TO (rawInt s.heap.objs.size)->IsPair h' TO x y->h'.IsTupleIter i1 l1 (k1 + 1)->h'.IsTupleIter i2 l2 (k2 + 1)->IsPair h' s.heap.objs.size x y->h'.objs.size = s.heap.objs.size + 1->(∀ c o,c ≠ z->c ≠ TO->c ≠ i1->c ≠ i2->s.heap.get? c = some o->h'.get? c = some o)->Q (.ref s.heap.objs.size) { s with heap:=h' }) :
  wpAny (model prog w) A (Builtin.«zip.__next__» ⟨[.ref z],[]⟩) (fun fin s'=>∃ v,fin = .done (.ret v)/\Q v s') E s:=by
 (show wpAny _ _ (field (.ref z) 2 >>= _) _ _ _); refine wpAny_bind (wpAny_field hz rfl (x:=.bool false) rfl ?_)
 (show wpAny _ _ (field (.ref z) 3 >>= _) _ _ _); refine wpAny_bind (wpAny_field hz rfl (x:=.ref TI) rfl ?_); refine wpAny_bind (wpAny_seqItems hTI rfl ?_)
 (show wpAny _ _ (Builtin.SmallTypes.ownedTupleIsFree (.ref z) >>= _) _ _ _); refine wpAny_bind ?_; unfold Builtin.SmallTypes.ownedTupleIsFree
 refine wpAny_bind (wpAny_field hz rfl (x:=.none) rfl (wpAny_pure ?_)); simp only [if_true]; refine wpAny_bind (wpAny_rule ?_)
 refine wpAny_bind (wpAny_field hz rfl (x:=.ref TO) rfl ?_); refine wpAny_bind (wpAny_setField_rec hz (by simp) fun h₁ hz₁ hs₁=>?_)
 replace hz₁:IsZip h₁ z TI TO .ellipsis:=hz₁; refine wpAny_bind ?_; simp only [List.zipIdx_cons,List.zipIdx_nil,List.forIn_cons,List.forIn_nil]
 refine wpAny_bind (wpAny_bind (wpAny_onRaise ?_)); (show wpAny _ _ (Builtin.SmallTypes.nextOf (.ref i1) >>= _) _ _ _)
 refine wpAny_bind (jc (h1.at fun o e=>hs₁.extBut _ _ D.i1z e) (hl1.extBut hs₁.extBut D.l1z) hx fun h₂ h1₂ hs₂=>wpAny_pure ?_)
 have hTO₂:IsPair h₂ TO a b:=hs₂.extBut _ _ D.TOi1 (hs₁.extBut _ _ D.TOz hTO); refine wpAny_bind (wpAny_seqItems hTO₂ rfl ?_)
 refine wpAny_bind (wpAny_updateSeq_pair hTO₂ fun h₃ hTO₃ hs₃=>?_); replace hTO₃:IsPair h₃ TO x b:=hTO₃; refine wpAny_bind (wpAny_letGo (wpAny_pure ?_))
 refine wpAny_bind (wpAny_bind (wpAny_onRaise ?_)); (show wpAny _ _ (Builtin.SmallTypes.nextOf (.ref i2) >>= _) _ _ _)
 refine wpAny_bind (jc (h2.at fun o e=>hs₃.extBut _ _ D.TOi2.symm (hs₂.extBut _ _ D.i12.symm (hs₁.extBut _ _ D.i2z e))) (((hl2.extBut hs₁.extBut D.l2z).extBut hs₂.extBut D.l2i1).extBut hs₃.extBut D.l2TO) hy fun h₄ h2₄ hs₄=>wpAny_pure ?_)
 have hTO₄:IsPair h₄ TO x b:=hs₄.extBut _ _ D.TOi2 hTO₃; refine wpAny_bind (wpAny_seqItems hTO₄ rfl ?_)
 refine wpAny_bind (wpAny_updateSeq_pair hTO₄ fun h₅ hTO₅ hs₅=>?_); replace hTO₅:IsPair h₅ TO x y:=hTO₅; refine wpAny_bind (wpAny_letGo (wpAny_pure (wpAny_pure ?_)))
 refine wpAny_bind (wpAny_seqItems hTO₅ rfl ?_); refine wpAny_bind (wpAny_newTuple ?_)
 have hsz:h₅.objs.size = s.heap.objs.size:=by (rw [hs₅.1,hs₄.1,hs₃.1,hs₂.1,hs₁.1])
 have hz₅:IsZip h₅ z TI TO .ellipsis:=(hs₅.extBut _ _ D.TOz.symm (hs₄.extBut _ _ D.i2z.symm (hs₃.extBut _ _ D.TOz.symm (hs₂.extBut _ _ D.i1z.symm hz₁))))
 have hk₅:∀ c o,c ≠ z->c ≠ TO->c ≠ i1->c ≠ i2->s.heap.get? c = some o->h₅.get? c = some o:=fun c o c1 c2 c3 c4 e=>hs₅.extBut _ _ c2 (hs₄.extBut _ _ c4 (hs₃.extBut _ _ c2 (hs₂.extBut _ _ c3 (hs₁.extBut _ _ c1 e))))
 have h1₅:h₅.IsTupleIter i1 l1 (k1 + 1):=h1₂.at fun o e=>hs₅.extBut _ _ D.TOi1.symm (hs₄.extBut _ _ D.i12 (hs₃.extBut _ _ D.TOi1.symm e))
 have h2₅:h₅.IsTupleIter i2 l2 (k2 + 1):=h2₄.at fun o e=>hs₅.extBut _ _ D.TOi2.symm e
 have hzlt:z < h₅.objs.size:=(Heap.lt_size hz₅)
 (show wpAny _ _ (Builtin.SmallTypes.ownedTupleHandOut (.ref z) (.ref h₅.objs.size) >>= _) _ _ _); refine wpAny_bind ?_; unfold Builtin.SmallTypes.ownedTupleHandOut
 have hz₆:IsZip (h₅.push { cls:=.type "tuple",data:=.seq #[x,y] }) z TI TO .ellipsis:=(Heap.get?_push_of_some _ hz₅)
 refine wpAny_bind (wpAny_setField_rec hz₆ (by simp) fun h₇ hz₇ hs₇=>?_); replace hz₇:IsZip h₇ z TI TO (rawInt h₅.objs.size):=hz₇
 refine wpAny_setField_rec hz₇ (by simp) fun h₈ hz₈ hs₈=>?_; replace hz₈:IsZip h₈ z TI TO (rawInt h₅.objs.size):=hz₈
 have up:∀ c o,c ≠ z->h₅.get? c = some o->h₈.get? c = some o:=(fun c o c1 e=>hs₈.extBut _ _ c1 (hs₇.extBut _ _ c1 (Heap.get?_push_of_some _ e)))
 have hT₈:IsPair h₈ h₅.objs.size x y:=(hs₈.extBut _ _ (Nat.ne_of_gt hzlt) (hs₇.extBut _ _ (Nat.ne_of_gt hzlt) (Heap.get?_push_size _ rfl)))
 have hz8:h₈.objs.size = h₅.objs.size + 1:=by (rw [hs₈.1,hs₇.1,Heap.size_push])
 (rw [hsz] at hz₈ hT₈ hz8); refine wpAny_pure ⟨_,rfl,?_⟩; show Q (.ref h₅.objs.size) _; rw [hsz]
 exact hQ h₈ hz₈ (up _ _ D.TOz hTO₅) (h1₅.at fun o e=>up _ o D.i1z e) (h2₅.at fun o e=>up _ o D.i2z e) hT₈ hz8 (fun c o c1 c2 c3 c4 e=>up c o c1 (hk₅ c o c1 c2 c3 c4 e))
theorem ytd {z TI TO i1 i2 l1 l2:Addr} {k1 k2:Nat} {xs ys:Array Value} {a b:Value} {Q:Fin->Shared->Prop} (hh:A.handled = none) (D:ZipApart z TI TO i1 i2 l1 l2) (hz:IsZip s.heap z TI TO .none) (hTI:IsPair s.heap TI (.ref i1) (.ref i2)) (hTO:IsPair s.heap TO a b)
  (h1:s.heap.IsTupleIter i1 l1 k1) (h2:s.heap.IsTupleIter i2 l2 k2) (hl1:s.heap.IsTuple l1 xs) (hl2:s.heap.IsTuple l2 ys) (hend:xs[k1]? = none\/ys[k2]? = none)
  (hE:∀ h' e,(∀ c o,c ≠ z->c ≠ TO->c ≠ i1->c ≠ i2->s.heap.get? c = some o->h'.get? c = some o)->(∃ o,h'.get? e = some o/\o.cls = .type "StopIteration")->E (.ref e) { s with heap:=h' }):wpAny (model prog w) A (Builtin.«zip.__next__» ⟨[.ref z],[]⟩) Q E s:=by
 (show wpAny _ _ (field (.ref z) 2 >>= _) _ _ _); refine wpAny_bind (wpAny_field hz rfl (x:=.bool false) rfl ?_)
 (show wpAny _ _ (field (.ref z) 3 >>= _) _ _ _); refine wpAny_bind (wpAny_field hz rfl (x:=.ref TI) rfl ?_); refine wpAny_bind (wpAny_seqItems hTI rfl ?_)
 (show wpAny _ _ (Builtin.SmallTypes.ownedTupleIsFree (.ref z) >>= _) _ _ _); refine wpAny_bind ?_; unfold Builtin.SmallTypes.ownedTupleIsFree
 refine wpAny_bind (wpAny_field hz rfl (x:=.none) rfl (wpAny_pure ?_)); simp only [if_true]; refine wpAny_bind (wpAny_rule ?_)
 refine wpAny_bind (wpAny_field hz rfl (x:=.ref TO) rfl ?_); refine wpAny_bind (wpAny_setField_rec hz (by simp) fun h₁ hz₁ hs₁=>?_)
 replace hz₁:IsZip h₁ z TI TO .ellipsis:=hz₁; refine wpAny_bind ?_; simp only [List.zipIdx_cons,List.zipIdx_nil,List.forIn_cons,List.forIn_nil]
 refine wpAny_bind (wpAny_bind (wpAny_onRaise ?_)); (show wpAny _ _ (Builtin.SmallTypes.nextOf (.ref i1) >>= _) _ _ _)
 cases hx:xs[k1]? with
 | none =>
  refine wpAny_bind (ya2 hh (h1.at fun o e=>hs₁.extBut _ _ D.i1z e) (hl1.extBut hs₁.extBut D.l1z) hx fun h₂ e hs₂ he=>?_)
  obtain ⟨oe,hoe,hce⟩:=he; have hz₂:IsZip h₂ z TI TO .ellipsis:=hs₂ _ _ D.i1z.symm hz₁
  have hez:e ≠ z:=(fun x=>by (subst x; rw [hz₂] at hoe; cases hoe; simp at hce))
  exact wpAny_setField_rec hz₂ (by simp) fun h₃ _ hs₃=>hE h₃ e (fun c o c1 _ c3 _ x=>hs₃.extBut _ _ c1 (hs₂ _ _ c3 (hs₁.extBut _ _ c1 x))) ⟨oe,hs₃.extBut _ _ hez hoe,hce⟩
 | some x =>
  have hy:ys[k2]? = none:=by (rcases hend with h | h; (rw [hx] at h; cases h); exact h)
  refine wpAny_bind (jc (h1.at fun o e=>hs₁.extBut _ _ D.i1z e) (hl1.extBut hs₁.extBut D.l1z) hx fun h₂ h1₂ hs₂=>wpAny_pure ?_)
  have hTO₂:IsPair h₂ TO a b:=(hs₂.extBut _ _ D.TOi1 (hs₁.extBut _ _ D.TOz hTO)); refine wpAny_bind (wpAny_seqItems hTO₂ rfl ?_)
  refine wpAny_bind (wpAny_updateSeq_pair hTO₂ fun h₃ hTO₃ hs₃=>?_); refine wpAny_bind (wpAny_letGo (wpAny_pure ?_))
  refine wpAny_bind (wpAny_bind (wpAny_onRaise ?_)); (show wpAny _ _ (Builtin.SmallTypes.nextOf (.ref i2) >>= _) _ _ _)
  refine wpAny_bind (ya2 hh (h2.at fun o e=>hs₃.extBut _ _ D.TOi2.symm (hs₂.extBut _ _ D.i12.symm (hs₁.extBut _ _ D.i2z e))) (((hl2.extBut hs₁.extBut D.l2z).extBut hs₂.extBut D.l2i1).extBut hs₃.extBut D.l2TO) hy fun h₄ e hs₄ he=>?_)
  obtain ⟨oe,hoe,hce⟩:=he; have hz₄:IsZip h₄ z TI TO .ellipsis:=hs₄ _ _ D.i2z.symm (hs₃.extBut _ _ D.TOz.symm (hs₂.extBut _ _ D.i1z.symm hz₁))
  have hez:e ≠ z:=(fun x=>by (subst x; rw [hz₄] at hoe; cases hoe; simp at hce))
  exact wpAny_setField_rec hz₄ (by simp) fun h₅ _ hs₅=>hE h₅ e (fun c o c1 c2 c3 c4 x=>hs₅.extBut _ _ c1 (hs₄ _ _ c4 (hs₃.extBut _ _ c2 (hs₂.extBut _ _ c3 (hs₁.extBut _ _ c1 x))))) ⟨oe,hs₅.extBut _ _ hez hoe,hce⟩
theorem yn9 {z TI TO i1 i2 l1 l2:Addr} {k1 k2:Nat} {xs ys:Array Value} {x y a b:Value} {Q:Option Value->Shared->Prop} (D:ZipApart z TI TO i1 i2 l1 l2) (hz:IsZip s.heap z TI TO .none) (hTI:IsPair s.heap TI (.ref i1) (.ref i2)) (hTO:IsPair s.heap TO a b)
  (h1:s.heap.IsTupleIter i1 l1 k1) (h2:s.heap.IsTupleIter i2 l2 k2) (hl1:s.heap.IsTuple l1 xs) (hl2:s.heap.IsTuple l2 ys) (hx:xs[k1]? = some x) (hy:ys[k2]? = some y)
  (hQ:∀ h',IsZip h' z TI TO (rawInt s.heap.objs.size)->IsPair h' TO x y->h'.IsTupleIter i1 l1 (k1 + 1)->h'.IsTupleIter i2 l2 (k2 + 1)->IsPair h' s.heap.objs.size x y->h'.objs.size = s.heap.objs.size + 1->(∀ c o,c ≠ z->c ≠ TO->c ≠ i1->c ≠ i2->s.heap.get? c = some o->h'.get? c = some o)->Q (some (.ref s.heap.objs.size)) { s with heap:=h' }) :
  wpAny (model prog w) A (pyNext (.ref z)) Q E s:=by
 have hT:s.TypeIs (.ref z) "zip":=(⟨_,hz,rfl⟩); unfold pyNext
 exact wpAny_bind (wpAny_attempt (wpAny_callSpecial?_slot (name:=Str.ofString "__next__") hT F.slot_zip_next (wpAny_call_entry F.slot_zip_next hT F.entry_zip_next
   (yos D hz hTI hTO h1 h2 hl1 hl2 hx hy fun h' a1 a2 a3 a4 a5 a6 a7=>wpAny_pure (hQ h' a1 a2 a3 a4 a5 a6 a7)) (F.args_zip_next_1 _))))
theorem yn0 {z TI TO i1 i2 l1 l2:Addr} {k1 k2:Nat} {xs ys:Array Value} {a b:Value} {Q:Option Value->Shared->Prop} (hh:A.handled = none) (D:ZipApart z TI TO i1 i2 l1 l2) (hz:IsZip s.heap z TI TO .none) (hTI:IsPair s.heap TI (.ref i1) (.ref i2)) (hTO:IsPair s.heap TO a b)
  (h1:s.heap.IsTupleIter i1 l1 k1) (h2:s.heap.IsTupleIter i2 l2 k2) (hl1:s.heap.IsTuple l1 xs) (hl2:s.heap.IsTuple l2 ys) (hend:xs[k1]? = none\/ys[k2]? = none)
  (hQ:∀ h',(∀ c o,c ≠ z->c ≠ TO->c ≠ i1->c ≠ i2->s.heap.get? c = some o->h'.get? c = some o)->Q none { s with heap:=h' }):wpAny (model prog w) A (pyNext (.ref z)) Q E s:=by
 have hT:s.TypeIs (.ref z) "zip":=(⟨_,hz,rfl⟩); unfold pyNext
 refine wpAny_bind (wpAny_attempt (wpAny_callSpecial?_slot (name:=Str.ofString "__next__") hT F.slot_zip_next (wpAny_call_entry F.slot_zip_next hT F.entry_zip_next
  (ytd hh D hz hTI hTO h1 h2 hl1 hl2 hend fun h' e hk he=>?_) (F.args_zip_next_1 _))))
 obtain ⟨o,ho,hc⟩:=he; refine wpAny_bind (wpAny_isInstance (T:="StopIteration") (b:=true) ⟨o,ho,hc⟩ isSubtype_stop ?_)
 exact wpAny_pure (hQ _ hk)
end
abbrev zT1 (h:Heap) (l1:Addr):Heap:=h.push { cls:=.type "tuple_iterator",data:=.fields #[.ref l1,.int 0 0] }
abbrev zT2 (h:Heap) (l1 l2:Addr):Heap:=(zT1 h l1).push { cls:=.type "tuple_iterator",data:=.fields #[.ref l2,.int 0 0] }
abbrev zT3 (h:Heap) (l1 l2:Addr):Heap:=(zT2 h l1 l2).push { cls:=.type "tuple",data:=.seq #[.ref h.objs.size,.ref (zT1 h l1).objs.size] }
abbrev zT4 (h:Heap) (l1 l2:Addr):Heap:=(zT3 h l1 l2).push { cls:=.type "tuple",data:=.seq #[.none,.none] }
abbrev zT5 (h:Heap) (l1 l2:Addr):Heap:=(zT4 h l1 l2).push { cls:=.type "zip",data:=.fields #[.none,.bool false,.bool false,.ref (zT2 h l1 l2).objs.size,.ref (zT3 h l1 l2).objs.size] }
theorem yrx (l1 l2:Addr) (xs ys:Array Value):Meets (Builtin.«zip.__new__» ⟨[.type "zip",.ref l1,.ref l2],[]⟩) (fun _ R s=>s.heap.IsTuple l1 xs/\s.heap.IsTuple l2 ys/\R (.ok (.ret (.ref (zT4 s.heap l1 l2).objs.size))) { s with heap:=zT5 s.heap l1 l2 }) :=
 .of_wp fun prog w A R s h=>by
  obtain ⟨hp,g,d,tk,os⟩:=s
  obtain ⟨hl1,hl2,h⟩:=h
  have hsub:=sub_zip
  have hT1:Heap.IsTuple (Shared.heap ⟨hp,g,d,tk,os⟩) l1 xs:=hl1
  have hT2:Heap.IsTuple (Shared.heap ⟨hp.push { cls:=.type "tuple_iterator",data:=.fields #[.ref l1,.int 0 0] },g,d,tk,os⟩) l2 ys:=Heap.IsTuple.push hl2 _
  wp_walk using wpAny_pyIter_tuple hT1,wpAny_pyIter_tuple hT2
  exact ⟨_,rfl,h⟩
section
variable {prog:Program} {w:World} {A:Around} {E:Value->Shared->Prop} {s:Shared}
theorem yo4 {l1 l2:Addr} {xs ys:Array Value} {Q:Value->Shared->Prop} (hl1:s.heap.IsTuple l1 xs) (hl2:s.heap.IsTuple l2 ys)
  (h:∀ h',IsZip h' (s.heap.objs.size + 4) (s.heap.objs.size + 2) (s.heap.objs.size + 3) .none->IsPair h' (s.heap.objs.size + 2) (.ref s.heap.objs.size) (.ref (s.heap.objs.size + 1))->IsPair h' (s.heap.objs.size + 3) .none .none->h'.IsTupleIter s.heap.objs.size l1 0->h'.IsTupleIter (s.heap.objs.size + 1) l2 0 ->
   (∀ c o,s.heap.get? c = some o->h'.get? c = some o)->Q (.ref (s.heap.objs.size + 4)) { s with heap:=h' }):wpAny (model prog w) A (call (.type "zip") [.ref l1,.ref l2]) Q E s:=by
 refine callType_new F.called_zip (by decide) (F.typeCall_zip_2 _ _) (F.newCall_zip_2 _ _) (fun obj=>F.args_object_init_3 obj _ _) F.entry_zip_new (yrx l1 l2 xs ys) ⟨hl1,hl2,?_⟩
 have z1:(zT1 s.heap l1).objs.size = s.heap.objs.size + 1:=Heap.size_push ..
 have z2:(zT2 s.heap l1 l2).objs.size = s.heap.objs.size + 2:=by rw [Heap.size_push,z1]
 have z3:(zT3 s.heap l1 l2).objs.size = s.heap.objs.size + 3:=by rw [Heap.size_push,z2]
 have z4:(zT4 s.heap l1 l2).objs.size = s.heap.objs.size + 4:=by rw [Heap.size_push,z3]
 have g5:(zT5 s.heap l1 l2).get? (zT4 s.heap l1 l2).objs.size = some _:=Heap.get?_push_size _ rfl
 have g4:(zT5 s.heap l1 l2).get? (zT3 s.heap l1 l2).objs.size = some _:=Heap.get?_push_of_some _ (Heap.get?_push_size _ rfl)
 have g3:(zT5 s.heap l1 l2).get? (zT2 s.heap l1 l2).objs.size = some _:=Heap.get?_push_of_some _ (Heap.get?_push_of_some _ (Heap.get?_push_size _ rfl))
 have g2:(zT5 s.heap l1 l2).get? (zT1 s.heap l1).objs.size = some _:=Heap.get?_push_of_some _ (Heap.get?_push_of_some _ (Heap.get?_push_of_some _ (Heap.get?_push_size _ rfl)))
 have g1:(zT5 s.heap l1 l2).get? s.heap.objs.size = some _:=(Heap.get?_push_of_some _ (Heap.get?_push_of_some _ (Heap.get?_push_of_some _ (Heap.get?_push_of_some _ (Heap.get?_push_size _ rfl)))))
 show _/\_
 rw [z2,z3,z4] at g5
 rw [z1,z2] at g3
 rw [z3] at g4
 rw [z1] at g2
 rw [z4]
 exact ⟨⟨_,g5,rfl⟩,h _ g5 g3 g4 ⟨_,g1,rfl,rfl⟩ ⟨_,g2,rfl,rfl⟩ fun c o x=>(Heap.get?_push_of_some _ (Heap.get?_push_of_some _ (Heap.get?_push_of_some _ (Heap.get?_push_of_some _ (Heap.get?_push_of_some _ x)))))⟩
end
def yzf (K:W.Frag) (a b:Addr):It :=
 ⟨fun i H=>∃ xs ys x y,SqT K H a xs/\SqT K H b ys/\xs[i]? = some x/\ys[i]? = some y,
  fun i H v H'=>∃ t x y,v = .ref t/\H t = none/\H' = upd H t (.tup [x,y])/\(∀ xs,SqT K H a xs->xs[i]? = some x)/\(∀ ys,SqT K H b ys->ys[i]? = some y),
  fun i H=>∃ xs ys,SqT K H a xs/\SqT K H b ys/\(xs.length <= i\/ys.length <= i)⟩
def vbk (z TI TO i1 i2 l1 l2:Addr) (i:Nat) (h:Heap):Prop:=IsZip h z TI TO .none/\IsPair h TI (.ref i1) (.ref i2)/\(∃ a b,IsPair h TO a b)/\h.IsTupleIter i1 l1 i/\h.IsTupleIter i2 l2 i
theorem Zap.apartT {X:Cx} {H:Hp} {s:Shared} {z TI TO i1 i2 l1 l2:Addr} {i:Nat} {xs ys:List Value} {us vs:List V} (d:Zap z TI TO i1 i2) (st:vbk z TI TO i1 i2 l1 l2 i s.heap) (p:s.heap.IsTuple l1 xs.toArray) (q:s.heap.IsTuple l2 ys.toArray) (hn:H TO = none) (hK:X.K.lookup TO = none)
  (hq:SqT X.K H l1 us) (hq':SqT X.K H l2 vs):ZipApart z TI TO i1 i2 l1 l2:=by
 obtain ⟨hz,hTI,⟨a,b,hTO⟩,⟨o1,e1,c1,_⟩,⟨o2,e2,c2,_⟩⟩:=st
 obtain ⟨ol,el,cl,_⟩:=p
 obtain ⟨om,em,cm,_⟩:=q
 have nTO:∀ {l:Addr} {ws:List V},SqT X.K H l ws->l ≠ TO:=fun {l ws} h=>by
  rintro rfl
  rcases h with (h | ⟨o,h⟩) | ⟨_,_,_,h,_⟩
  ·rw [hn] at h; cases h
  ·rw [hn] at h; cases h
  ·rw [hK] at h; cases h
 exact ⟨d.a1,d.a2,d.a3,d.a4,d.a5,d.a6,d.a7,d.a8,d.a9,d.b1,
  ud el hz (by rw [cl]; exact nT (by decide)),nTO hq,ud el e1 (by rw [cl,c1]; decide),ud el e2 (by rw [cl,c2]; decide),
  ud em hz (by rw [cm]; exact nT (by decide)),nTO hq',ud em e1 (by rw [cm,c1]; decide),ud em e2 (by rw [cm,c2]; decide)⟩
theorem yks {P:Program} {w:World} {K:W.Frag} {elts:List Expr} {x1} {tpos:Pos} (l1 l2 z TI TO i1 i2:Addr) (d:Zap z TI TO i1 i2) (hKT:K.lookup TO = none) :
  ynr P w K (.Tuple elts x1 tpos) (yzf K l1 l2) [z,TI,TO,i1,i2] z (vbk z TI TO i1 i2 l1 l2) where
 mem:=by simp
 obj:=fun i h st b hb=>by
  obtain ⟨hz,hTI,⟨_,_,hTO⟩,⟨o1,e1,_,d1⟩,⟨o2,e2,_,d2⟩⟩:=st
  simp only [List.mem_cons,List.not_mem_nil,or_false] at hb
  rcases hb with rfl | rfl | rfl | rfl | rfl
  ·exact ⟨_,hz,fun v z=>by cases z⟩
  ·exact ⟨_,hTI,fun v z=>by cases z⟩
  ·exact ⟨_,hTO,fun v z=>by cases z⟩
  ·exact ⟨o1,e1,fun v z=>by rw [d1] at z; cases z⟩
  ·exact ⟨o2,e2,fun v z=>by rw [d2] at z; cases z⟩
 keep:=fun i h h' st k=>by
  obtain ⟨hz,hTI,⟨a,b,hTO⟩,h1,h2⟩:=st
  exact ⟨k z (by simp) _ hz,k TI (by simp) _ hTI,⟨a,b,k TO (by simp) _ hTO⟩,h1.at fun o e=>k i1 (by simp) o e,h2.at fun o e=>k i2 (by simp) o e⟩
 item:=by
  intro X hP hw hK hc i pins s σ H E I hf st hg
  subst hP hw hK
  obtain ⟨xs,ys,x,y,hq,hq',hx,hy⟩:=hg
  obtain ⟨its,rv,p0,hz0⟩:=I.tuple hq
  obtain ⟨its',rv',p0',hz0'⟩:=I.tuple hq'
  have p:s.heap.IsTuple l1 its.toArray:=p0
  have p':s.heap.IsTuple l2 its'.toArray:=p0'
  obtain ⟨u,hu,ru⟩:=rv.get hx
  obtain ⟨u',hu',ru'⟩:=rv'.get hy
  have D:=d.apartT st p p' (hf TO (by simp)).1 hKT hq hq'
  obtain ⟨hz,hTI,⟨va,vb,hTO⟩,hi1,hi2⟩:=st
  refine yn9 D hz hTI hTO hi1 hi2 p p' (x:=u) (y:=u') (by simpa using hu) (by simpa using hu') fun h' a1 a2 a3 a4 a5 a6 hk=>?_
  refine ⟨_,rfl,wpAny_letOwnedTupleGo_zip a1 fun h'' hz'' hs''=>?_⟩
  have hTn:H s.heap.objs.size = none:=I.hok.fresh (Nat.le_refl _)
  have lz:z < s.heap.objs.size:=Heap.lt_size hz
  have lo:TO < s.heap.objs.size:=Heap.lt_size hTO
  have lI:TI < s.heap.objs.size:=Heap.lt_size hTI
  have l1':i1 < s.heap.objs.size:=by obtain ⟨o,e,_⟩:=id hi1; exact Heap.lt_size e
  have l2':i2 < s.heap.objs.size:=by obtain ⟨o,e,_⟩:=id hi2; exact Heap.lt_size e
  have keep:∀ b o,b ≠ z->b ≠ TO->b ≠ i1->b ≠ i2->s.heap.get? b = some o->h''.get? b = some o:=fun b o n1 n2 n3 n4 e=>(hs''.2 b n1).trans (hk b o n1 n2 n3 n4 e)
  have htup:h''.get? s.heap.objs.size = some { cls:=.type "tuple",data:=.seq #[u,u'] }:=(hs''.2 _ (Nat.ne_of_gt lz)).trans a5
  have nt:∀ {b v},H b = some v->b ≠ z/\b ≠ TO/\b ≠ i1/\b ≠ i2:=fun {b v} e=>⟨ye e (hf z (by simp)).1,ye e (hf TO (by simp)).1,ye e (hf i1 (by simp)).1,ye e (hf i2 (by simp)).1⟩
  have hok:HOk X.prog X.w (upd H s.heap.objs.size (.tup [x,y])) h'':=fun b o e=>by
   by_cases hb:b = s.heap.objs.size
   ·subst hb
    rw [yd] at e
    cases e
    exact ⟨by show 2 <= sizeLine; decide,[u,u'],.cons ru (.cons ru' .nil),⟨_,htup,rfl,_,rfl⟩⟩
   ·rw [yu hb] at e
    refine (I.hok b o e).stay (fun c v hc' q=>?_) (fun c q=>by rw [yu (ye q hTn)]; exact q) fun c ys q=>by rw [yu (ye q hTn)]; exact q
    obtain ⟨n1,n2,n3,n4⟩:c ≠ z/\c ≠ TO/\c ≠ i1/\c ≠ i2:=by
     rcases hc' with rfl | hc'
     ·exact nt e
     ·exact nt hc'
    exact keep c v n1 n2 n3 n4 q
  have un:Un (frs X.stack) [z,TI,TO,i1,i2] H (upd H s.heap.objs.size (.tup [x,y])) s.heap h'':=by
   have kp:∀ {b o},b ∉ [z,TI,TO,i1,i2]->s.heap.get? b = some o->h''.get? b = some o:=fun {b o} hb e=>keep b o (fun q=>hb (by simp [q])) (fun q=>hb (by simp [q])) (fun q=>hb (by simp [q])) (fun q=>hb (by simp [q])) e
   refine ⟨fun b o e n _ hx=>kp hx e,fun b o e n _ hx=>⟨o.slots,kp hx e⟩,fun b o e n _=>by rw [yu (Nat.ne_of_lt (Heap.lt_size e))]; exact n,fun b o e hx=>⟨o,kp hx e⟩,
    fun b ys e=>by rw [yu (ye e hTn)]; exact e,fun b o v e=>by rw [yu (ye e hTn)]; exact e,fun b ps e=>⟨#[],by rw [yu (ye e hTn),e]; simp⟩⟩
  have I1:Inv X pins σ (upd H s.heap.objs.size (.tup [x,y])) { s with heap:=h'' }:=I.call' (s':={ s with heap:=h'' }) rfl un hok I.bare fun b hb=>by
   have f:=hf b hb
   exact ⟨f.2.2.2.1,f.2.1,f.2.2.2.2.1,f.2.2.2.2.2⟩
  refine ⟨.ref s.heap.objs.size,_,I1,rfl,⟨_,x,y,rfl,hTn,rfl,fun zs h=>by rw [I.tuple_inj h hq]; exact hx,fun zs h=>by rw [I.tuple_inj h hq']; exact hy⟩,?_,fun b hb=>?_⟩
  ·exact ⟨hz'',keep _ _ D.TIz D.TITO D.TIi1 D.TIi2 hTI,⟨u,u',(hs''.2 _ D.TOz).trans a2⟩,a3.at fun o e=>(hs''.2 _ D.i1z).trans e,a4.at fun o e=>(hs''.2 _ D.i2z).trans e⟩
  ·rw [yu (fun q=>?_)]
   ·exact (hf b hb).1
   ·have hq:b < s.heap.objs.size:=by
     simp only [List.mem_cons,List.not_mem_nil,or_false] at hb
     rcases hb with rfl | rfl | rfl | rfl | rfl <;> assumption
    exact absurd q (Nat.ne_of_lt hq)
 done:=by
  intro X hP hw hK hc i pins s σ H E I hf st hg
  subst hP hw hK
  obtain ⟨xs,ys,hq,hq',hx⟩:=hg
  obtain ⟨its,rv,p0,hz0⟩:=I.tuple hq
  obtain ⟨its',rv',p0',hz0'⟩:=I.tuple hq'
  have p:s.heap.IsTuple l1 its.toArray:=p0
  have p':s.heap.IsTuple l2 its'.toArray:=p0'
  have D:=d.apartT st p p' (hf TO (by simp)).1 hKT hq hq'
  obtain ⟨hz,hTI,⟨va,vb,hTO⟩,hi1,hi2⟩:=st
  have hl:=rv.length
  have hl':=rv'.length
  refine yn0 (show X.A.handled = none from I.ok.hd hc) D hz hTI hTO hi1 hi2 p p' (by simp; omega) fun h' hk=>⟨rfl,?_⟩
  have nt:∀ {b v},H b = some v->b ≠ z/\b ≠ TO/\b ≠ i1/\b ≠ i2:=fun {b v} e=>⟨ye e (hf z (by simp)).1,ye e (hf TO (by simp)).1,ye e (hf i1 (by simp)).1,ye e (hf i2 (by simp)).1⟩
  have hok:HOk X.prog X.w H h':=fun b o e=>by
   refine (I.hok b o e).stay (fun c v hc' q=>?_) (fun c q=>q) fun c ys q=>q
   obtain ⟨n1,n2,n3,n4⟩:c ≠ z/\c ≠ TO/\c ≠ i1/\c ≠ i2:=by
    rcases hc' with rfl | hc'
    ·exact nt e
    ·exact nt hc'
   exact hk c v n1 n2 n3 n4 q
  have un:Un (frs X.stack) [z,TI,TO,i1,i2] H H s.heap h':=by
   have kp:∀ {b o},b ∉ [z,TI,TO,i1,i2]->s.heap.get? b = some o->h'.get? b = some o:=fun {b o} hb e=>hk b o (fun q=>hb (by simp [q])) (fun q=>hb (by simp [q])) (fun q=>hb (by simp [q])) (fun q=>hb (by simp [q])) e
   exact ⟨fun b o e n _ hx=>kp hx e,fun b o e n _ hx=>⟨o.slots,kp hx e⟩,fun b o e n _=>n,fun b o e hx=>⟨o,kp hx e⟩,fun b ys e=>e,fun b o v e=>e,fun b ps e=>⟨#[],by rw [e]; simp⟩⟩
  exact I.call' (s':={ s with heap:=h' }) rfl un hok I.bare fun b hb=>by
   have f:=hf b hb
   exact ⟨f.2.2.2.1,f.2.1,f.2.2.2.2.1,f.2.2.2.2.2⟩
 self:=fun _ _ _ _ _ st h=>wpAny_pyIter_zip st.1 h
section
variable {X:Cx}
def yyz (K:W.Frag) (ta:TA):TI:=fun σ H R=>ta σ H fun vs H1=>∃ a b,vs = [.ref a,.ref b]/\(∃ xs ys,SqT K H1 a xs/\SqT K H1 b ys)/\R (yzf K a b) H1
theorem ytc {elts:List Expr} {x1} {tpos:Pos} {l m:Expr} {ta:TA} {p pos:Pos} (hg:Gl X "zip") (hm:X.mg "zip" = none) (ha:PA X [l,m] ta) (hs:starEach [l,m] X.env = [(false,eval l X.env),(false,eval m X.env)]:=by rfl) (hs2:starEach [m] X.env = [(false,eval m X.env)]:=by rfl) :
  PI X (.Tuple elts x1 tpos) (.Call (.Name "zip" p) [l,m] [] pos) (yyz X.K ta):=by
 intro pins s σ H R I h
 refine Call_ (ya9 I hg hm (show bootBuiltins "zip" = some (.type "zip") by decide +kernel) (PyProof.Rows.callWith_type1 (thn (ha pos pins s σ H _ I h) fun us s1 ⟨vs,H1,I1,r1,q1⟩=>?_) (by rw [hs,hs2]) (by rw [hs2]; rfl)))
 obtain ⟨a,b,e,⟨xs,ys,hq,hq'⟩,q⟩:=q1
 subst e
 cases r1 with
 | cons r rr =>
  cases rr with
  | cons r' rr =>
   cases rr
   cases r
   cases r'
   obtain ⟨its,rv,pl,hz⟩:=I1.tuple hq
   obtain ⟨its',rv',pl',hz'⟩:=I1.tuple hq'
   refine yo4 (show s1.heap.IsTuple a its.toArray from pl) (show s1.heap.IsTuple b its'.toArray from pl') fun h' hz hTI hTO h1 h2 hk=>?_
   refine wpAny_pyIter_zip hz ?_
   have hKT:X.K.lookup (s1.heap.objs.size + 3) = none:=by
    cases hl:X.K.lookup (s1.heap.objs.size + 3) with
    | none=>rfl
    | some o=>exact absurd (Heap.lt_size (I1.kIn _ o hl)) (Nat.not_lt.mpr (Nat.le_add_right _ _))
   have zap:Zap (s1.heap.objs.size + 4) (s1.heap.objs.size + 2) (s1.heap.objs.size + 3) s1.heap.objs.size (s1.heap.objs.size + 1):=yqf _
   refine ⟨s1.heap.objs.size + 4,[s1.heap.objs.size + 4,s1.heap.objs.size + 2,s1.heap.objs.size + 3,s1.heap.objs.size,s1.heap.objs.size + 1],_,_,H1,rfl,I1.kept (t':=s1.toks) hk,yks a b _ _ _ _ _ zap hKT,⟨hz,hTI,⟨_,_,hTO⟩,h1,h2⟩,fun b hb=>?_,q⟩
   have hb:s1.heap.objs.size <= b:=by
    simp only [List.mem_cons,List.not_mem_nil,or_false] at hb
    rcases hb with rfl | rfl | rfl | rfl | rfl <;> omega
   exact I1.fpOk hb (I1.hok.fresh hb)
theorem ysd {K:W.Frag} {ta:TA} {σ:St} {H:Hp} {R:It->Hp->Prop} (h:ta σ H fun vs H1=>∃ a b,vs = [.ref a,.ref b]/\(∃ xs ys,SqT K H1 a xs/\SqT K H1 b ys)/\R (yzf K a b) H1):yyz K ta σ H R:=h
end
theorem yg1 {K:W.Frag} {a b D:Addr} {xs ys:List V} {g:TG} {te:TE} {n m:Nat} {fr:St} {R:Hp->Prop} {H1:Hp} (f:Nat->V) (hq:SqT K H1 a xs) (hq':SqT K H1 b ys) (h1:m <= xs.length) (h2:m <= ys.length) (h3:xs.length <= m\/ys.length <= m) (hD:H1 D = none)
  (hs:∀ i x y H t pre,i < m->xs[i]? = some x->ys[i]? = some y->vm H1 H->H D = some (.lst ((List.range i).map f))->H t = none->List.length pre = n->g (.ref t) (pre ++ fr) (upd H t (.tup [x,y])) fun σ' H'=>(∃ pre',List.length pre' = n/\σ' = pre' ++ fr)/\te σ' H' (MpK H1 D f m i))
  (hd:∀ H,vm H1 H->H D = some (.lst ((List.range m).map f))->R H):yac (yzf K a b) g te n fr D R H1:=by
 refine ⟨cW m (Mp H1 D f),⟨m,by simp,Nat.zero_le _,Mp.zero hD⟩,?_⟩
 rintro i j H ⟨rfl,hi,p⟩
 have q:=p.1.tup hq
 have q':=p.1.tup hq'
 by_cases hlt:i < m
 ·refine .inr ⟨⟨xs,ys,xs[i]'(by omega),ys[i]'(by omega),q,q',List.getElem?_eq_getElem _,List.getElem?_eq_getElem _⟩,fun y H' pre yl hp=>?_⟩
  obtain ⟨t,x,y,rfl,ht,rfl,hx,hy⟩:=yl
  exact hs i x y H t pre hlt (hx xs q) (hy ys q') p.1 p.2 ht hp
 ·have e:i = m:=by omega
  subst e
  exact .inl ⟨⟨xs,ys,q,q',h3⟩,hd H p.1 p.2⟩
end L2
namespace L2
open PySem PySem.Spec PyProof.Rows HT
section
variable {prog:Program} {w:World} {A:Around} {E:Value->Shared->Prop} {s:Shared}
theorem yg8 {t sl:Addr} {items:Array Value} {vl vu:Value} {lo hi:Option Int} {Q:Value->Shared->Prop} (ht:IsTup s.heap t items) (hs:s.heap.IsSliceOf sl vl vu .none) (pl:IsPart vl lo) (pu:IsPart vu hi)
  (hw:sIx items.size 0 lo = 0/\sIx items.size items.size hi = items.size) (h:Q (.ref t) s):wpAny (model prog w) A (getItem (.ref t) (.ref sl)) Q E s:=by
 obtain ⟨os,hos,hcs,hds⟩:=id hs
 have hTs:s.TypeIs (.ref sl) "slice":=⟨os,hos,hcs⟩
 unfold getItem
 try with_reducible refine wpAny_holding ?_
 first | refine wpAny_bind (wpAny_pure ?_) | skip
 refine wpAny_bind (wpAny_sequenceKey ht.typeIs (by decide) ?_)
 refine wpAny_bind (wpAny_callSpecial?_slot (name:=Str.ofString "__getitem__") ht.typeIs PyProof.Rows.slot_tuple_getitem
  (wpAny_call_entry PyProof.Rows.slot_tuple_getitem ht.typeIs entry_tuple_getitem ?_ (args_tuple_getitem _ _)))
 show wpAny _ _ (Builtin.Tuple.tupleItemsOf (.ref t) >>= _) _ _ s
 refine wpAny_bind (tupleItemsOf_ ht ?_)
 refine wpAny_bind (wpAny_typeOf hTs ?_)
 rw [if_pos (by decide)]
 refine wpAny_bind (u5 hs pl pu ?_)
 have hyes:(((sIx items.size 0 lo:Nat):Int) == 0 && (1:Int) == 1 && (sIx items.size items.size hi - sIx items.size 0 lo) == items.size) = true:=by
  rw [hw.1,hw.2]
  simp
 show wpAny _ _ (if (((sIx items.size 0 lo:Nat):Int) == 0 && (1:Int) == 1 && (sIx items.size items.size hi - sIx items.size 0 lo) == items.size) = true then _ else _) _ _ s
 rw [if_pos hyes]
 refine wpAny_bind (m:=Builtin.Tuple.tupleIsExact _) ?_
 unfold Builtin.Tuple.tupleIsExact
 refine wpAny_bind (wpAny_typeOf ht.typeIs (wpAny_pure ?_))
 show wpAny _ _ (if (Value.type "tuple" == Value.type "tuple") = true then _ else _) _ _ s
 rw [if_pos (by decide)]
 first
  | exact wpAny_bind (wpAny_rule (wpAny_pure ⟨_,rfl,wpAny_pure h⟩))
  | exact wpAny_bind (wpAny_rule (wpAny_bind (wpAny_pure (wpAny_pure ⟨_,rfl,wpAny_pure h⟩))))
  | exact wpAny_bind (wpAny_bind (wpAny_rule (wpAny_pure (wpAny_pure ⟨_,rfl,wpAny_pure h⟩))))
end
section
variable {X:Cx}
def yzo (K:W.Frag):V->Option Int->Option Int->Hp->VK->Prop:=fun x lo hi H Q=>∃ a xs,x = .ref a/\SqT K H a xs/\(HT.sIx xs.length 0 lo = 0/\HT.sIx xs.length xs.length hi = xs.length)/\Q (.ref a) H
theorem yth:SlR X (yzo X.K):=by
 intro pins s σ H x v vl vu lo hi sl Q I rx hs pl pu h
 obtain ⟨a,xs,rfl,hx,hw,q⟩:=h
 cases rx
 obtain ⟨its,r,ht,hz⟩:=I.tuple hx
 have hlen:its.toArray.size = xs.length:=by rw [List.size_toArray]; exact r.length.symm
 exact ⟨"tuple",_,PyProof.Rows.slot_tuple_getitem.lookup,ht.typeIs,yg8 ht hs pl pu (by rw [hlen]; exact hw) ⟨.ref a,H,I,rfl,q⟩⟩
end
end L2
namespace L2
open PySem PySem.Spec PyProof.Rows PySem.SeqAt
open AutoSeq1 (wpAny_loadPart')
section
variable {X:Cx}
end
end L2
namespace L2
open PySem PySem.Spec PyProof.Rows
section
variable {X:Cx} {a b:Expr} {ta tb:TE} {pos:Pos} {ts:TS} {st:Stmt}
end
end L2
namespace L2
open PySem PySem.Spec PyProof.Rows
theorem yl5 {X:Cx} {K:W.Frag} {e:Expr} {f:Str} {pos:Pos} {ta:TE} (hK:X.K = K) (he:PE X e ta) (hb:attributeBase e f X.env (eval e X.env) = eval e X.env):PE X (.Attribute e f pos) (va0 K ta f):=hK ▸ y6 he hb
end L2
namespace L2
open PySem PySem.Spec PyProof.Rows
def yc0 (J:It) (tc:TT) (te:TE) (fr:St) (D:Addr) (R:Hp->Prop) (H1:Hp):Prop:=∃ W:Nat->Nat->Hp->Prop,(∃ m,W 0 m (upd H1 D (.lst []))) /\
 ∀ i m H2,W i m H2->(J.stop i H2/\R H2)\/(J.go i H2/\∀ x H3,J.yld i H2 x H3->tc (some x :: fr) H3 fun b H4=>if b = true then te (some x :: fr) H4 (fun y H5=>∃ ys,H5 D = some (.lst ys)/\ys.length < sizeLine/\∃ m',m' < m/\W (i + 1) m' (upd H5 D (.lst (ys ++ [y])))) else ∃ m',m' < m/\W (i + 1) m' H4)
def yq2 (wi:TI) (tc:TT) (te:TE) (js:List Nat):TE:=fun σ H Q=>wi σ H fun J H1=>∀ D,H1 D = none->yc0 J tc te (wa js σ) D (fun H2=>Q (.ref D) H2) H1
section
variable {X:Cx} {iter elt cnd:Expr} {tc:TT} {x:Str} {px pos:Pos} {scope:Scope} {te:TE} {wi:TI} {pins:List (Addr × Obj)} {σ:St} {ys:List Str} {js:List Nat}
theorem yjh {s2:Shared} {H2:Hp} {it:Addr} {fp:List Addr} {tn:Nat->Heap->Prop} {J:It} (hc:X.calm = true)
  (ht:∀ (C:Addr) (s2:Shared) (H2:Hp) (fp:List Addr),PT (X.compF scope ys C x s2 H2 fp) cnd tc) (he:∀ (C:Addr) (s2:Shared) (H2:Hp) (fp:List Addr),PE (X.compF scope ys C x s2 H2 fp) elt te)
  (hcell:∀ y ∈ scope.names,y.2 ≠ .cell) (hkind:scope.kind = .function) (hx:scope.names.lookup x = some .local) (hnd:(x :: ys).Nodup)
  (hfr:∀ y ∈ scope.names,y.2 = .free->y.1 ∈ ys) (hyc:∀ y ∈ ys,X.env.kindOf y = some .cell) (hrel:∀ y ∈ ys,(relabel scope X.env).names.lookup y = some .cell) (hjs:js.map (fun j=>X.N[j]?) = ys.map some)
  (I2:Inv X pins σ H2 s2) (T:ynr X.prog X.w X.K (.Name x px) J fp it tn) (st2:tn 0 s2.heap) (f2:∀ b ∈ fp,ye3 X pins H2 b)
  {R:Addr->Hp->Prop} (h:∀ D,H2 D = none->yc0 J tc te (wa js σ) D (R D) H2) {RR:Value->Addr->Result->Shared->Prop} {E:Value->Shared->Prop}
  (hR:∀ (D C:Addr) (H':Hp) (s':Shared) (m:Str->Option Value),ye3 X pins H' C->s'.heap.Ns C m->Inv X pins σ H' s'->R D H'->RR (.ref D) C (.ok .next) s') :
  wpAny (model X.prog X.w) X.A (newList []) (fun acc s₃=>wpAny (model X.prog X.w) X.A (newFunctionEnv scope X.env.globals (zd ys X.env) [] X.env.qual none .none (some X.env)) (fun cenv s₄ =>
   codeAny (model X.prog X.w) X.A (.compStart (.ListComp elt [⟨.Name x px,iter,[cnd],0⟩] scope pos) 0 (.ref it) acc { cenv with scope:=relabel scope X.env }) (RR acc cenv.locals) s₄) E s₃) E s2:=by
 have hsub:∀ y c,(zd ys X.env).lookup y = some c->X.env.cells.lookup y = some c:=fun y c e=>by
  obtain ⟨m,rfl⟩:=yaq e
  obtain ⟨c',q⟩:=I2.ok.has y (.inl (hyc y m))
  rw [q]
  rfl
 refine wpAny_newObj_type (wpAny_newFunctionEnv hcell (by intro y hy; simp at hy) (fun h₁ hns₁ hsb₁=>?_) hkind)
 dsimp only at hns₁ hsb₁ ⊢
 generalize hH2:s2.heap.push { cls:=.type "list",dict:=none,data:=.seq ([]:List Value).toArray } = G at hns₁ hsb₁ ⊢
 have hC:G.objs.size = s2.heap.objs.size + 1:=by rw [<- hH2,Heap.size_push]
 have hDC:s2.heap.objs.size ≠ G.objs.size:=by rw [hC]; exact Nat.ne_of_lt (Nat.lt_succ_self _)
 have hCle:s2.heap.objs.size <= G.objs.size:=by rw [hC]; exact Nat.le_succ _
 have below:∀ b,b < s2.heap.objs.size->b ≠ G.objs.size/\b ≠ s2.heap.objs.size:=fun b hb=>⟨by rw [hC]; exact Nat.ne_of_lt (Nat.lt_succ_of_lt hb),Nat.ne_of_lt hb⟩
 have old:∀ b o,s2.heap.get? b = some o->h₁.get? b = some o:=fun b o e=>hsb₁.extBut b o (below b (Heap.lt_size e)).1 (Heap.get?_push_of_some _ (hH2 ▸ Heap.get?_push_of_some _ e))
 have hacc:h₁.get? s2.heap.objs.size = some { cls:=.type "list",data:=.seq ([]:List Value).toArray }:=hsb₁.extBut _ _ hDC (Heap.get?_push_of_some _ (hH2 ▸ Heap.get?_push_size _ rfl))
 have fpl:∀ b ∈ fp,b < s2.heap.objs.size:=fun b hb=>let ⟨_,e,_⟩:=T.obj 0 _ st2 b hb; Heap.lt_size e
 have fpS:∀ b ∈ fp,b ∉ frs X.stack:=fun b hb z=>(List.mem_cons.mp (I2.stkSub b z)).elim (f2 b hb).2.1 (f2 b hb).2.2.1
 have nC:H2 G.objs.size = none:=I2.hok.fresh hCle
 have nD:H2 s2.heap.objs.size = none:=I2.hok.fresh (Nat.le_refl _)
 have cellOld:∀ y c,(zd ys X.env).lookup y = some c->∃ v o,s2.heap.get? c = some o/\o.data = .cell v:=fun y c e=>by
  obtain ⟨v,o,q1,q2⟩:=I2.cell y c (hsub y c e)
  exact ⟨v,o,q1,q2⟩
 have okC:(X.compF scope ys G.objs.size x s2 H2 fp).Ok:=by
  refine ⟨I2.ok.mod,hkind,I2.ok.glob,I2.ok.blt,hCle,fun y z c e e'=>I2.ok.inj y z c (hsub y c e) (hsub z c e'),fun y e=>?_,fun y c z e=>(by cases z),I2.ok.hd,I2.ok.frames,.inl rfl,fun b hb=>⟨(below b (fpl b hb)).1,fun y c e=>(f2 b hb).2.2.2.2.1 y c (hsub y c e)⟩,I2.bs,?_,fun b o e hb=>?_,fun b hb=>fpS b hb,I2.stack,I2.stkFree⟩
  ·have e':(relabel scope X.env).names.lookup y = some .cell\/(relabel scope X.env).names.lookup y = some .free:=e
   have hin:y ∈ ys:=by
    rcases e' with e' | e'
    ·obtain ⟨k0,m,q⟩:=wl e'
     rcases q with q | q
     ·exact absurd q.symm (hcell _ m)
     ·exact hfr _ m q
    ·obtain ⟨k0,m,q⟩:=wl e'
     rcases q with q | q
     ·exact hfr _ m q.symm
     ·exact hfr _ m q
   exact ⟨_,uy hin⟩
  ·exact Nat.le_trans I2.ok.bsz I2.sz
  ·rcases (f2 b hb).2.2.2.1 with z | z
   ·exact I2.ok.noex b o e z
   ·exact absurd (Nat.lt_of_lt_of_le (Heap.lt_size (I2.ok.bs b o e).1) z) (Nat.lt_irrefl _)
 have hlen:(wa js σ).length = ys.length:=by
  have:=congrArg List.length hjs
  simpa [wa] using this
 have I3:∀ tk,Inv (X.compF scope ys G.objs.size x s2 H2 fp) [] (none :: wa js σ) (upd H2 s2.heap.objs.size (.lst [])) { s2 with heap:=h₁,toks:=tk }:=fun tk =>
  ⟨okC,rfl,I2.bare,Un.laid old (Nat.le_refl _) nD,⟨_,hns₁,fun i y v e1 e2 e3=>by
    cases i with
    | zero=>cases e2
    | succ i =>
     have e1:ys[i]? = some y:=by simpa using e1
     have e2:(wa js σ)[i]? = some (some v):=by simpa using e2
     have hy:y ∈ ys:=List.mem_of_getElem? e1
     have ej:=congrArg (fun l=>l[i]?) hjs
     simp only [List.getElem?_map,e1,Option.map_some] at ej
     cases q:js[i]? with
     | none=>rw [q] at ej; cases ej
     | some j =>
      rw [q] at ej
      have ej:X.N[j]? = some y:=by simpa using ej
      have es:σ[j]? = some (some v):=by
       simp only [wa,List.getElem?_map,q,Option.map_some,Option.some.injEq] at e2
       cases r:σ[j]? with
       | none=>rw [r] at e2; cases e2
       | some w'=>rw [r] at e2; rw [show w' = some v from e2]
      obtain ⟨m0,_,hl0⟩:=I2.loc
      obtain ⟨u,ru,lk⟩:=hl0 j y v ej es (.inr (.inl (hyc y hy)))
      refine ⟨u,ru,.inr ⟨.inl (hrel y hy),?_⟩⟩
      rcases lk with ⟨k1,_⟩ | ⟨_,c,ec,o,ho,hd⟩
      ·rw [hyc y hy] at k1; cases k1
      ·refine ⟨c,?_,o,old c o ho,hd⟩
       show (zd ys X.env).lookup y = some c
       rw [uy hy,ec]
       rfl⟩,fun y c e=>(by
    obtain ⟨v,o,q1,q2⟩:=cellOld y c e
    exact ⟨v,o,old c o q1,q2⟩),(by show upd H2 s2.heap.objs.size _ G.objs.size = none; rw [yu hDC.symm]; exact nC),fun y c e=>(by
    obtain ⟨v,o,q1,q2⟩:=cellOld y c e
    show upd H2 s2.heap.objs.size _ c = none
    rw [yu (below c (Heap.lt_size q1)).2]
    exact I2.freeC y c (hsub y c e)),fun p hp=>(by simp at hp),
   I2.hok.laid old (Nat.le_refl _) ⟨Nat.zero_le _,[],_,.nil,hacc⟩,by show (none :: wa js σ).length = (x :: ys).length; simp [hlen]⟩
 have stat:∀ {H':Hp},(∀ b ∈ fp,H' b = none)->∀ b ∈ fp,ye3 (X.compF scope ys G.objs.size x s2 H2 fp) [] H' b:=fun hn b hb=>⟨hn b hb,(below b (fpl b hb)).1,fpS b hb,.inl hb,fun y c e=>(f2 b hb).2.2.2.2.1 y c (hsub y c e),fun p hp=>(by simp at hp)⟩
 have loop:∀ tk,codeAny (model X.prog X.w) X.A (.compLoop (.ListComp elt [⟨.Name x px,iter,[cnd],0⟩] scope pos) 0 (.ref it) (.ref s2.heap.objs.size) (compEnvC scope (zd ys X.env) G.objs.size X.env)) (RR (.ref s2.heap.objs.size) G.objs.size) { s2 with heap:=h₁,toks:=tk }:=by
  intro tk
  obtain ⟨W,⟨m0,w0⟩,turn⟩:=h s2.heap.objs.size nD
  refine codeAny_loop rfl (fun n s'=>∃ i v H',Inv (X.compF scope ys G.objs.size x s2 H2 fp) [] (v :: wa js σ) H' s'/\tn i s'.heap/\(∀ b ∈ fp,H' b = none)/\W i n H') (fun n s' hI=>?_) m0
   ⟨0,none,_,I3 tk,T.keep 0 _ _ st2 (fun b hb o e=>old b o e),fun b hb=>(by rw [yu (below b (fpl b hb)).2]; exact (f2 b hb).1),w0⟩
  obtain ⟨i,v,H',I,st,fr,w⟩:=hI
  show wpAny _ _ ((compTurn (.ListComp elt [⟨.Name x px,iter,[cnd],0⟩] scope pos) 0 (.ref it) (.ref s2.heap.objs.size) (compEnvC scope (zd ys X.env) G.objs.size X.env)).onRaise (fun x=>do noteFrame x (compEnvC scope (zd ys X.env) G.objs.size X.env); theTreesLotGoes x)) _ _ s'
  refine wpAny_noted ?_
  rw [compTurn_list]
  refine wpAny_bind (wpAny_standAt (wpAny_bind ?_))
  rcases turn i n H' w with ⟨stop,q⟩ | ⟨go,step⟩
  ·refine thn (T.done (X.compF scope ys G.objs.size x s2 H2 fp) rfl rfl rfl hc i [] s' (v :: wa js σ) H' _ I (stat fr) st stop) fun r s4 ⟨hr,I4⟩=>?_
   subst hr
   refine wpAny_pure ?_
   obtain ⟨m,hn,_⟩:=I4.loc
   exact hR _ _ H' s4 m (I2.fpOk hCle I4.free) hn (I2.call' (ch:=fp) I4.os I4.base I4.hok I4.bare fun b hb=>⟨(f2 b hb).2.2.2.1,(f2 b hb).2.1,(f2 b hb).2.2.2.2.1,(f2 b hb).2.2.2.2.2⟩) q
  ·refine thn (T.item (X.compF scope ys G.objs.size x s2 H2 fp) rfl rfl rfl hc i [] s' (v :: wa js σ) H' _ I (stat fr) st go) fun r s4 ⟨u,hr,h4⟩=>?_
   subst hr
   refine wpAny_bind (thn h4 fun _ s5 ⟨y,H5,I5,r5,y5,st5,fr5⟩=>wpAny_bind ?_)
   have I5':=I5.pinned (stat fr5) (T.obj _ _ st5)
   refine wpAny_assign_Name (jq (i:=0) I5' hnd rfl (Or.inl (lookup_relabel_local hx)) r5 (fun s6 I6=>?_) (Or.inr (lookup_relabel_local hx)))
   refine wpAny_bind (wpAny_tests_one (ynt (ht _ _ _ _ _ s6 (some y :: wa js σ) H5 _ I6 (step y H5 y5)) fun b s7 ⟨H6,I7,q7⟩=>?_))
   cases b with
   | false =>
    obtain ⟨m',hm,w'⟩:=q7
    have pin:∀ b ∈ fp,∀ o,s5.heap.get? b = some o->s7.heap.get? b = some o/\H6 b = none:=fun b hb o e =>
     ⟨(I7.pin (b,o) (List.mem_append_right _ (List.mem_append_right _ (wf hb e)))).1,(I7.pin (b,o) (List.mem_append_right _ (List.mem_append_right _ (wf hb e)))).2.1⟩
    refine wpAny_pure ⟨rfl,m',hm,i + 1,some y,_,I7.unpinned,T.keep _ _ _ st5 fun b hb o e=>(pin b hb o e).1,fun b hb=>?_,w'⟩
    obtain ⟨o,e,d⟩:=T.obj _ _ st5 b hb
    exact (pin b hb o e).2
   | true =>
    refine wpAny_bind (wpAny_bind (ynt (he _ _ _ _ _ s7 (some y :: wa js σ) H6 _ I7 q7) fun u2 s7 ⟨y2,H7,I7,r7,zs,hD,hl,m',hm,w'⟩=>wpAny_bind ?_))
    refine ynt (wo _ s7 (some y :: wa js σ) H7 (.ref s2.heap.objs.size) [y2] (.ref s2.heap.objs.size) [u2] (fun _ H8=>H8 = upd H7 s2.heap.objs.size (.lst (zs ++ [y2]))) I7 rfl (.cons r7 .nil) ⟨_,zs,y2,rfl,rfl,hD,hl,rfl⟩) fun _ s8 ⟨_,H8,I8,_,e8⟩=>?_
    subst e8
    have pin:∀ b ∈ fp,∀ o,s5.heap.get? b = some o->s8.heap.get? b = some o/\upd H7 s2.heap.objs.size (HO.lst (zs ++ [y2])) b = none:=fun b hb o e =>
     ⟨(I8.pin (b,o) (List.mem_append_right _ (List.mem_append_right _ (wf hb e)))).1,(I8.pin (b,o) (List.mem_append_right _ (List.mem_append_right _ (wf hb e)))).2.1⟩
    refine wpAny_pure (wpAny_pure ⟨rfl,m',hm,i + 1,some y,_,I8.unpinned,T.keep _ _ _ st5 fun b hb o e=>(pin b hb o e).1,fun b hb=>?_,w'⟩)
    obtain ⟨o,e,d⟩:=T.obj _ _ st5 b hb
    exact (pin b hb o e).2
 exact codeAny_compStart_list (loop _) (T.self X.A 0 _ _ _ (T.keep 0 _ _ st2 (fun b hb o e=>old b o e)) (loop _))
theorem ynu {i:Nat} {y:Str} {py spos:Pos} (hN:X.N.Nodup) (hy:X.N[i]? = some y) (hl:X.env.scope.names.lookup y = some .local) (hc:X.calm = true) (hi:PI X (.Name x px) iter wi)
  (ht:∀ (C:Addr) (s2:Shared) (H2:Hp) (fp:List Addr),PT (X.compF scope ys C x s2 H2 fp) cnd tc) (he:∀ (C:Addr) (s2:Shared) (H2:Hp) (fp:List Addr),PE (X.compF scope ys C x s2 H2 fp) elt te) (hjs:js.map (fun j=>X.N[j]?) = ys.map some)
  (hclos:closureFor scope X.env = pure (zd ys X.env)) (hyc:∀ y ∈ ys,X.env.kindOf y = some .cell) (hrel:∀ y ∈ ys,(relabel scope X.env).names.lookup y = some .cell)
  (hsw:swapsWith (.ListComp elt [⟨.Name x px,iter,[cnd],0⟩] scope pos) (some (.Name y py)) spos.line X.env = pure true:=by rfl) (hnd:(x :: ys).Nodup:=by decide)
  (hfr:∀ y ∈ scope.names,y.2 = .free->y.1 ∈ ys:=by decide +kernel) (hcell:∀ y ∈ scope.names,y.2 ≠ .cell:=by decide +kernel) (hkind:scope.kind = .function:=by rfl)
  (hnames:∀ y ∈ scope.names,y.2 = .local->scope.names.lookup y.1 = some .local:=by decide +kernel) (hx:scope.names.lookup x = some .local:=by rfl) (hs:∀ x,foldedSetIterable iter X.env x = pure x:=by intro _; rfl) :
  PS X (.Assign [.Name y py] (.ListComp elt [⟨.Name x px,iter,[cnd],0⟩] scope pos) spos) (yuj (yq2 wi tc te js) (w5 i)):=by
 intro pins s σ H D0 I h
 rw [exec_Assign_Name_used _ _ _ _ hsw]
 refine wpAny_bind (wpAny_standAt (wpAny_bind ?_))
 show wpAny _ X.A (do let _ <- comprehension (.ListComp elt [⟨.Name x px,iter,[cnd],0⟩] scope pos) scope X.env _ (newList []) false (eval iter X.env) (some (assign (.Name y py) X.env))) _ _ s
 refine wpAny_bind (wpAny_mono (wpAny_comprehension_free (use:=some (assign (.Name y py) X.env)) (Q:=fun _ s'=>SP X pins D0 .next s') rfl hs hclos hkind hnames (thn (hi pins s σ H _ I h) fun v s1 h1=>thn h1 fun itv s2 h2=>?_)) (fun _ s' hq=>wpAny_pure (wpAny_pure hq)) fun _ _ e=>e)
 obtain ⟨it,fp,tn,J,H2,e,I2,T,st2,f2,h⟩:=h2
 subst e
 refine yjh (R:=fun D H'=>w5 i (.ref D) σ H' D0.nx) (RR:=compPost (model X.prog X.w) X.A X.xe (some (assign (.Name y py) X.env)) (fun _ s'=>SP X pins D0 .next s')) hc ht he hcell hkind hx hnd hfr hyc hrel hjs I2 T st2 f2 h ?_
 intro D C H' s' m f hn I' q
 refine wpAny_assign_Name (jj (v:=V.ref D) I' hN hy (Or.inl hl) rfl (fun s'' I'' k''=>?_) (Or.inr hl))
 refine ⟨m,?_,fun h' sb=>⟨_,H',?_,q⟩⟩
 ·obtain ⟨b,sb,hb⟩:=k''
  refine hn.sameBut sb fun z=>?_
  rcases hb with hb | hb
  ·exact f.2.1 (z.trans hb)
  ·exact f.2.2.2.2.1 y b hb z.symm
 ·exact I''.turned (t':=s''.toks) (fun b o hb e=>sb.extBut b o hb e) f.1 f.2.1 f.2.2.2.1 f.2.2.2.2.1 f.2.2.2.2.2
theorem ytg {H:Hp} {Q:VK} (h:wi σ H fun J H1=>∀ D,H1 D = none->yc0 J tc te (wa js σ) D (fun H2=>Q (.ref D) H2) H1):yq2 wi tc te js σ H Q:=h
theorem ygz {lo:Int} {n:Nat} {D:Addr} {tc:TT} {te:TE} {fr:St} {R:Hp->Prop} {H1:Hp} (Pv:Nat->Hp->Prop) (h0:Pv 0 (upd H1 D (.lst [])))
  (hs:∀ i H,i < n->Pv i H->tc (some (.int (lo + i)) :: fr) H fun b H4=>if b = true then te (some (.int (lo + i)) :: fr) H4 (fun y H5=>∃ ys,H5 D = some (.lst ys)/\ys.length < sizeLine/\∃ m',m' < n - i/\cW n Pv (i + 1) m' (upd H5 D (.lst (ys ++ [y])))) else ∃ m',m' < n - i/\cW n Pv (i + 1) m' H4)
  (hd:∀ H,Pv n H->R H):yc0 (Itr lo n) tc te fr D R H1:=by
 refine ⟨cW n Pv,⟨n,by simp,Nat.zero_le _,h0⟩,?_⟩
 rintro i m H ⟨rfl,hi,p⟩
 by_cases hlt:i < n
 ·refine .inr ⟨hlt,fun x H' y=>?_⟩
  obtain ⟨e,y⟩:=y
  subst e y
  exact hs i _ hlt p
 ·have e:i = n:=by omega
  subst e
  exact .inl ⟨Nat.le_refl _,hd H p⟩
theorem yll {n i:Nat} {Pv:Nat->Hp->Prop} {H4:Hp} (hi:i < n) (p:Pv (i + 1) H4):∃ m',m' < n - i/\cW n Pv (i + 1) m' H4:=⟨n - (i + 1),by omega,rfl,hi,p⟩
end
end L2
namespace L2
open PySem PySem.Spec PyProof.Rows
structure ye2 (K:W.Frag) (x qual:Str) (st:Stmt) (D:Addr) (f:Addr) (fd:FuncData):Prop where
 ex:∃ (oc:Value) (od:Option Addr) (kV doc pm:Value) (an:Option Addr) (cdv ct:Value) (osl:Array (Option Value)),
  fd = W.fnOf x qual (yh st) (yf st) (ya st) (.ref D) kV doc pm an cdv ct/\K.lookup f = some ⟨oc,od,.func fd,osl⟩/\W.codeIn K cdv qual = true
 kp:W.keepIn K (.ref f) = true
section
variable {P:Program} {w:World} {K:W.Frag} {mg:Str->Option Value} {base:Heap}
theorem ye2.ok {x qual:Str} {st:Stmt} {f D:Addr} {fd:FuncData} {N ps:List Str} {k:Nat} {sp:Sp} (F:ye2 K x qual st D f fd) (S:yn N ps (ya st)) (len:∀ vs H Q E,sp vs H Q E->vs.length = ps.length)
  (hbody:∀ (cdv:Value) (A:Around) (outer:List Env) (s:Shared) (H:Hp) (vs:List V) (Q:VK) (E:XK),z5 k (A.deeper (envOfC qual (ya st) s.heap.objs.size f cdv))->sp vs H Q E ->
   ∃ t,PSs (wc CX0 P w K mg base N qual (ya st) f cdv A outer s H E).nox (yf st) t/\t { nx:=fun _ H'=>Q .non H',rt:=Q } (yad N vs) H):we P w K mg base CX0 (k + 1) f fd ps sp:=by
 obtain ⟨oc,od,kV,doc,pm,an,cdv,ct,osl,rfl,lk,hcd⟩:=F.ex
 refine ypf lk hcd S len fun A outer s H vs Q E hr hsp=>?_
 obtain ⟨t,h,q⟩:=hbody cdv A outer s H vs Q E hr hsp
 exact ⟨t,h.nox,q⟩
theorem ye2.okE {x qual:Str} {st:Stmt} {f D:Addr} {fd:FuncData} {N ps:List Str} {k:Nat} {sp:Sp} (F:ye2 K x qual st D f fd) (S:yn N ps (ya st)) (len:∀ vs H Q E,sp vs H Q E->vs.length = ps.length)
  (hbody:∀ (cdv:Value) (A:Around) (outer:List Env) (s:Shared) (H:Hp) (vs:List V) (Q:VK) (E:XK),z5 k (A.deeper (envOfC qual (ya st) s.heap.objs.size f cdv))->sp vs H Q E ->
   ∃ t,PSs (wc (CXe P w) P w K mg base N qual (ya st) f cdv A outer s H E) (yf st) t/\t { nx:=fun _ H'=>Q .non H',rt:=Q } (yad N vs) H):we P w K mg base (CXe P w) (k + 1) f fd ps sp:=by
 obtain ⟨oc,od,kV,doc,pm,an,cdv,ct,osl,rfl,lk,hcd⟩:=F.ex
 exact ypf lk hcd S len fun A outer s H vs Q E hr hsp=>hbody cdv A outer s H vs Q E hr hsp
theorem ye2.binds {x qual:Str} {st:Stmt} {f D:Addr} {fd:FuncData} {ps:List Str} {ds:List Value} {o:Obj} {its:Array Value} {n j:Nat} (hj:j + ds.length = ps.length) (F:ye2 K x qual st D f fd) (hD:K.lookup D = some o) (ho:o.data = .seq its n)
  (h:∀ (kV doc pm:Value) (an:Option Addr) (cdv ct:Value) (us:List Value),us.length = j ->
   ∃ k:Option (Array Value)->Sem (List (Str × Value)),bindArgs (W.fnOf x qual (yh st) (yf st) (ya st) (.ref D) kV doc pm an cdv ct) ⟨us,[]⟩ = (seqItems? (.ref D) >>= k)/\k (some its) = pure (ps.zip (us ++ ds))):y9 K fd ps ds:=by
 obtain ⟨oc,od,kV,doc,pm,an,cdv,ct,osl,rfl,lk,hcd⟩:=F.ex
 intro s us hK hl
 obtain ⟨k,h1,h2⟩:=h kV doc pm an cdv ct us (by rw [List.length_append] at hl; omega)
 exact BindsTo.of_defaults rfl (hK _ _ hD) ho h1 h2
theorem yhr {x qual:Str} {st:Stmt} {f D:Addr} {oc:Value} {od an:Option Addr} {osl:Array (Option Value)} {kV doc pm cdv ct:Value} (l:K.lookup f = some ⟨oc,od,.func (W.fnOf x qual (yh st) (yf st) (ya st) (.ref D) kV doc pm an cdv ct),osl⟩)
  (c:W.codeIn K cdv qual = true) (k:W.keepIn K (.ref f) = true):ye2 K x qual st D f (W.fnOf x qual (yh st) (yf st) (ya st) (.ref D) kV doc pm an cdv ct):=⟨⟨oc,od,kV,doc,pm,an,cdv,ct,osl,rfl,l,c⟩,k⟩
end
end L2
namespace L2
open PySem PySem.Spec PyProof.Rows
end L2
namespace L2
open PySem PySem.Spec PyProof.Rows
end L2
namespace L2
open PySem PySem.Spec PyProof.Rows
section
variable {X:Cx} {body suite:List Stmt} {b₀:Stmt} {tx n:Str} {np hpos pos:Pos} {D:Addr} {i:Nat} {tb:(St->XK)->TS} {ts:TS}
abbrev THs:=ygk->St->Addr->Addr->Hp->Prop
def PHs (X:Cx) (hs:List ExceptHandler) (th:THs):Prop:=∀ (pins:List (Addr × Obj)) (s:Shared) (σ:St) (H:Hp) (x T Ca:Addr) (En:ygk),Inv X pins σ H s->Fy X pins H x->Fy X pins H T->Trd s.heap x T (.ref Ca) .none->th En σ Ca x H ->
 wpAny (model X.prog X.w) X.A (handleBy (.ref x) X.env hs) (SP X pins En) X.xe s
def yzt:THs:=fun _ _ _ _ _=>False
def thC (K:W.Frag) (D:Addr) (ts:TS) (tr:THs):THs:=fun En σ Ca x H=>(W.exmOne K (.ref Ca) (.ref D) = some true/\ts En σ H)\/(W.exmOne K (.ref Ca) (.ref D) = some false/\tr En σ Ca x H)
theorem yqm:PHs X [] yzt:=fun _ _ _ _ _ _ _ _ _ _ _ _ h=>h.elim
theorem yl4 {j5:List ExceptHandler} {tr:THs} (hg:Gl X tx) (hm:X.mg tx = some (.ref D)) (hs:∀ pn x,PSs (X.su pn x) (b₀ :: suite) ts) (hr:PHs X j5 tr) (hdb:(tx == ("__debug__":Str)) = false:=by decide) :
  PHs X (.ExceptHandler (some (.Name tx np)) none (b₀ :: suite) hpos :: j5) (thC X.K D ts tr):=by
 intro pins s σ H x T Ca En J hx hT tr' q
 refine wpAny_handleBy_cons (codeAny_handlers_test (zj (J.su x) hg hm ?_ hdb)) (by intro z; cases z)
 have at3:va1 x Ca s.heap:=by
  obtain ⟨oe,_,_,_,_,e1,e2,_⟩:=id tr'
  exact ⟨oe,e1,e2.1⟩
 rcases q with ⟨hex,q⟩ | ⟨hex,q⟩
 ·refine W.exm_one (M:=model X.prog X.w) (h:=s.heap) J.kIn at3.type hex _ _ _ _ (fun _ _ z=>z) ?_
  dsimp only [if_true]
  refine codeAny_handlers_suite ?_
  obtain ⟨a0,ta⟩:=yiz (s:=s) (X:=X) tr'
  refine wpAny_setFlight_noneW (base:=hid s X x T) yga (ygc J) ta fun h4 k1 k2 k3 k4=>?_
  have ok:=J.ok
  obtain ⟨J,T4,hT,tr'⟩:=zf J hx hT k1 k2 k3 fun b o e nf=>⟨o.slots,k4 b o e nf⟩
  refine wpAny_mono (hs (X.pn ++ pins) x [] _ _ _ En (J.su x) q) (fun f s6 q=>?_) fun _ _ z=>False.elim z
  cases f with
  | next=>obtain ⟨σ6,H6,J6,q⟩:=q; exact ⟨σ6,H6,J6.unsu ok,q⟩
  | brk=>obtain ⟨σ6,H6,J6,q⟩:=q; exact ⟨σ6,H6,J6.unsu ok,q⟩
  | cont=>obtain ⟨σ6,H6,J6,q⟩:=q; exact ⟨σ6,H6,J6.unsu ok,q⟩
  | ret u=>obtain ⟨v,σ6,H6,J6,r,q⟩:=q; exact ⟨v,σ6,H6,J6.unsu ok,r,q⟩
 ·refine W.exm_one (M:=model X.prog X.w) (h:=s.heap) J.kIn at3.type hex _ _ _ _ (fun _ _ z=>z) ?_
  exact hr pins _ σ H x T Ca En J hx hT tr' q
theorem yaa {K:W.Frag} {C D:Addr} {b:Bool} (h0:W.subIn K (.ref D) (.type "BaseException") = some true) (h1:W.hasDictIn K D = true) (h2:W.typeIn K (.ref D) = some (.type "type"))
  (h3:W.subIn K (.ref C) (.ref D) = some b):W.exmOne K (.ref C) (.ref D) = some b:=by
 obtain ⟨cd,h,_⟩:=W.any_some h1
 unfold W.exmOne W.kitCls
 rw [h0]
 dsimp only
 rw [h,h2,h3]
 cases b <;> rfl
def exH (th:THs) (En:ygk):St->XK:=fun σ' C _ H'=>∀ x,H' x = none->∃ Ca,C = .ref Ca/\th En σ' Ca x H'
def yy9 (tb:(St->XK)->TS) (th:THs):TS:=fun En σ H=>tb (exH th En) En σ H
theorem ymk {h₀:ExceptHandler} {hs:List ExceptHandler} {th:THs} (hb:∀ pn Ex,PSs (X.tr pn Ex) body (tb Ex)) (hst:X.stack = X.env :: X.outer/\X.env.frame = some X.env.locals) (hh:PHs X (h₀ :: hs) th) :
  PS X (.Try body (h₀ :: hs) [] [] pos) (yy9 tb th):=by
 intro pins s σ H En I h
 have toX:∀ {f s'},SP (X.tr (X.pn ++ pins) (exH th En)) [] En f s'->SP X pins En f s':=fun {f s'} q=>by
  cases f with
  | next=>obtain ⟨σ',H',J,q⟩:=q; exact ⟨σ',H',J.unwish.unpnd,q⟩
  | brk=>obtain ⟨σ',H',J,q⟩:=q; exact ⟨σ',H',J.unwish.unpnd,q⟩
  | cont=>obtain ⟨σ',H',J,q⟩:=q; exact ⟨σ',H',J.unwish.unpnd,q⟩
  | ret u=>obtain ⟨v,σ',H',J,r,q⟩:=q; exact ⟨v,σ',H',J.unwish.unpnd,r,q⟩
 refine wpAny_Try_except (wpAny_mono (hb (X.pn ++ pins) (exH th En) [] s σ H En (I.pnd.wish _) h) (fun f s1 q=>?_) fun e s1 q=>?_)
 ·have q:=toX q
  cases f with
  | next=>exact wpAny_execs_nil q
  | brk=>exact q
  | cont=>exact q
  | ret u=>exact q
 ·obtain ⟨ps,σ',H',x,T,C,rfl,J,hx,hT,tr,q⟩:=q
  have J:Inv X pins σ' H' s1:=J.unpnd
  have hx:Fy X pins H' x:=⟨hx.1,hx.2.1,hx.2.2.1,hx.2.2.2.1,hx.2.2.2.2.1,fun p hp=>hx.2.2.2.2.2 p (List.mem_append_left _ hp)⟩
  have hT:Fy X pins H' T:=⟨hT.1,hT.2.1,hT.2.2.1,hT.2.2.2.1,hT.2.2.2.2.1,fun p hp=>hT.2.2.2.2.2 p (List.mem_append_left _ hp)⟩
  obtain ⟨Ca,rfl,q2⟩:=q x hx.1
  obtain ⟨a0,ta⟩:=yiz (X:=X) tr
  have fr:=J.ok.frames
  rw [hst.1] at fr
  have lf:=ygc (x:=x) (T:=T) J
  rw [hst.1] at lf
  refine wpAny_noteFrame_onW (base:=hid s1 X x T) fr lf hst.2 ta yga yt5 fun h2 ⟨k1,k2,k3,k4⟩=>?_
  rw [<- hst.1] at k2
  obtain ⟨J,T2,hT,tr⟩:=zf J hx hT k1 k2 k3 k4
  obtain ⟨a0,ta⟩:=yiz (s:={ s1 with heap:=h2 }) (X:=X) tr
  refine wpAny_setFlight_noneW (base:=hid { s1 with heap:=h2 } X x T2) yga (ygc J) ta fun h3 k1 k2 k3 k4=>?_
  obtain ⟨J,T3,hT,tr⟩:=zf J hx hT k1 k2 k3 fun b o e nf=>⟨o.slots,k4 b o e nf⟩
  exact hh pins _ σ' H' x T3 Ca En J hx hT tr q2
end
section
variable {σ:St} {H:Hp} {nx:St->Hp->Prop} {rt:VK} {bk ct:St->Hp->Prop} {ts:TS}
theorem yrn {th:THs} {tb:(St->XK)->TS} (h:tb (exH th ⟨nx,rt,bk,ct⟩) ⟨nx,rt,bk,ct⟩ σ H):yy9 tb th ⟨nx,rt,bk,ct⟩ σ H:=h
theorem yy5 {K:W.Frag} {Ca D:Addr} {tr:THs} {En:ygk} (hex:W.exmOne K (.ref Ca) (.ref D) = some true) (h:ts En σ H):exH (thC K D ts tr) En σ (.ref Ca) none H:=fun _ _=>⟨Ca,rfl,.inl ⟨hex,h⟩⟩
end
end L2
namespace MixI
def giv (c b:Int):Int:=if b = 1 then c else 16777216 - c
def ypk (x:Int):Nat:=if x == 0 then 0 else x.natAbs.log2 + 1
def shL (ws cs:List Int) (b:Int):List Int:=List.zipWith (fun w c=>w * giv c b) ws cs
def grL (sh:List Int):List Int:=sh.map fun s=>31 * (sh.length:Int) * s + sh.sum
def tOf (s:Int):Nat:=ypk s - 48
def lrn (ws cs:List Int) (b:Int):List Int:=(grL (shL ws cs b)).map fun v=>v / 2 ^ tOf (grL (shL ws cs b)).sum
def va7 (ws cs:List Int):Int:=(List.zipWith (fun w c=>w * c) ws cs).sum
def yrw (ws cs:List Int):Int:=va7 ws cs / ws.sum
structure WOk (k:Nat) (ws:List Int):Prop where
 len:ws.length = k
 one:∀ w ∈ ws,1 <= w
 top:∀ w ∈ ws,w < 281474976710656
structure COk (k:Nat) (cs:List Int):Prop where
 len:cs.length = k
 lo:∀ c ∈ cs,32768 <= c
 hi:∀ c ∈ cs,c <= 16744448
theorem yuu {c b:Int} (h1:32768 <= c) (h2:c <= 16744448):32768 <= giv c b:=by unfold giv; split <;> omega
theorem yhh {ws cs:List Int} {b:Int} (h:ws.length = cs.length):(shL ws cs b).length = ws.length:=by
 unfold shL; rw [List.length_zipWith,<- h]; omega
theorem yml {sh:List Int}:(grL sh).length = sh.length:=by unfold grL; rw [List.length_map]
theorem ytw {k:Nat} {ws cs:List Int} {b:Int} (hw:WOk k ws) (hc:COk k cs):(lrn ws cs b).length = k:=by
 unfold lrn; rw [List.length_map,yml,yhh (by rw [hw.len,hc.len]),hw.len]
theorem ybr (m d:Int):∀ sh:List Int,(sh.map fun s=>m * s + d).sum = m * sh.sum + sh.length * d
 | []=>by simp
 | s :: r=>by
  simp only [List.map_cons,List.sum_cons,ybr m d r,List.length_cons,Int.natCast_add,Int.natCast_one,Int.mul_add,Int.add_mul]
  omega
theorem ysx (sh:List Int):(grL sh).sum = 32 * (sh.length:Int) * sh.sum:=by
 unfold grL
 rw [ybr,Int.mul_assoc,Int.mul_assoc]
 generalize (sh.length:Int) * sh.sum = x
 omega
theorem ym5:∀ {l:List Int},(∀ x ∈ l,0 <= x)->0 <= l.sum
 | [],_=>by simp
 | a :: r,h=>by
  have h1:=h a (by simp)
  have h2:=ym5 (l:=r) fun x hx=>h x (by simp [hx])
  rw [List.sum_cons]; omega
theorem yq8:∀ {l:List Int} {y:Int},(∀ x ∈ l,0 <= x)->y ∈ l->y <= l.sum
 | a :: r,y,h,hy=>by
  have h1:=h a (by simp)
  have hr:∀ x ∈ r,0 <= x:=fun x hx=>h x (by simp [hx])
  have h2:=ym5 hr
  rw [List.sum_cons]
  rcases List.mem_cons.mp hy with e | hy
  ·omega
  ·have:=yq8 hr hy; omega
theorem ym9 {c:Int}:∀ {l:List Int},(∀ x ∈ l,c <= x)->c * l.length <= l.sum
 | [],_=>by simp
 | a :: r,h=>by
  have h1:=h a (by simp)
  have h2:=ym9 (l:=r) fun x hx=>h x (by simp [hx])
  rw [List.sum_cons,List.length_cons,Int.natCast_add,Int.natCast_one,Int.mul_add]; omega
theorem yq1 {c:Int}:∀ {l:List Int},(∀ x ∈ l,x <= c)->l.sum <= c * l.length
 | [],_=>by simp
 | a :: r,h=>by
  have h1:=h a (by simp)
  have h2:=yq1 (l:=r) fun x hx=>h x (by simp [hx])
  rw [List.sum_cons,List.length_cons,Int.natCast_add,Int.natCast_one,Int.mul_add]; omega
theorem yqk {f:Int->Int} {m:Int}:∀ {ws cs:List Int},ws.length = cs.length->(∀ w ∈ ws,0 <= w)->(∀ c ∈ cs,m <= f c)->m * ws.sum <= (List.zipWith (fun w c=>w * f c) ws cs).sum
 | [],[],_,_,_=>by simp
 | w :: r,c :: t,h,h1,h2=>by
  have i:=yqk (f:=f) (m:=m) (ws:=r) (cs:=t) (by simpa using h) (fun x hx=>h1 x (by simp [hx])) fun x hx=>h2 x (by simp [hx])
  have a:=Int.mul_le_mul_of_nonneg_left (h2 c (by simp)) (h1 w (by simp))
  rw [List.zipWith_cons_cons,List.sum_cons,List.sum_cons,Int.mul_add,Int.mul_comm m w]; omega
theorem yrd {f:Int->Int} {m:Int}:∀ {ws cs:List Int},ws.length = cs.length->(∀ w ∈ ws,0 <= w)->(∀ c ∈ cs,f c <= m)->(List.zipWith (fun w c=>w * f c) ws cs).sum <= m * ws.sum
 | [],[],_,_,_=>by simp
 | w :: r,c :: t,h,h1,h2=>by
  have i:=yrd (f:=f) (m:=m) (ws:=r) (cs:=t) (by simpa using h) (fun x hx=>h1 x (by simp [hx])) fun x hx=>h2 x (by simp [hx])
  have a:=Int.mul_le_mul_of_nonneg_left (h2 c (by simp)) (h1 w (by simp))
  rw [List.zipWith_cons_cons,List.sum_cons,List.sum_cons,Int.mul_add,Int.mul_comm m w]; omega
theorem WOk.pos {k:Nat} {ws:List Int} (h:WOk k ws) (hk:1 <= k):1 <= ws.sum:=by
 have:=ym9 (c:=1) h.one
 rw [h.len] at this; omega
theorem WOk.small {k:Nat} {ws:List Int} (h:WOk k ws) (hk:k <= 6):ws.sum <= 1688849860263936:=by
 have:=yq1 (c:=281474976710656) fun x hx=>Int.le_of_lt (h.top x hx)
 rw [h.len] at this; omega
theorem ym2 {k:Nat} {ws cs:List Int} (hk:1 <= k) (hw:WOk k ws) (hc:COk k cs):32768 <= yrw ws cs/\yrw ws cs <= 16744448:=by
 have e:ws.length = cs.length:=by rw [hw.len,hc.len]
 have h0:∀ w ∈ ws,0 <= w:=fun w h=>by have:=hw.one w h; omega
 have p:=hw.pos hk
 have a:=yqk (f:=fun c=>c) e h0 hc.lo
 have b:=yrd (f:=fun c=>c) e h0 hc.hi
 unfold yrw va7
 exact ⟨(Int.le_ediv_iff_mul_le (by omega)).mpr a,Int.le_of_lt_add_one ((Int.ediv_lt_iff_lt_mul (by omega)).mpr (by rw [Int.add_mul]; omega))⟩
theorem yib (t:Nat):(2:Int) ^ t = ((2 ^ t:Nat):Int):=by rw [Int.natCast_pow]; rfl
theorem ytq (t:Nat):(0:Int) < 2 ^ t:=by rw [yib]; exact Int.natCast_pos.mpr (Nat.pow_pos (by decide))
theorem ywn {s:Int} (h:1 <= s):s < 281474976710656 * 2 ^ tOf s/\(tOf s = 0\/140737488355328 * 2 ^ tOf s <= s):=by
 have hn:s.natAbs ≠ 0:=by omega
 have e:(s.natAbs:Int) = s:=by omega
 have a:=Nat.log2_self_le hn
 have b:=@Nat.lt_log2_self s.natAbs
 unfold tOf ypk
 rw [if_neg (by simp; omega)]
 generalize s.natAbs.log2 = L at a b ⊢
 rcases Nat.lt_or_ge L 48 with q | q
 ·have z:L + 1 - 48 = 0:=by omega
  rw [z]
  refine ⟨?_,.inl rfl⟩
  have:2 ^ (L + 1) <= 2 ^ 48:=Nat.pow_le_pow_right (by decide) (by omega)
  have e48:(2:Nat) ^ 48 = 281474976710656:=by decide
  rw [e48] at this
  rw [<- e,Int.pow_zero,Int.mul_one]
  omega
 ·obtain ⟨t,rfl⟩:∃ t,L = 47 + t:=⟨L - 47,by omega⟩
  have z:47 + t + 1 - 48 = t:=by omega
  rw [z,yib]
  have e47:(2:Nat) ^ (47 + t) = 140737488355328 * 2 ^ t:=by rw [Nat.pow_add]
  have e48:(2:Nat) ^ (47 + t + 1) = 281474976710656 * 2 ^ t:=by rw [show 47 + t + 1 = 48 + t by omega,Nat.pow_add]
  rw [e47] at a
  rw [e48] at b
  generalize 2 ^ t = T at a b ⊢
  exact ⟨by omega,.inr (by omega)⟩
section
variable {k:Nat} {ws cs:List Int} {b:Int}
theorem ysu (hw:WOk k ws) (hc:COk k cs):∀ s ∈ shL ws cs b,1 <= s:=by
 intro s hs
 unfold shL at hs
 rw [List.mem_iff_getElem] at hs
 obtain ⟨i,hi,rfl⟩:=hs
 rw [List.length_zipWith] at hi
 rw [List.getElem_zipWith]
 have h1:=hw.one ws[i] (List.getElem_mem _)
 have h2:=yuu (b:=b) (hc.lo cs[i] (List.getElem_mem _)) (hc.hi cs[i] (List.getElem_mem _))
 have:=Int.mul_le_mul h1 h2 (by decide) (by omega)
 omega
theorem yvp {sh:List Int} (h:∀ s ∈ sh,1 <= s):∀ v ∈ grL sh,sh.sum <= v/\v <= (grL sh).sum/\0 <= v:=by
 have hs:=ym5 (l:=sh) fun x hx=>by have:=h x hx; omega
 have hv:∀ v ∈ grL sh,sh.sum <= v:=fun v hv=>by
  unfold grL at hv
  obtain ⟨s,hs',rfl⟩:=List.mem_map.mp hv
  have:=h s hs'
  have:0 <= 31 * (sh.length:Int) * s:=Int.mul_nonneg (Int.mul_nonneg (by decide) (Int.natCast_nonneg _)) (by omega)
  omega
 exact fun v h1=>⟨hv v h1,yq8 (fun x hx=>by have:=hv x hx; omega) h1,by have:=hv v h1; omega⟩
theorem yra (hk:1 <= k) (hk6:k <= 6) (hw:WOk k ws) (hc:COk k cs):WOk k (lrn ws cs b):=by
 have hl:(shL ws cs b).length = k:=by rw [yhh (by rw [hw.len,hc.len]),hw.len]
 have hp:=ysu (b:=b) hw hc
 have ha:1 <= (shL ws cs b).sum:=by
  have:=ym9 (c:=1) hp
  rw [hl] at this; omega
 have hg:=yvp hp
 have hs:=ysx (shL ws cs b)
 rw [hl] at hs
 have h1:1 <= (grL (shL ws cs b)).sum:=by
  rw [hs]
  have:32 * (k:Int) * 1 <= 32 * (k:Int) * (shL ws cs b).sum:=Int.mul_le_mul_of_nonneg_left ha (by omega)
  omega
 have hsv:(grL (shL ws cs b)).sum <= 192 * (shL ws cs b).sum:=by
  rw [hs]; exact Int.mul_le_mul_of_nonneg_right (by omega) (by omega)
 obtain ⟨t1,t2⟩:=ywn h1
 have tp:=ytq (tOf (grL (shL ws cs b)).sum)
 refine ⟨ytw hw hc,fun w h=>?_,fun w h=>?_⟩
 ·obtain ⟨v,hv,rfl⟩:=List.mem_map.mp h
  obtain ⟨v1,v2,v3⟩:=hg v hv
  refine (Int.le_ediv_iff_mul_le tp).mpr ?_
  rcases t2 with t2 | t2
  ·rw [t2,Int.pow_zero]; omega
  ·generalize (2:Int) ^ tOf (grL (shL ws cs b)).sum = T at *
   omega
 ·obtain ⟨v,hv,rfl⟩:=List.mem_map.mp h
  obtain ⟨v1,v2,v3⟩:=hg v hv
  exact (Int.ediv_lt_iff_lt_mul tp).mpr (by omega)
theorem ylq {g:Int->Int->Int} {ws cs:List Int} (h:cs.length = ws.length):(List.range ws.length).map (fun i=>g ((ws[i]?).getD 0) ((cs[i]?).getD 0)) = List.zipWith g ws cs:=by
 apply List.ext_getElem
 ·rw [List.length_map,List.length_range,List.length_zipWith]; omega
 ·intro i h1 h2
  rw [List.length_map,List.length_range] at h1
  rw [List.getElem_map,List.getElem_range,List.getElem_zipWith,List.getElem?_eq_getElem h1,List.getElem?_eq_getElem (by omega)]
  rfl
end
end MixI
namespace SpanMath
def rn (d:List Int):Nat->Int
 | 0=>0
 | k + 1=>rn d k * 256 + (d[k]?).getD 0
def Byt (d:List Int):Prop:=∀ x ∈ d,0 <= x/\x <= 255
theorem yp9 {d:List Int} (h:Byt d) (k:Nat):0 <= (d[k]?).getD 0/\(d[k]?).getD 0 <= 255:=by
 cases e:d[k]? with
 | none=>exact ⟨by decide,by decide⟩
 | some x=>exact h x (List.mem_of_getElem? e)
theorem ynd {d:List Int} (h:Byt d) (k:Nat):∀ r,∃ q,rn d (k + r) = rn d k * pw r + q/\0 <= q/\q < pw r
 | 0=>⟨0,by show rn d k = rn d k * 1 + 0; omega,by decide,by decide⟩
 | r + 1=>by
  obtain ⟨q,e,h1,h2⟩:=ynd h k r
  obtain ⟨h3,h4⟩:=yp9 h (k + r)
  refine ⟨q * 256 + (d[k + r]?).getD 0,?_,by omega,?_⟩
  ·show rn d (k + r) * 256 + (d[k + r]?).getD 0 = rn d k * (pw r * 256) + _
   rw [e,<- Int.mul_assoc,Int.add_mul,Int.add_assoc]
  ·show _ < pw r * 256
   omega
theorem yor {d:List Int} (h:Byt d) (k r:Nat) (l w':Int):(l * pw r <= rn d (k + r)/\rn d (k + r) < l * pw r + w' * pw r) ↔ (l <= rn d k/\rn d k < l + w'):=by
 obtain ⟨q,e,h1,h2⟩:=ynd h k r
 have hp:=uf r
 rw [e,<- Int.add_mul]
 generalize rn d k = v
 generalize pw r = p at hp h1 h2 ⊢
 constructor
 ·rintro ⟨a,b⟩
  constructor
  ·refine Int.le_of_lt_add_one (Int.lt_of_mul_lt_mul_right (a:=p) ?_ (Int.le_of_lt hp))
   rw [Int.add_mul,Int.one_mul]
   omega
  ·refine Int.lt_of_mul_lt_mul_right (a:=p) ?_ (Int.le_of_lt hp)
   omega
 ·rintro ⟨a,b⟩
  have a':=Int.mul_le_mul_of_nonneg_right a (Int.le_of_lt hp)
  have b':=Int.mul_le_mul_of_nonneg_right (show v + 1 <= l + w' by omega) (Int.le_of_lt hp)
  rw [Int.add_mul v 1 p,Int.one_mul] at b'
  omega
structure InS (d:List Int) (x:Sn):Prop where
 lo:x.1 <= rn d (sz x)
 hi:rn d (sz x) < x.1 + x.2.1
theorem yzb (l w' s':Int):∃ r:Nat,ren l w' s' = (l * pw r,w' * pw r,s' + r):=by
 unfold ren
 split
 ·split
  ·exact ⟨2,rfl⟩
  ·exact ⟨1,rfl⟩
 ·refine ⟨0,?_⟩
  show (l,w',s') = (l * 1,w' * 1,s' + 0)
  rw [Int.mul_one,Int.mul_one,Int.add_zero]
theorem yqb {d:List Int} (h:Byt d) {l w' s':Int} (hs:0 <= s'):InS d (ren l w' s') ↔ (l <= rn d s'.toNat/\rn d s'.toNat < l + w'):=by
 obtain ⟨r,e⟩:=yzb l w' s'
 rw [e]
 have hz:sz (l * pw r,w' * pw r,s' + r) = s'.toNat + r:=by
  show (s' + (r:Int)).toNat = s'.toNat + r
  omega
 rw [<- yor h s'.toNat r l w']
 constructor
 ·rintro ⟨a,b⟩
  rw [hz] at a b
  exact ⟨a,b⟩
 ·rintro ⟨a,b⟩
  exact ⟨by rw [hz]; exact a,by rw [hz]; exact b⟩
def j3 (d:List Int) (x:Sn) (c:Int):Int:=if rn d (sz x) < x.1 + cut x.2.1 c then 1 else 0
theorem ycr (d:List Int) (x:Sn) (c:Int):j3 d x c = 0\/j3 d x c = 1:=by
 unfold j3
 split
 ·exact .inr rfl
 ·exact .inl rfl
theorem yta {d:List Int} (hd:Byt d) {x:Sn} {c b:Int} (h:OkS x) (hc:Ch c) (hb:b = 0\/b = 1) (i:InS d (nar x c b)):InS d x/\b = j3 d x c:=by
 have hz:=h.ok.z
 obtain ⟨a1,a2,a3⟩:=yf7 h.ok.w0 h.ok.w1 hc
 unfold nar at i
 rcases hb with rfl | rfl
 ·rw [if_neg (by decide)] at i
  obtain ⟨i1,i2⟩:=(yqb hd (by omega)).mp i
  have i1:x.1 + cut x.2.1 c <= rn d (sz x):=i1
  have i2:rn d (sz x) < x.1 + cut x.2.1 c + (x.2.1 - cut x.2.1 c):=i2
  refine ⟨⟨by omega,by omega⟩,?_⟩
  unfold j3
  rw [if_neg (by omega)]
 ·rw [if_pos rfl] at i
  obtain ⟨i1,i2⟩:=(yqb hd (by omega)).mp i
  have i1:x.1 <= rn d (sz x):=i1
  have i2:rn d (sz x) < x.1 + cut x.2.1 c:=i2
  refine ⟨⟨by omega,by omega⟩,?_⟩
  unfold j3
  rw [if_pos i2]
theorem yqe:∀ (k:Nat) (d:List Int),k <= d.length->rn d k = val (d.take k)
 | 0,_,_=>rfl
 | k + 1,d,h=>by
  have hk:k < d.length:=by omega
  have e:d.take (k + 1) = d.take k ++ [d[k]]:=by rw [List.take_succ,List.getElem?_eq_getElem hk]; rfl
  rw [e,yh1,<- yqe k d (by omega)]
  show rn d k * 256 + _ = _
  rw [List.getElem?_eq_getElem hk]
  rfl
theorem yhj {d:List Int} (hd:Byt d) {x:Sn} (h:OkS x) (hl:(tL x).length <= d.length) (hp:d.take (tL x).length = tL x):InS d x:=by
 have hk:=yt2 h
 have e1:rn d (sz x - tK x) = tCn x:=by
  rw [<- ymq x,yqe _ _ hl,hp,ywg h]
 obtain ⟨q,e2,q0,q1⟩:=ynd hd (sz x - tK x) (tK x)
 have e3:sz x - tK x + tK x = sz x:=by omega
 rw [e3,e1] at e2
 have hh:=yc3 h.ok
 have hb:=(yqp x.1 (uf (tK x))).1
 unfold ykh at hh
 have hh:(tCn x + 1) * pw (tK x) <= x.1 + x.2.1:=hh
 have hb:x.1 <= tCn x * pw (tK x):=hb
 rw [Int.add_mul,Int.one_mul] at hh
 exact ⟨by rw [e2]; omega,by rw [e2]; omega⟩
end SpanMath
namespace Law
open PySem L2
local macro_rules | `(tactic| walk_at "side")=>`(tactic| first | exact ⟨by decide,by decide⟩ | (show (0:Int) < _; first | decide | omega) | exact Or.inl ⟨by omega,by omega⟩ | exact Or.inr ⟨by omega,by omega⟩ | exact ⟨by omega,by omega⟩ | exact ⟨by decide,by decide,by decide⟩)
local macro_rules | `(tactic| walk_at "len")=>`(tactic| first | decide | (simp only [List.length_cons,List.length_nil]; decide))
local macro_rules | `(tactic| walk_at "rd1")=>`(tactic| with_reducible first
 | refine van ?_
 | (refine' yyq ?rdv ?_; (case rdv=>with_unfolding_all rfl))
 | refine i_c ?_
 | refine vbx ?_
 | refine vca ?_
 | refine yvx ?_
 | refine vbr ?_
 | refine vb7 ?_
 | refine vb9 ?_
 | refine yz9 ?_
 | refine vak ?_
 | refine yu8 ?_
 | refine yxy ?_
 | refine yx2 ?_
 | refine yt0 ?_
 | refine yc1 ?_
 | refine ytu ?_
 | refine ysp ?_
 | refine i_try ?_
 | refine yxn ?_
 | refine vab ?_
 | refine vb1 ?_
 | refine vam ?_
 | refine i_neI ?_
 | refine yr1 ?_
 | refine yxe ?_
 | refine i_orV ?_
 | refine yxo ?_
 | refine yz1 ?_
 | refine vbv ?_
 | refine yzq ?_
 | refine var ?_
 | refine i_retN ?_
 | refine yzu ?_
 | refine vas ?_
 | refine yi2 ?_
 | refine yve ?_
 | refine i_make0 ?_
 | refine vcb ?_
 | refine yz8 ?_
 | refine yzr ?_
 | refine yu9 ?_
 | refine vb6 ?_
 | refine yo3 ?_
 | refine ywm ?_
 | refine vaj ?_
 | refine vcc ?_
 | refine i_U ?_
 | refine g0 ?_ | refine g1 ?_ | refine g2 ?_ | refine g3 ?_ | refine g4 ?_ | refine g5 ?_ | refine g6 ?_ | refine g7 ?_ | refine g8 ?_ | refine g9 ?_ | refine g10 ?_ | refine g11 ?_ | refine g12 ?_ | refine g13 ?_ | refine g14 ?_ | refine g15 ?_ | refine g16 ?_ | refine g17 ?_ | refine g18 ?_ | refine g19 ?_ | refine g20 ?_ | refine g21 ?_ | refine g22 ?_ | refine g23 ?_
 | refine ytj ?_
 | refine yvg ?_
 | refine yps ?_
 | refine yno ?_
 | refine vaf ?_
 | refine yz5 ?_
 | refine yzx ?_
 | refine ysh ?_
 | refine yyd ?_
 | refine i_iEnum ?_
 | refine ys6 ?_
 | refine ysq ?_
 | refine ytz ?_
 | refine i_iRng3 ?_
 | refine i_iEnumT ?_
 | refine ywa ?_
 | refine ysd ?_
 | refine yw4 ?_
 | refine yya ?_
 | refine ysg ?_
 | refine ytg ?_
 | refine yu3 ?_
 | refine i_dget1 ?_
 | refine i_dget2 ?_
 | refine i_din ?_
 | refine yok ?_
 | refine ywu ?_
 | refine ysl ?_
 | refine yuv ?_
 | refine ysi ?_
 | (refine' i_shlC ?rdp ?rdq ?_; (case rdp=>with_unfolding_all exact ⟨by decide,by decide,by decide⟩); (case rdq=>with_unfolding_all decide))
 | (refine' i_powC ?rdp ?rdq ?_; (case rdp=>with_unfolding_all exact ⟨by decide,by decide,by decide⟩); (case rdq=>with_unfolding_all decide))
 | refine yvf ?_
 | (refine i_I ?rdc ?_; (case rdc=>with_unfolding_all walk_at "side")))
local macro_rules | `(tactic| walk_at "rd")=>`(tactic| repeat walk_at "rd1")
def top (i:Nat):Stmt:=PySem.Challenge.pw_foretell_k34_press_refused.main.body.getD i (.Pass ⟨0,0,0,0⟩)
abbrev ypq:Stmt:=top 15
abbrev ypr:Stmt:=top 16
abbrev ypn:Stmt:=top 17
abbrev yp1:Stmt:=top 18
abbrev ypz:Stmt:=top 19
abbrev ypt:Stmt:=top 20
abbrev ypv:Stmt:=top 21
abbrev ypx:Stmt:=top 22
abbrev ypo:Stmt:=top 23
abbrev ydr:Stmt:=top 24
abbrev yd6:Stmt:=top 25
abbrev yc8:Stmt:=top 28
abbrev yd2:Stmt:=top 29
abbrev yd1:Stmt:=vp (top 34) 0
abbrev yey:Stmt:=vp (top 34) 1
abbrev yd5:Stmt:=vp (top 34) 2
abbrev ydq:Stmt:=vp (top 35) 0
abbrev yel:Stmt:=vp (top 35) 1
abbrev yep:Stmt:=vp (top 35) 2
abbrev yew:Stmt:=vp (top 36) 0
abbrev ydj:Stmt:=vp (top 36) 1
abbrev yea:Stmt:=vp (top 36) 2
abbrev ydg:Stmt:=top 37
abbrev ydc:Stmt:=top 43
abbrev yd9:Stmt:=top 44
abbrev yda:Stmt:=top 45
abbrev yd7:Stmt:=top 46
abbrev ydi:Stmt:=top 47
abbrev yek:Stmt:=top 48
abbrev yed:Stmt:=top 49
abbrev ydk:Stmt:=vp (top 50) 0
abbrev yd8:Stmt:=vp (top 50) 2
abbrev yd3:Stmt:=vp (top 55) 0
abbrev yet:Stmt:=vp (top 55) 2
abbrev ydf:Stmt:=vp (top 55) 3
abbrev yc5:Stmt:=vp (top 58) 0
abbrev yeu:Stmt:=vp (top 58) 1
abbrev ydt:Stmt:=vp (top 58) 2
abbrev ydu:Stmt:=vp (top 58) 3
abbrev yez:Stmt:=vp (top 58) 7
abbrev yeg:Stmt:=vp (top 58) 8
abbrev yeb:Stmt:=vp (top 58) 9
abbrev yec:Stmt:=top 63
abbrev ydo:Stmt:=top 64
abbrev yem:Stmt:=vp (top 65) 0
abbrev ydm:Stmt:=vp (top 65) 2
abbrev yeo:Stmt:=vp (top 65) 3
abbrev yee:Stmt:=vp (top 65) 5
abbrev yej:Stmt:=vp (top 65) 6
abbrev ydx:Stmt:=vp (top 67) 0
abbrev ydl:Stmt:=vp (top 67) 1
abbrev ydn:Stmt:=vp (top 67) 2
abbrev yeh:Stmt:=vp (top 67) 3
abbrev ydd:Stmt:=vp (top 67) 5
abbrev yd0:Stmt:=top 69
abbrev yc7:Stmt:=top 70
abbrev yer:Stmt:=top 72
abbrev yc9:Stmt:=top 73
abbrev yeq:Stmt:=top 74
abbrev ydw:Stmt:=top 75
abbrev ydp:Stmt:=top 76
abbrev yef:Stmt:=top 77
abbrev ydb:Stmt:=top 78
abbrev yex:Stmt:=top 79
abbrev yd4:Stmt:=top 81
abbrev yds:Stmt:=top 82
abbrev yev:Stmt:=top 83
abbrev ydz:Stmt:=top 84
abbrev yde:Stmt:=top 85
abbrev yes:Stmt:=top 86
abbrev ydh:Stmt:=top 87
abbrev ydv:Stmt:=top 88
abbrev ydy:Stmt:=top 89
set_option genInjectivity false in
set_option genSizeOfSpec false in
structure Ads where
 f_q1:Addr
 d_q1:FuncData
 f_q2:Addr
 d_q2:FuncData
 f_q3:Addr
 d_q3:FuncData
 f_q4:Addr
 d_q4:FuncData
 f_q5:Addr
 d_q5:FuncData
 f_q6:Addr
 d_q6:FuncData
 f_q7:Addr
 d_q7:FuncData
 f_q8:Addr
 d_q8:FuncData
 f_q9:Addr
 d_q9:FuncData
 f_q10:Addr
 d_q10:FuncData
 f_q11:Addr
 d_q11:FuncData
 f_q12:Addr
 d_q12:FuncData
 f_q13:Addr
 d_q13:FuncData
 f_q14:Addr
 d_q14:FuncData
 f_q15:Addr
 d_q15:FuncData
 f_q16:Addr
 d_q16:FuncData
 f_q17:Addr
 d_q17:FuncData
 f_q18:Addr
 d_q18:FuncData
 f_q19:Addr
 d_q19:FuncData
 f_q20:Addr
 d_q20:FuncData
 f_q21:Addr
 d_q21:FuncData
 f_q22:Addr
 d_q22:FuncData
 f_q23:Addr
 d_q23:FuncData
 f_q24:Addr
 d_q24:FuncData
 f_q25:Addr
 d_q25:FuncData
 f_q26:Addr
 d_q26:FuncData
 f_q27:Addr
 d_q27:FuncData
 f_q28:Addr
 d_q28:FuncData
 f_q29:Addr
 d_q29:FuncData
 f_q30:Addr
 d_q30:FuncData
 f_q31:Addr
 d_q31:FuncData
 f_q32:Addr
 d_q32:FuncData
 f_q33:Addr
 d_q33:FuncData
 f_q34:Addr
 d_q34:FuncData
 f_q35:Addr
 d_q35:FuncData
 f_q36:Addr
 d_q36:FuncData
 f_q37:Addr
 d_q37:FuncData
 f_q38:Addr
 d_q38:FuncData
 f_q39:Addr
 d_q39:FuncData
 f_q40:Addr
 d_q40:FuncData
 f_q41:Addr
 d_q41:FuncData
 f_q42:Addr
 d_q42:FuncData
 f_q43:Addr
 d_q43:FuncData
 f_q44:Addr
 d_q44:FuncData
 f_q45:Addr
 d_q45:FuncData
 f_q46:Addr
 d_q46:FuncData
 f_q47:Addr
 d_q47:FuncData
 f_q48:Addr
 d_q48:FuncData
 f_q49:Addr
 d_q49:FuncData
 f_q50:Addr
 d_q50:FuncData
 f_q51:Addr
 d_q51:FuncData
 f_q52:Addr
 d_q52:FuncData
 f_q53:Addr
 d_q53:FuncData
 f_q54:Addr
 d_q54:FuncData
 f_q55:Addr
 d_q55:FuncData
 f_q56:Addr
 d_q56:FuncData
 f_q57:Addr
 d_q57:FuncData
 f_q58:Addr
 d_q58:FuncData
 D_q58:Addr
 f_q59:Addr
 d_q59:FuncData
 f_q60:Addr
 d_q60:FuncData
 f_q61:Addr
 d_q61:FuncData
 f_q62:Addr
 d_q62:FuncData
 f_q63:Addr
 d_q63:FuncData
 D_q63:Addr
 Dt_q63_0:Tok
 f_q64:Addr
 d_q64:FuncData
 D_q64:Addr
 Dt_q64_0:Tok
 f_q65:Addr
 d_q65:FuncData
 f_q66:Addr
 d_q66:FuncData
 f_q67:Addr
 d_q67:FuncData
 f_q68:Addr
 d_q68:FuncData
 f_q69:Addr
 d_q69:FuncData
 f_q70:Addr
 d_q70:FuncData
 f_q71:Addr
 d_q71:FuncData
 f_q72:Addr
 d_q72:FuncData
 f_law:Addr
 d_law:FuncData
 C_Even:Addr
 C_Quick:Addr
 C_Run:Addr
 C_Mx:Addr
 C_Book:Addr
 C_Span:Addr
 C_Ft:Addr
 C_Sk:Addr
 C_NT:Addr
 C_NY:Addr
 C_NoMost:Addr
 C_NC:Addr
 C_NB:Addr
 C_NL:Addr
 C_NP:Addr
 t_LEAST:Tok
 t_ONE:Tok
 t_MOST_SIGNS:Tok
 t_MOST_BYTES:Tok
 t_MOST_COUNTED:Tok
 t_FARTHEST:Tok
 t_MOST_PLACES:Tok
 t_MOST_LOOKS:Tok
 t_NO_SIGN:Tok
 t_FIRST_WEIGHT:Tok
 t_OWN_PARTS:Tok
 t_MOST_FIGURES:Tok
 t_NODES_END:Tok
 t_FIRST_WIDTH:Tok
 t_FIRST_SIZE:Tok
 t_LEAST_WIDTH:Tok
 W_WORTHS:Addr
 W_KINDS:Addr
structure Txt (K:W.Frag) (mg:Str->Option Value) (a:Ads):Prop where
 F_q1:Fun K "is_whole" "is_whole" ypq a.f_q1 a.d_q1
 B_q1:y9 K a.d_q1 ["thing"] []
 m_q1:mg "is_whole" = some (.ref a.f_q1)
 F_q2:Fun K "is_bit" "is_bit" ypr a.f_q2 a.d_q2
 B_q2:y9 K a.d_q2 ["thing"] []
 m_q2:mg "is_bit" = some (.ref a.f_q2)
 F_q3:Fun K "is_chance" "is_chance" ypn a.f_q3 a.d_q3
 B_q3:y9 K a.d_q3 ["thing"] []
 m_q3:mg "is_chance" = some (.ref a.f_q3)
 F_q4:Fun K "is_sign" "is_sign" yp1 a.f_q4 a.d_q4
 B_q4:y9 K a.d_q4 ["thing"] []
 m_q4:mg "is_sign" = some (.ref a.f_q4)
 F_q5:Fun K "is_list_of_signs" "is_list_of_signs" ypz a.f_q5 a.d_q5
 B_q5:y9 K a.d_q5 ["thing","most"] []
 m_q5:mg "is_list_of_signs" = some (.ref a.f_q5)
 F_q6:Fun K "checked_text" "checked_text" ypt a.f_q6 a.d_q6
 B_q6:y9 K a.d_q6 ["thing"] []
 m_q6:mg "checked_text" = some (.ref a.f_q6)
 F_q7:Fun K "checked_bytes" "checked_bytes" ypv a.f_q7 a.d_q7
 B_q7:y9 K a.d_q7 ["thing"] []
 m_q7:mg "checked_bytes" = some (.ref a.f_q7)
 F_q8:Fun K "check_most" "check_most" ypx a.f_q8 a.d_q8
 B_q8:y9 K a.d_q8 ["thing"] []
 m_q8:mg "check_most" = some (.ref a.f_q8)
 F_q9:Fun K "check_chance" "check_chance" ypo a.f_q9 a.d_q9
 B_q9:y9 K a.d_q9 ["thing"] []
 m_q9:mg "check_chance" = some (.ref a.f_q9)
 F_q10:Fun K "check_bit" "check_bit" ydr a.f_q10 a.d_q10
 B_q10:y9 K a.d_q10 ["thing"] []
 m_q10:mg "check_bit" = some (.ref a.f_q10)
 F_q11:Fun K "gives" "gives" yd6 a.f_q11 a.d_q11
 B_q11:y9 K a.d_q11 ["chance","bit"] []
 m_q11:mg "gives" = some (.ref a.f_q11)
 F_q12:Fun K "bits_of" "bits_of" yc8 a.f_q12 a.d_q12
 B_q12:y9 K a.d_q12 ["sign"] []
 m_q12:mg "bits_of" = some (.ref a.f_q12)
 F_q13:Fun K "decisions_of" "decisions_of" yd2 a.f_q13 a.d_q13
 B_q13:y9 K a.d_q13 ["text"] []
 m_q13:mg "decisions_of" = some (.ref a.f_q13)
 F_q14:Fun K "__init__" "Even.__init__" yd1 a.f_q14 a.d_q14
 B_q14:y9 K a.d_q14 ["self"] []
 F_q15:Fun K "chance" "Even.chance" yey a.f_q15 a.d_q15
 B_q15:y9 K a.d_q15 ["self"] []
 M_q15:yag K a.C_Even "chance" a.f_q15
 F_q16:Fun K "seen" "Even.seen" yd5 a.f_q16 a.d_q16
 B_q16:y9 K a.d_q16 ["self","bit"] []
 M_q16:yag K a.C_Even "seen" a.f_q16
 F_q17:Fun K "__init__" "Quick.__init__" ydq a.f_q17 a.d_q17
 B_q17:y9 K a.d_q17 ["self"] []
 F_q18:Fun K "chance" "Quick.chance" yel a.f_q18 a.d_q18
 B_q18:y9 K a.d_q18 ["self"] []
 M_q18:yag K a.C_Quick "chance" a.f_q18
 F_q19:Fun K "seen" "Quick.seen" yep a.f_q19 a.d_q19
 B_q19:y9 K a.d_q19 ["self","bit"] []
 M_q19:yag K a.C_Quick "seen" a.f_q19
 F_q20:Fun K "__init__" "Run.__init__" yew a.f_q20 a.d_q20
 B_q20:y9 K a.d_q20 ["self"] []
 F_q21:Fun K "chance" "Run.chance" ydj a.f_q21 a.d_q21
 B_q21:y9 K a.d_q21 ["self"] []
 M_q21:yag K a.C_Run "chance" a.f_q21
 F_q22:Fun K "seen" "Run.seen" yea a.f_q22 a.d_q22
 B_q22:y9 K a.d_q22 ["self","bit"] []
 M_q22:yag K a.C_Run "seen" a.f_q22
 F_q23:Fun K "slot_of" "slot_of" ydg a.f_q23 a.d_q23
 B_q23:y9 K a.d_q23 ["kind"] []
 m_q23:mg "slot_of" = some (.ref a.f_q23)
 F_q24:Fun K "is_kind" "is_kind" ydc a.f_q24 a.d_q24
 B_q24:y9 K a.d_q24 ["thing"] []
 m_q24:mg "is_kind" = some (.ref a.f_q24)
 F_q25:Fun K "is_place" "is_place" yd9 a.f_q25 a.d_q25
 B_q25:y9 K a.d_q25 ["thing"] []
 m_q25:mg "is_place" = some (.ref a.f_q25)
 F_q26:Fun K "are_places" "are_places" yda a.f_q26 a.d_q26
 B_q26:y9 K a.d_q26 ["thing"] []
 m_q26:mg "are_places" = some (.ref a.f_q26)
 F_q27:Fun K "is_look" "is_look" yd7 a.f_q27 a.d_q27
 B_q27:y9 K a.d_q27 ["thing"] []
 m_q27:mg "is_look" = some (.ref a.f_q27)
 F_q28:Fun K "checked_looks" "checked_looks" ydi a.f_q28 a.d_q28
 B_q28:y9 K a.d_q28 ["thing"] []
 m_q28:mg "checked_looks" = some (.ref a.f_q28)
 F_q29:Fun K "sign_back" "sign_back" yek a.f_q29 a.d_q29
 B_q29:y9 K a.d_q29 ["signs","place"] []
 m_q29:mg "sign_back" = some (.ref a.f_q29)
 F_q30:Fun K "context_of" "context_of" yed a.f_q30 a.d_q30
 B_q30:y9 K a.d_q30 ["look","signs","node"] []
 m_q30:mg "context_of" = some (.ref a.f_q30)
 F_q31:Fun K "__init__" "Book.__init__" ydk a.f_q31 a.d_q31
 B_q31:y9 K a.d_q31 ["self","look"] []
 F_q32:Fun K "slot_at" "Book.slot_at" yd8 a.f_q32 a.d_q32
 B_q32:y9 K a.d_q32 ["self","signs","node"] []
 M_q32:yag K a.C_Book "slot_at" a.f_q32
 F_q33:Fun K "__init__" "Mixer.__init__" yd3 a.f_q33 a.d_q33
 B_q33:y9 K a.d_q33 ["self","many"] []
 F_q34:Fun K "mixed" "Mixer.mixed" yet a.f_q34 a.d_q34
 B_q34:y9 K a.d_q34 ["self","chances"] []
 M_q34:yag K a.C_Mx "mixed" a.f_q34
 F_q35:Fun K "learn" "Mixer.learn" ydf a.f_q35 a.d_q35
 B_q35:y9 K a.d_q35 ["self","chances","bit"] []
 M_q35:yag K a.C_Mx "learn" a.f_q35
 F_q36:Fun K "__init__" "Foreteller.__init__" yc5 a.f_q36 a.d_q36
 B_q36:y9 K a.d_q36 ["self","looks"] []
 F_q37:Fun K "arrive" "Foreteller.arrive" yeu a.f_q37 a.d_q37
 B_q37:y9 K a.d_q37 ["self"] []
 M_q37:yag K a.C_Ft "arrive" a.f_q37
 F_q38:Fun K "chances" "Foreteller.chances" ydt a.f_q38 a.d_q38
 B_q38:y9 K a.d_q38 ["self"] []
 M_q38:yag K a.C_Ft "chances" a.f_q38
 F_q39:Fun K "chance" "Foreteller.chance" ydu a.f_q39 a.d_q39
 B_q39:y9 K a.d_q39 ["self"] []
 M_q39:yag K a.C_Ft "chance" a.f_q39
 F_q40:Fun K "see" "Foreteller.see" yez a.f_q40 a.d_q40
 B_q40:y9 K a.d_q40 ["self","bit"] []
 M_q40:yag K a.C_Ft "see" a.f_q40
 F_q41:Fun K "step" "Foreteller.step" yeg a.f_q41 a.d_q41
 B_q41:y9 K a.d_q41 ["self","bit"] []
 M_q41:yag K a.C_Ft "step" a.f_q41
 F_q42:Fun K "step_in_sign" "Foreteller.step_in_sign" yeb a.f_q42 a.d_q42
 B_q42:y9 K a.d_q42 ["self","bit"] []
 M_q42:yag K a.C_Ft "step_in_sign" a.f_q42
 F_q43:Fun K "written" "written" yec a.f_q43 a.d_q43
 B_q43:y9 K a.d_q43 ["number","size"] []
 m_q43:mg "written" = some (.ref a.f_q43)
 F_q44:Fun K "first_block" "first_block" ydo a.f_q44 a.d_q44
 B_q44:y9 K a.d_q44 ["low","unit"] []
 m_q44:mg "first_block" = some (.ref a.f_q44)
 F_q45:Fun K "__init__" "Span.__init__" yem a.f_q45 a.d_q45
 B_q45:y9 K a.d_q45 ["self"] []
 F_q46:Fun K "cut" "Span.cut" ydm a.f_q46 a.d_q46
 B_q46:y9 K a.d_q46 ["self","chance"] []
 M_q46:yag K a.C_Span "cut" a.f_q46
 F_q47:Fun K "narrow" "Span.narrow" yeo a.f_q47 a.d_q47
 B_q47:y9 K a.d_q47 ["self","chance","bit"] []
 M_q47:yag K a.C_Span "narrow" a.f_q47
 F_q48:Fun K "holds_block" "Span.holds_block" yee a.f_q48 a.d_q48
 B_q48:y9 K a.d_q48 ["self","unit"] []
 M_q48:yag K a.C_Span "holds_block" a.f_q48
 F_q49:Fun K "told" "Span.told" yej a.f_q49 a.d_q49
 B_q49:y9 K a.d_q49 ["self"] []
 M_q49:yag K a.C_Span "told" a.f_q49
 F_q50:Fun K "__init__" "Seeker.__init__" ydx a.f_q50 a.d_q50
 B_q50:y9 K a.d_q50 ["self","data"] []
 F_q51:Fun K "follow" "Seeker.follow" ydl a.f_q51 a.d_q51
 B_q51:y9 K a.d_q51 ["self"] []
 M_q51:yag K a.C_Sk "follow" a.f_q51
 F_q52:Fun K "byte_at" "Seeker.byte_at" ydn a.f_q52 a.d_q52
 B_q52:y9 K a.d_q52 ["self","place"] []
 M_q52:yag K a.C_Sk "byte_at" a.f_q52
 F_q53:Fun K "bit" "Seeker.bit" yeh a.f_q53 a.d_q53
 B_q53:y9 K a.d_q53 ["self","chance"] []
 M_q53:yag K a.C_Sk "bit" a.f_q53
 F_q54:Fun K "told" "Seeker.told" ydd a.f_q54 a.d_q54
 B_q54:y9 K a.d_q54 ["self"] []
 M_q54:yag K a.C_Sk "told" a.f_q54
 F_q55:Fun K "checked_learned" "checked_learned" yd0 a.f_q55 a.d_q55
 B_q55:y9 K a.d_q55 ["thing"] []
 m_q55:mg "checked_learned" = some (.ref a.f_q55)
 F_q56:Fun K "teach" "teach" yc7 a.f_q56 a.d_q56
 B_q56:y9 K a.d_q56 ["foreteller","texts"] []
 m_q56:mg "teach" = some (.ref a.f_q56)
 F_q57:Fun K "press_by" "press_by" yer a.f_q57 a.d_q57
 B_q57:y9 K a.d_q57 ["foreteller","text"] []
 m_q57:mg "press_by" = some (.ref a.f_q57)
 F_q58:ye2 K "pressed" "pressed" yc9 a.D_q58 a.f_q58 a.d_q58
 B1_q58:y9 K a.d_q58 ["looks","text","learned"] [.none]
 B_q58:y9 K a.d_q58 ["looks","text","learned"] []
 m_q58:mg "pressed" = some (.ref a.f_q58)
 F_q59:Fun K "bit_by" "bit_by" yeq a.f_q59 a.d_q59
 B_q59:y9 K a.d_q59 ["foreteller","seeker"] []
 m_q59:mg "bit_by" = some (.ref a.f_q59)
 F_q60:Fun K "sign_by" "sign_by" ydw a.f_q60 a.d_q60
 B_q60:y9 K a.d_q60 ["foreteller","seeker"] []
 m_q60:mg "sign_by" = some (.ref a.f_q60)
 F_q61:Fun K "text_by" "text_by" ydp a.f_q61 a.d_q61
 B_q61:y9 K a.d_q61 ["foreteller","seeker","most"] []
 m_q61:mg "text_by" = some (.ref a.f_q61)
 F_q62:Fun K "read_by" "read_by" yef a.f_q62 a.d_q62
 B_q62:y9 K a.d_q62 ["foreteller","data","most"] []
 m_q62:mg "read_by" = some (.ref a.f_q62)
 F_q63:ye2 K "read_first" "read_first" ydb a.D_q63 a.f_q63 a.d_q63
 B1_q63:y9 K a.d_q63 ["looks","data","most","learned"] [.none]
 B2_q63:y9 K a.d_q63 ["looks","data","most","learned"] [.int 1000 a.Dt_q63_0,.none]
 B_q63:y9 K a.d_q63 ["looks","data","most","learned"] []
 m_q63:mg "read_first" = some (.ref a.f_q63)
 F_q64:ye2 K "read" "read" yex a.D_q64 a.f_q64 a.d_q64
 B1_q64:y9 K a.d_q64 ["looks","data","most","learned"] [.none]
 B2_q64:y9 K a.d_q64 ["looks","data","most","learned"] [.int 1000 a.Dt_q64_0,.none]
 B_q64:y9 K a.d_q64 ["looks","data","most","learned"] []
 m_q64:mg "read" = some (.ref a.f_q64)
 F_q65:Fun K "_law_mixed" "_law_mixed" yd4 a.f_q65 a.d_q65
 B_q65:y9 K a.d_q65 ["_law_script","_law_k"] []
 m_q65:mg "_law_mixed" = some (.ref a.f_q65)
 F_q66:Fun K "_law_looks" "_law_looks" yds a.f_q66 a.d_q66
 B_q66:y9 K a.d_q66 ["_law_cell","_law_most"] []
 m_q66:mg "_law_looks" = some (.ref a.f_q66)
 F_q67:Fun K "_law_text" "_law_text" yev a.f_q67 a.d_q67
 B_q67:y9 K a.d_q67 ["_law_cells","_law_size","_law_way"] []
 m_q67:mg "_law_text" = some (.ref a.f_q67)
 F_q68:Fun K "_law_learned" "_law_learned" ydz a.f_q68 a.d_q68
 B_q68:y9 K a.d_q68 ["_law_script","_law_k","_law_many","_law_most"] []
 m_q68:mg "_law_learned" = some (.ref a.f_q68)
 F_q69:Fun K "_law_bytes" "_law_bytes" yde a.f_q69 a.d_q69
 B_q69:y9 K a.d_q69 ["_law_found"] []
 m_q69:mg "_law_bytes" = some (.ref a.f_q69)
 F_q70:Fun K "_law_spoiled" "_law_spoiled" yes a.f_q70 a.d_q70
 B_q70:y9 K a.d_q70 ["_law_data","_law_way","_law_cell"] []
 m_q70:mg "_law_spoiled" = some (.ref a.f_q70)
 F_q71:Fun K "_law_read" "_law_read" ydh a.f_q71 a.d_q71
 B_q71:y9 K a.d_q71 ["_law_looks_here","_law_data","_law_most","_law_learned_here"] []
 m_q71:mg "_law_read" = some (.ref a.f_q71)
 F_q72:Fun K "_law_first" "_law_first" ydv a.f_q72 a.d_q72
 B_q72:y9 K a.d_q72 ["_law_looks_here","_law_data","_law_most","_law_learned_here"] []
 m_q72:mg "_law_first" = some (.ref a.f_q72)
 F_law:Fun K "law" "law" ydy a.f_law a.d_law
 B_law:y9 K a.d_law ["_law_script"] []
 m_law:mg "law" = some (.ref a.f_law)
 cl_Even:Cls K a.C_Even
 m_Even:mg "Even" = some (.ref a.C_Even)
 k_Even:Mk K a.C_Even a.f_q14
 n_Even_noughts:yt K a.C_Even "noughts"
 n_Even_ones:yt K a.C_Even "ones"
 cl_Quick:Cls K a.C_Quick
 m_Quick:mg "Quick" = some (.ref a.C_Quick)
 k_Quick:Mk K a.C_Quick a.f_q17
 n_Quick_held:yt K a.C_Quick "held"
 cl_Run:Cls K a.C_Run
 m_Run:mg "Run" = some (.ref a.C_Run)
 k_Run:Mk K a.C_Run a.f_q20
 n_Run_last:yt K a.C_Run "last"
 n_Run_length:yt K a.C_Run "length"
 cl_Mx:Cls K a.C_Mx
 m_Mx:mg "Mixer" = some (.ref a.C_Mx)
 k_Mx:Mk K a.C_Mx a.f_q33
 n_Mx_kept:yt K a.C_Mx "kept"
 cl_Book:Cls K a.C_Book
 m_Book:mg "Book" = some (.ref a.C_Book)
 k_Book:Mk K a.C_Book a.f_q31
 n_Book_look:yt K a.C_Book "look"
 n_Book_slots:yt K a.C_Book "slots"
 cl_Span:Cls K a.C_Span
 m_Span:mg "Span" = some (.ref a.C_Span)
 k_Span:Mk K a.C_Span a.f_q45
 n_Span_low:yt K a.C_Span "low"
 n_Span_width:yt K a.C_Span "width"
 n_Span_size:yt K a.C_Span "size"
 cl_Ft:Cls K a.C_Ft
 m_Ft:mg "Foreteller" = some (.ref a.C_Ft)
 k_Ft:Mk K a.C_Ft a.f_q36
 n_Ft_looks:yt K a.C_Ft "looks"
 n_Ft_books:yt K a.C_Ft "books"
 n_Ft_mixer:yt K a.C_Ft "mixer"
 n_Ft_ended:yt K a.C_Ft "ended"
 n_Ft_place:yt K a.C_Ft "place"
 n_Ft_present:yt K a.C_Ft "present"
 cl_Sk:Cls K a.C_Sk
 m_Sk:mg "Seeker" = some (.ref a.C_Sk)
 k_Sk:Mk K a.C_Sk a.f_q50
 n_Sk_data:yt K a.C_Sk "data"
 n_Sk_span:yt K a.C_Sk "span"
 n_Sk_number:yt K a.C_Sk "number"
 n_Sk_reached:yt K a.C_Sk "reached"
 m_NT:mg "NoText" = some (.ref a.C_NT)
 m_NY:mg "NoBytes" = some (.ref a.C_NY)
 m_NoMost:mg "NoMost" = some (.ref a.C_NoMost)
 m_NC:mg "NoChance" = some (.ref a.C_NC)
 m_NB:mg "NoBit" = some (.ref a.C_NB)
 m_NL:mg "NoLooks" = some (.ref a.C_NL)
 m_NP:mg "NoPress" = some (.ref a.C_NP)
 x_NT:yug K a.C_NT
 r_NT:XMk K a.C_NT
 x_NY:yug K a.C_NY
 r_NY:XMk K a.C_NY
 x_NoMost:yug K a.C_NoMost
 r_NoMost:XMk K a.C_NoMost
 x_NC:yug K a.C_NC
 r_NC:XMk K a.C_NC
 x_NB:yug K a.C_NB
 r_NB:XMk K a.C_NB
 x_NL:yug K a.C_NL
 r_NL:XMk K a.C_NL
 x_NP:yug K a.C_NP
 r_NP:XMk K a.C_NP
 em_NT_NP:W.exmOne K (.ref a.C_NT) (.ref a.C_NP) = some false
 em_NY_NP:W.exmOne K (.ref a.C_NY) (.ref a.C_NP) = some false
 em_NoMost_NP:W.exmOne K (.ref a.C_NoMost) (.ref a.C_NP) = some false
 em_NC_NP:W.exmOne K (.ref a.C_NC) (.ref a.C_NP) = some false
 em_NB_NP:W.exmOne K (.ref a.C_NB) (.ref a.C_NP) = some false
 em_NL_NP:W.exmOne K (.ref a.C_NL) (.ref a.C_NP) = some false
 em_NP_NP:W.exmOne K (.ref a.C_NP) (.ref a.C_NP) = some true
 z_isinstance:mg "isinstance" = none
 z_int:mg "int" = none
 z_bool:mg "bool" = none
 z_list:mg "list" = none
 z_all:mg "all" = none
 z_len:mg "len" = none
 z_min:mg "min" = none
 z_max:mg "max" = none
 z_str:mg "str" = none
 z_tuple:mg "tuple" = none
 z_zip:mg "zip" = none
 z_sum:mg "sum" = none
 z_range:mg "range" = none
 c_LEAST:mg "LEAST" = some (.int 32768 a.t_LEAST)
 c_ONE:mg "ONE" = some (.int 16777216 a.t_ONE)
 c_MOST_SIGNS:mg "MOST_SIGNS" = some (.int 1000 a.t_MOST_SIGNS)
 c_MOST_BYTES:mg "MOST_BYTES" = some (.int 12000 a.t_MOST_BYTES)
 c_MOST_COUNTED:mg "MOST_COUNTED" = some (.int 255 a.t_MOST_COUNTED)
 c_FARTHEST:mg "FARTHEST" = some (.int 8 a.t_FARTHEST)
 c_MOST_PLACES:mg "MOST_PLACES" = some (.int 4 a.t_MOST_PLACES)
 c_MOST_LOOKS:mg "MOST_LOOKS" = some (.int 6 a.t_MOST_LOOKS)
 c_NO_SIGN:mg "NO_SIGN" = some (.int 256 a.t_NO_SIGN)
 c_FIRST_WEIGHT:mg "FIRST_WEIGHT" = some (.int 1099511627776 a.t_FIRST_WEIGHT)
 c_OWN_PARTS:mg "OWN_PARTS" = some (.int 31 a.t_OWN_PARTS)
 c_MOST_FIGURES:mg "MOST_FIGURES" = some (.int 48 a.t_MOST_FIGURES)
 c_NODES_END:mg "NODES_END" = some (.int 256 a.t_NODES_END)
 c_FIRST_WIDTH:mg "FIRST_WIDTH" = some (.int 1099511627776 a.t_FIRST_WIDTH)
 c_FIRST_SIZE:mg "FIRST_SIZE" = some (.int 5 a.t_FIRST_SIZE)
 c_LEAST_WIDTH:mg "LEAST_WIDTH" = some (.int 4294967296 a.t_LEAST_WIDTH)
 m_WORTHS:mg "WORTHS" = some (.ref a.W_WORTHS)
 w_WORTHS:∀ H,SqT K H a.W_WORTHS [V.int 128,V.int 64,V.int 32,V.int 16,V.int 8,V.int 4,V.int 2,V.int 1]
 m_KINDS:mg "KINDS" = some (.ref a.W_KINDS)
 w_KINDS:∀ H,SqT K H a.W_KINDS [V.str "even",V.str "quick",V.str "run"]
section
variable {P:Program} {w:World} {K:W.Frag} {mg:Str->Option Value} {base:Heap} {a:Ads}
def xb (v0 v1:V):List (Str × V):=[("noughts",v0),("ones",v1)]
section
variable {H:Hp} {p dx:Addr} {v0 v1 v:V} {P:V->Prop} {R:Prop} {nx:St->Hp->Prop} {σ:St}
theorem yav (T:Txt K mg a) (hp:H p = some (.ins a.C_Even dx (xb v0 v1))) (h:P v0):∃ a' C dx fs v,V.ref p = .ref a'/\H a' = some (.ins C dx fs)/\Cls K C/\yt K C "noughts"/\fs.lookup ("noughts":Str) = some v/\P v:=⟨p,_,dx,_,_,rfl,hp,T.cl_Even,T.n_Even_noughts,ut,h⟩
theorem yat (T:Txt K mg a) (hp:H p = some (.ins a.C_Even dx (xb v0 v1))) (h:vi nx σ (upd H p (.ins a.C_Even dx (xb v v1)))):∃ a' C dx fs,V.ref p = .ref a'/\H a' = some (.ins C dx fs)/\Cls K C/\yt K C "noughts"/\fs.length < 1000/\vi nx σ (upd H a' (.ins C dx (wb "noughts" v fs))):=⟨p,_,dx,xb v0 v1,rfl,hp,T.cl_Even,T.n_Even_noughts,by show 2 < 1000; decide,by rw [show wb "noughts" v (xb v0 v1) = xb v v1 from zb]; exact h⟩
theorem yaw (T:Txt K mg a) (hp:H p = some (.ins a.C_Even dx [])) (h:vi nx σ (upd H p (.ins a.C_Even dx (([("noughts",v)]:List (Str × V)))))):∃ a' C dx fs,V.ref p = .ref a'/\H a' = some (.ins C dx fs)/\Cls K C/\yt K C "noughts"/\fs.length < 1000/\vi nx σ (upd H a' (.ins C dx (wb "noughts" v fs))):=⟨p,_,dx,[],rfl,hp,T.cl_Even,T.n_Even_noughts,by show 0 < 1000; decide,by rw [show wb "noughts" v [] = ([("noughts",v)]:List (Str × V)) from w9]; exact h⟩
theorem ye5 (T:Txt K mg a) (hp:H p = some (.ins a.C_Even dx (xb v0 v1))) (h:P v1):∃ a' C dx fs v,V.ref p = .ref a'/\H a' = some (.ins C dx fs)/\Cls K C/\yt K C "ones"/\fs.lookup ("ones":Str) = some v/\P v:=⟨p,_,dx,_,_,rfl,hp,T.cl_Even,T.n_Even_ones,(y8 (by decide +kernel) ut),h⟩
theorem yfj (T:Txt K mg a) (hp:H p = some (.ins a.C_Even dx (xb v0 v1))) (h:vi nx σ (upd H p (.ins a.C_Even dx (xb v0 v)))):∃ a' C dx fs,V.ref p = .ref a'/\H a' = some (.ins C dx fs)/\Cls K C/\yt K C "ones"/\fs.length < 1000/\vi nx σ (upd H a' (.ins C dx (wb "ones" v fs))):=⟨p,_,dx,xb v0 v1,rfl,hp,T.cl_Even,T.n_Even_ones,by show 2 < 1000; decide,by rw [show wb "ones" v (xb v0 v1) = xb v0 v from (vy (by decide +kernel) zb)]; exact h⟩
theorem ye4 (T:Txt K mg a) (hp:H p = some (.ins a.C_Even dx [("noughts",v0)])) (h:vi nx σ (upd H p (.ins a.C_Even dx (xb v0 v)))):∃ a' C dx fs,V.ref p = .ref a'/\H a' = some (.ins C dx fs)/\Cls K C/\yt K C "ones"/\fs.length < 1000/\vi nx σ (upd H a' (.ins C dx (wb "ones" v fs))):=⟨p,_,dx,[("noughts",v0)],rfl,hp,T.cl_Even,T.n_Even_ones,by show 1 < 1000; decide,by rw [show wb "ones" v [("noughts",v0)] = xb v0 v from (vy (by decide +kernel) w9)]; exact h⟩
theorem ybi:(xb v0 v1).lookup ("chance":Str) = none:=(y8 (by decide +kernel) (y8 (by decide +kernel) xc))
theorem ye7:(xb v0 v1).lookup ("seen":Str) = none:=(y8 (by decide +kernel) (y8 (by decide +kernel) xc))
end
local macro_rules | `(tactic| walk_at "rd1")=>`(tactic| first
 | (with_reducible refine' yav (by assumption) ?rdh ?_; (case rdh=>first | assumption | exact yd))
 | (with_reducible refine' yat (by assumption) ?rdh ?_; (case rdh=>first | assumption | exact yd))
 | (with_reducible refine' yaw (by assumption) ?rdh ?_; (case rdh=>first | assumption | exact yd))
 | (with_reducible refine' ye5 (by assumption) ?rdh ?_; (case rdh=>first | assumption | exact yd))
 | (with_reducible refine' yfj (by assumption) ?rdh ?_; (case rdh=>first | assumption | exact yd))
 | (with_reducible refine' ye4 (by assumption) ?rdh ?_; (case rdh=>first | assumption | exact yd))
 | (with_reducible refine' mt_Even___init__ ?rdh ?_; (case rdh=>first | assumption | exact yd))
 | (with_reducible refine' mt_Even_chance ?rdh ?_; (case rdh=>first | assumption | exact yd))
 | (with_reducible refine' mt_Even_seen ?rdh ?_; (case rdh=>first | assumption | exact yd))
)
def xi (v0:V):List (Str × V):=[("held",v0)]
section
variable {H:Hp} {p dx:Addr} {v0 v:V} {P:V->Prop} {R:Prop} {nx:St->Hp->Prop} {σ:St}
theorem yb1 (T:Txt K mg a) (hp:H p = some (.ins a.C_Quick dx (xi v0))) (h:P v0):∃ a' C dx fs v,V.ref p = .ref a'/\H a' = some (.ins C dx fs)/\Cls K C/\yt K C "held"/\fs.lookup ("held":Str) = some v/\P v:=⟨p,_,dx,_,_,rfl,hp,T.cl_Quick,T.n_Quick_held,ut,h⟩
theorem ycf (T:Txt K mg a) (hp:H p = some (.ins a.C_Quick dx (xi v0))) (h:vi nx σ (upd H p (.ins a.C_Quick dx (xi v)))):∃ a' C dx fs,V.ref p = .ref a'/\H a' = some (.ins C dx fs)/\Cls K C/\yt K C "held"/\fs.length < 1000/\vi nx σ (upd H a' (.ins C dx (wb "held" v fs))):=⟨p,_,dx,xi v0,rfl,hp,T.cl_Quick,T.n_Quick_held,by show 1 < 1000; decide,by rw [show wb "held" v (xi v0) = xi v from zb]; exact h⟩
theorem ych (T:Txt K mg a) (hp:H p = some (.ins a.C_Quick dx [])) (h:vi nx σ (upd H p (.ins a.C_Quick dx (xi v)))):∃ a' C dx fs,V.ref p = .ref a'/\H a' = some (.ins C dx fs)/\Cls K C/\yt K C "held"/\fs.length < 1000/\vi nx σ (upd H a' (.ins C dx (wb "held" v fs))):=⟨p,_,dx,[],rfl,hp,T.cl_Quick,T.n_Quick_held,by show 0 < 1000; decide,by rw [show wb "held" v [] = xi v from w9]; exact h⟩
theorem yau:(xi v0).lookup ("chance":Str) = none:=(y8 (by decide +kernel) xc)
theorem yb7:(xi v0).lookup ("seen":Str) = none:=(y8 (by decide +kernel) xc)
end
local macro_rules | `(tactic| walk_at "rd1")=>`(tactic| first
 | (with_reducible refine' yb1 (by assumption) ?rdh ?_; (case rdh=>first | assumption | exact yd))
 | (with_reducible refine' ycf (by assumption) ?rdh ?_; (case rdh=>first | assumption | exact yd))
 | (with_reducible refine' ych (by assumption) ?rdh ?_; (case rdh=>first | assumption | exact yd))
 | (with_reducible refine' mt_Quick___init__ ?rdh ?_; (case rdh=>first | assumption | exact yd))
 | (with_reducible refine' mt_Quick_chance ?rdh ?_; (case rdh=>first | assumption | exact yd))
 | (with_reducible refine' mt_Quick_seen ?rdh ?_; (case rdh=>first | assumption | exact yd))
)
def uu (v0 v1:V):List (Str × V):=[("last",v0),("length",v1)]
section
variable {H:Hp} {p dx:Addr} {v0 v1 v:V} {P:V->Prop} {R:Prop} {nx:St->Hp->Prop} {σ:St}
theorem yg9 (T:Txt K mg a) (hp:H p = some (.ins a.C_Run dx (uu v0 v1))) (h:P v0):∃ a' C dx fs v,V.ref p = .ref a'/\H a' = some (.ins C dx fs)/\Cls K C/\yt K C "last"/\fs.lookup ("last":Str) = some v/\P v:=⟨p,_,dx,_,_,rfl,hp,T.cl_Run,T.n_Run_last,ut,h⟩
theorem ygl (T:Txt K mg a) (hp:H p = some (.ins a.C_Run dx (uu v0 v1))) (h:vi nx σ (upd H p (.ins a.C_Run dx (uu v v1)))):∃ a' C dx fs,V.ref p = .ref a'/\H a' = some (.ins C dx fs)/\Cls K C/\yt K C "last"/\fs.length < 1000/\vi nx σ (upd H a' (.ins C dx (wb "last" v fs))):=⟨p,_,dx,uu v0 v1,rfl,hp,T.cl_Run,T.n_Run_last,by show 2 < 1000; decide,by rw [show wb "last" v (uu v0 v1) = uu v v1 from zb]; exact h⟩
theorem yg3 (T:Txt K mg a) (hp:H p = some (.ins a.C_Run dx [])) (h:vi nx σ (upd H p (.ins a.C_Run dx (([("last",v)]:List (Str × V)))))):∃ a' C dx fs,V.ref p = .ref a'/\H a' = some (.ins C dx fs)/\Cls K C/\yt K C "last"/\fs.length < 1000/\vi nx σ (upd H a' (.ins C dx (wb "last" v fs))):=⟨p,_,dx,[],rfl,hp,T.cl_Run,T.n_Run_last,by show 0 < 1000; decide,by rw [show wb "last" v [] = ([("last",v)]:List (Str × V)) from w9]; exact h⟩
theorem yb5 (T:Txt K mg a) (hp:H p = some (.ins a.C_Run dx (uu v0 v1))) (h:P v1):∃ a' C dx fs v,V.ref p = .ref a'/\H a' = some (.ins C dx fs)/\Cls K C/\yt K C "length"/\fs.lookup ("length":Str) = some v/\P v:=⟨p,_,dx,_,_,rfl,hp,T.cl_Run,T.n_Run_length,(y8 (by decide +kernel) ut),h⟩
theorem ycj (T:Txt K mg a) (hp:H p = some (.ins a.C_Run dx (uu v0 v1))) (h:vi nx σ (upd H p (.ins a.C_Run dx (uu v0 v)))):∃ a' C dx fs,V.ref p = .ref a'/\H a' = some (.ins C dx fs)/\Cls K C/\yt K C "length"/\fs.length < 1000/\vi nx σ (upd H a' (.ins C dx (wb "length" v fs))):=⟨p,_,dx,uu v0 v1,rfl,hp,T.cl_Run,T.n_Run_length,by show 2 < 1000; decide,by rw [show wb "length" v (uu v0 v1) = uu v0 v from (vy (by decide +kernel) zb)]; exact h⟩
theorem ycd (T:Txt K mg a) (hp:H p = some (.ins a.C_Run dx [("last",v0)])) (h:vi nx σ (upd H p (.ins a.C_Run dx (uu v0 v)))):∃ a' C dx fs,V.ref p = .ref a'/\H a' = some (.ins C dx fs)/\Cls K C/\yt K C "length"/\fs.length < 1000/\vi nx σ (upd H a' (.ins C dx (wb "length" v fs))):=⟨p,_,dx,[("last",v0)],rfl,hp,T.cl_Run,T.n_Run_length,by show 1 < 1000; decide,by rw [show wb "length" v [("last",v0)] = uu v0 v from (vy (by decide +kernel) w9)]; exact h⟩
theorem yb3:(uu v0 v1).lookup ("chance":Str) = none:=(y8 (by decide +kernel) (y8 (by decide +kernel) xc))
theorem ygo:(uu v0 v1).lookup ("seen":Str) = none:=(y8 (by decide +kernel) (y8 (by decide +kernel) xc))
end
local macro_rules | `(tactic| walk_at "rd1")=>`(tactic| first
 | (with_reducible refine' yg9 (by assumption) ?rdh ?_; (case rdh=>first | assumption | exact yd))
 | (with_reducible refine' ygl (by assumption) ?rdh ?_; (case rdh=>first | assumption | exact yd))
 | (with_reducible refine' yg3 (by assumption) ?rdh ?_; (case rdh=>first | assumption | exact yd))
 | (with_reducible refine' yb5 (by assumption) ?rdh ?_; (case rdh=>first | assumption | exact yd))
 | (with_reducible refine' ycj (by assumption) ?rdh ?_; (case rdh=>first | assumption | exact yd))
 | (with_reducible refine' ycd (by assumption) ?rdh ?_; (case rdh=>first | assumption | exact yd))
 | (with_reducible refine' mt_Run___init__ ?rdh ?_; (case rdh=>first | assumption | exact yd))
 | (with_reducible refine' mt_Run_chance ?rdh ?_; (case rdh=>first | assumption | exact yd))
 | (with_reducible refine' mt_Run_seen ?rdh ?_; (case rdh=>first | assumption | exact yd))
)
def ykg (v0:V):List (Str × V):=[("kept",v0)]
section
variable {H:Hp} {p dx:Addr} {v0 v:V} {P:V->Prop} {R:Prop} {nx:St->Hp->Prop} {σ:St}
theorem yjv (T:Txt K mg a) (hp:H p = some (.ins a.C_Mx dx (ykg v0))) (h:P v0):∃ a' C dx fs v,V.ref p = .ref a'/\H a' = some (.ins C dx fs)/\Cls K C/\yt K C "kept"/\fs.lookup ("kept":Str) = some v/\P v:=⟨p,_,dx,_,_,rfl,hp,T.cl_Mx,T.n_Mx_kept,ut,h⟩
theorem ykc (T:Txt K mg a) (hp:H p = some (.ins a.C_Mx dx (ykg v0))) (h:vi nx σ (upd H p (.ins a.C_Mx dx (ykg v)))):∃ a' C dx fs,V.ref p = .ref a'/\H a' = some (.ins C dx fs)/\Cls K C/\yt K C "kept"/\fs.length < 1000/\vi nx σ (upd H a' (.ins C dx (wb "kept" v fs))):=⟨p,_,dx,ykg v0,rfl,hp,T.cl_Mx,T.n_Mx_kept,by show 1 < 1000; decide,by rw [show wb "kept" v (ykg v0) = ykg v from zb]; exact h⟩
theorem yjn (T:Txt K mg a) (hp:H p = some (.ins a.C_Mx dx [])) (h:vi nx σ (upd H p (.ins a.C_Mx dx (ykg v)))):∃ a' C dx fs,V.ref p = .ref a'/\H a' = some (.ins C dx fs)/\Cls K C/\yt K C "kept"/\fs.length < 1000/\vi nx σ (upd H a' (.ins C dx (wb "kept" v fs))):=⟨p,_,dx,[],rfl,hp,T.cl_Mx,T.n_Mx_kept,by show 0 < 1000; decide,by rw [show wb "kept" v [] = ykg v from w9]; exact h⟩
theorem ygw:(ykg v0).lookup ("mixed":Str) = none:=(y8 (by decide +kernel) xc)
theorem yg4 {C:Addr} (hp:H p = some (.ins C dx (ykg v0))) (h:R):∃ a dx fs,V.ref p = .ref a/\H a = some (.ins C dx fs)/\fs.lookup ("mixed":Str) = none/\R:=⟨p,dx,_,rfl,hp,ygw,h⟩
theorem yhf:(ykg v0).lookup ("learn":Str) = none:=(y8 (by decide +kernel) xc)
theorem yg6 {C:Addr} (hp:H p = some (.ins C dx (ykg v0))) (h:R):∃ a dx fs,V.ref p = .ref a/\H a = some (.ins C dx fs)/\fs.lookup ("learn":Str) = none/\R:=⟨p,dx,_,rfl,hp,yhf,h⟩
end
local macro_rules | `(tactic| walk_at "rd1")=>`(tactic| first
 | (with_reducible refine' yjv (by assumption) ?rdh ?_; (case rdh=>first | assumption | exact yd))
 | (with_reducible refine' ykc (by assumption) ?rdh ?_; (case rdh=>first | assumption | exact yd))
 | (with_reducible refine' yjn (by assumption) ?rdh ?_; (case rdh=>first | assumption | exact yd))
 | (with_reducible refine' mt_Mx___init__ ?rdh ?_; (case rdh=>first | assumption | exact yd))
 | (with_reducible refine' yg4 ?rdh ?_; (case rdh=>first | assumption | exact yd))
 | (with_reducible refine' yg6 ?rdh ?_; (case rdh=>first | assumption | exact yd))
)
def u7 (v0 v1:V):List (Str × V):=[("look",v0),("slots",v1)]
section
variable {H:Hp} {p dx:Addr} {v0 v1 v:V} {P:V->Prop} {R:Prop} {nx:St->Hp->Prop} {σ:St}
theorem yfh (T:Txt K mg a) (hp:H p = some (.ins a.C_Book dx (u7 v0 v1))) (h:P v0):∃ a' C dx fs v,V.ref p = .ref a'/\H a' = some (.ins C dx fs)/\Cls K C/\yt K C "look"/\fs.lookup ("look":Str) = some v/\P v:=⟨p,_,dx,_,_,rfl,hp,T.cl_Book,T.n_Book_look,ut,h⟩
theorem yfg (T:Txt K mg a) (hp:H p = some (.ins a.C_Book dx [])) (h:vi nx σ (upd H p (.ins a.C_Book dx (([("look",v)]:List (Str × V)))))):∃ a' C dx fs,V.ref p = .ref a'/\H a' = some (.ins C dx fs)/\Cls K C/\yt K C "look"/\fs.length < 1000/\vi nx σ (upd H a' (.ins C dx (wb "look" v fs))):=⟨p,_,dx,[],rfl,hp,T.cl_Book,T.n_Book_look,by show 0 < 1000; decide,by rw [show wb "look" v [] = ([("look",v)]:List (Str × V)) from w9]; exact h⟩
theorem yb4 (T:Txt K mg a) (hp:H p = some (.ins a.C_Book dx (u7 v0 v1))) (h:P v1):∃ a' C dx fs v,V.ref p = .ref a'/\H a' = some (.ins C dx fs)/\Cls K C/\yt K C "slots"/\fs.lookup ("slots":Str) = some v/\P v:=⟨p,_,dx,_,_,rfl,hp,T.cl_Book,T.n_Book_slots,(y8 (by decide +kernel) ut),h⟩
theorem yb0 (T:Txt K mg a) (hp:H p = some (.ins a.C_Book dx (u7 v0 v1))) (h:vi nx σ (upd H p (.ins a.C_Book dx (u7 v0 v)))):∃ a' C dx fs,V.ref p = .ref a'/\H a' = some (.ins C dx fs)/\Cls K C/\yt K C "slots"/\fs.length < 1000/\vi nx σ (upd H a' (.ins C dx (wb "slots" v fs))):=⟨p,_,dx,u7 v0 v1,rfl,hp,T.cl_Book,T.n_Book_slots,by show 2 < 1000; decide,by rw [show wb "slots" v (u7 v0 v1) = u7 v0 v from (vy (by decide +kernel) zb)]; exact h⟩
theorem ycg (T:Txt K mg a) (hp:H p = some (.ins a.C_Book dx [("look",v0)])) (h:vi nx σ (upd H p (.ins a.C_Book dx (u7 v0 v)))):∃ a' C dx fs,V.ref p = .ref a'/\H a' = some (.ins C dx fs)/\Cls K C/\yt K C "slots"/\fs.length < 1000/\vi nx σ (upd H a' (.ins C dx (wb "slots" v fs))):=⟨p,_,dx,[("look",v0)],rfl,hp,T.cl_Book,T.n_Book_slots,by show 1 < 1000; decide,by rw [show wb "slots" v [("look",v0)] = u7 v0 v from (vy (by decide +kernel) w9)]; exact h⟩
theorem yay:(u7 v0 v1).lookup ("slot_at":Str) = none:=(y8 (by decide +kernel) (y8 (by decide +kernel) xc))
theorem ya0 {C:Addr} (hp:H p = some (.ins C dx (u7 v0 v1))) (h:R):∃ a dx fs,V.ref p = .ref a/\H a = some (.ins C dx fs)/\fs.lookup ("slot_at":Str) = none/\R:=⟨p,dx,_,rfl,hp,yay,h⟩
end
local macro_rules | `(tactic| walk_at "rd1")=>`(tactic| first
 | (with_reducible refine' yfh (by assumption) ?rdh ?_; (case rdh=>first | assumption | exact yd))
 | (with_reducible refine' st_Book_look (by assumption) ?rdh ?_; (case rdh=>first | assumption | exact yd))
 | (with_reducible refine' yfg (by assumption) ?rdh ?_; (case rdh=>first | assumption | exact yd))
 | (with_reducible refine' yb4 (by assumption) ?rdh ?_; (case rdh=>first | assumption | exact yd))
 | (with_reducible refine' yb0 (by assumption) ?rdh ?_; (case rdh=>first | assumption | exact yd))
 | (with_reducible refine' ycg (by assumption) ?rdh ?_; (case rdh=>first | assumption | exact yd))
 | (with_reducible refine' mt_Book___init__ ?rdh ?_; (case rdh=>first | assumption | exact yd))
 | (with_reducible refine' ya0 ?rdh ?_; (case rdh=>first | assumption | exact yd))
)
def xf (v0 v1 v2 v3 v4 v5:V):List (Str × V):=[("looks",v0),("books",v1),("mixer",v2),("ended",v3),("place",v4),("present",v5)]
section
variable {H:Hp} {p dx:Addr} {v0 v1 v2 v3 v4 v5 v:V} {P:V->Prop} {R:Prop} {nx:St->Hp->Prop} {σ:St}
theorem ygm (T:Txt K mg a) (hp:H p = some (.ins a.C_Ft dx [])) (h:vi nx σ (upd H p (.ins a.C_Ft dx (([("looks",v)]:List (Str × V)))))):∃ a' C dx fs,V.ref p = .ref a'/\H a' = some (.ins C dx fs)/\Cls K C/\yt K C "looks"/\fs.length < 1000/\vi nx σ (upd H a' (.ins C dx (wb "looks" v fs))):=⟨p,_,dx,[],rfl,hp,T.cl_Ft,T.n_Ft_looks,by show 0 < 1000; decide,by rw [show wb "looks" v [] = ([("looks",v)]:List (Str × V)) from w9]; exact h⟩
theorem ygq (T:Txt K mg a) (hp:H p = some (.ins a.C_Ft dx (xf v0 v1 v2 v3 v4 v5))) (h:P v1):∃ a' C dx fs v,V.ref p = .ref a'/\H a' = some (.ins C dx fs)/\Cls K C/\yt K C "books"/\fs.lookup ("books":Str) = some v/\P v:=⟨p,_,dx,_,_,rfl,hp,T.cl_Ft,T.n_Ft_books,(y8 (by decide +kernel) ut),h⟩
theorem yg7 (T:Txt K mg a) (hp:H p = some (.ins a.C_Ft dx (xf v0 v1 v2 v3 v4 v5))) (h:vi nx σ (upd H p (.ins a.C_Ft dx (xf v0 v v2 v3 v4 v5)))):∃ a' C dx fs,V.ref p = .ref a'/\H a' = some (.ins C dx fs)/\Cls K C/\yt K C "books"/\fs.length < 1000/\vi nx σ (upd H a' (.ins C dx (wb "books" v fs))):=⟨p,_,dx,xf v0 v1 v2 v3 v4 v5,rfl,hp,T.cl_Ft,T.n_Ft_books,by show 6 < 1000; decide,by rw [show wb "books" v (xf v0 v1 v2 v3 v4 v5) = xf v0 v v2 v3 v4 v5 from (vy (by decide +kernel) zb)]; exact h⟩
theorem ygt (T:Txt K mg a) (hp:H p = some (.ins a.C_Ft dx [("looks",v0)])) (h:vi nx σ (upd H p (.ins a.C_Ft dx (([("looks",v0),("books",v)]:List (Str × V)))))):∃ a' C dx fs,V.ref p = .ref a'/\H a' = some (.ins C dx fs)/\Cls K C/\yt K C "books"/\fs.length < 1000/\vi nx σ (upd H a' (.ins C dx (wb "books" v fs))):=⟨p,_,dx,[("looks",v0)],rfl,hp,T.cl_Ft,T.n_Ft_books,by show 1 < 1000; decide,by rw [show wb "books" v [("looks",v0)] = ([("looks",v0),("books",v)]:List (Str × V)) from (vy (by decide +kernel) w9)]; exact h⟩
theorem ygr (T:Txt K mg a) (hp:H p = some (.ins a.C_Ft dx (xf v0 v1 v2 v3 v4 v5))) (h:P v2):∃ a' C dx fs v,V.ref p = .ref a'/\H a' = some (.ins C dx fs)/\Cls K C/\yt K C "mixer"/\fs.lookup ("mixer":Str) = some v/\P v:=⟨p,_,dx,_,_,rfl,hp,T.cl_Ft,T.n_Ft_mixer,(y8 (by decide +kernel) (y8 (by decide +kernel) ut)),h⟩
theorem ygx (T:Txt K mg a) (hp:H p = some (.ins a.C_Ft dx (xf v0 v1 v2 v3 v4 v5))) (h:vi nx σ (upd H p (.ins a.C_Ft dx (xf v0 v1 v v3 v4 v5)))):∃ a' C dx fs,V.ref p = .ref a'/\H a' = some (.ins C dx fs)/\Cls K C/\yt K C "mixer"/\fs.length < 1000/\vi nx σ (upd H a' (.ins C dx (wb "mixer" v fs))):=⟨p,_,dx,xf v0 v1 v2 v3 v4 v5,rfl,hp,T.cl_Ft,T.n_Ft_mixer,by show 6 < 1000; decide,by rw [show wb "mixer" v (xf v0 v1 v2 v3 v4 v5) = xf v0 v1 v v3 v4 v5 from (vy (by decide +kernel) (vy (by decide +kernel) zb))]; exact h⟩
theorem ygs (T:Txt K mg a) (hp:H p = some (.ins a.C_Ft dx [("looks",v0),("books",v1)])) (h:vi nx σ (upd H p (.ins a.C_Ft dx (([("looks",v0),("books",v1),("mixer",v)]:List (Str × V)))))):∃ a' C dx fs,V.ref p = .ref a'/\H a' = some (.ins C dx fs)/\Cls K C/\yt K C "mixer"/\fs.length < 1000/\vi nx σ (upd H a' (.ins C dx (wb "mixer" v fs))):=⟨p,_,dx,[("looks",v0),("books",v1)],rfl,hp,T.cl_Ft,T.n_Ft_mixer,by show 2 < 1000; decide,by rw [show wb "mixer" v [("looks",v0),("books",v1)] = ([("looks",v0),("books",v1),("mixer",v)]:List (Str × V)) from (vy (by decide +kernel) (vy (by decide +kernel) w9))]; exact h⟩
theorem yhb (T:Txt K mg a) (hp:H p = some (.ins a.C_Ft dx (xf v0 v1 v2 v3 v4 v5))) (h:P v3):∃ a' C dx fs v,V.ref p = .ref a'/\H a' = some (.ins C dx fs)/\Cls K C/\yt K C "ended"/\fs.lookup ("ended":Str) = some v/\P v:=⟨p,_,dx,_,_,rfl,hp,T.cl_Ft,T.n_Ft_ended,(y8 (by decide +kernel) (y8 (by decide +kernel) (y8 (by decide +kernel) ut))),h⟩
theorem yg0 (T:Txt K mg a) (hp:H p = some (.ins a.C_Ft dx (xf v0 v1 v2 v3 v4 v5))) (h:vi nx σ (upd H p (.ins a.C_Ft dx (xf v0 v1 v2 v v4 v5)))):∃ a' C dx fs,V.ref p = .ref a'/\H a' = some (.ins C dx fs)/\Cls K C/\yt K C "ended"/\fs.length < 1000/\vi nx σ (upd H a' (.ins C dx (wb "ended" v fs))):=⟨p,_,dx,xf v0 v1 v2 v3 v4 v5,rfl,hp,T.cl_Ft,T.n_Ft_ended,by show 6 < 1000; decide,by rw [show wb "ended" v (xf v0 v1 v2 v3 v4 v5) = xf v0 v1 v2 v v4 v5 from (vy (by decide +kernel) (vy (by decide +kernel) (vy (by decide +kernel) zb)))]; exact h⟩
theorem ygp (T:Txt K mg a) (hp:H p = some (.ins a.C_Ft dx [("looks",v0),("books",v1),("mixer",v2)])) (h:vi nx σ (upd H p (.ins a.C_Ft dx (([("looks",v0),("books",v1),("mixer",v2),("ended",v)]:List (Str × V)))))):∃ a' C dx fs,V.ref p = .ref a'/\H a' = some (.ins C dx fs)/\Cls K C/\yt K C "ended"/\fs.length < 1000/\vi nx σ (upd H a' (.ins C dx (wb "ended" v fs))):=⟨p,_,dx,[("looks",v0),("books",v1),("mixer",v2)],rfl,hp,T.cl_Ft,T.n_Ft_ended,by show 3 < 1000; decide,by rw [show wb "ended" v [("looks",v0),("books",v1),("mixer",v2)] = ([("looks",v0),("books",v1),("mixer",v2),("ended",v)]:List (Str × V)) from (vy (by decide +kernel) (vy (by decide +kernel) (vy (by decide +kernel) w9)))]; exact h⟩
theorem ygy (T:Txt K mg a) (hp:H p = some (.ins a.C_Ft dx (xf v0 v1 v2 v3 v4 v5))) (h:P v4):∃ a' C dx fs v,V.ref p = .ref a'/\H a' = some (.ins C dx fs)/\Cls K C/\yt K C "place"/\fs.lookup ("place":Str) = some v/\P v:=⟨p,_,dx,_,_,rfl,hp,T.cl_Ft,T.n_Ft_place,(y8 (by decide +kernel) (y8 (by decide +kernel) (y8 (by decide +kernel) (y8 (by decide +kernel) ut)))),h⟩
theorem yg5 (T:Txt K mg a) (hp:H p = some (.ins a.C_Ft dx (xf v0 v1 v2 v3 v4 v5))) (h:vi nx σ (upd H p (.ins a.C_Ft dx (xf v0 v1 v2 v3 v v5)))):∃ a' C dx fs,V.ref p = .ref a'/\H a' = some (.ins C dx fs)/\Cls K C/\yt K C "place"/\fs.length < 1000/\vi nx σ (upd H a' (.ins C dx (wb "place" v fs))):=⟨p,_,dx,xf v0 v1 v2 v3 v4 v5,rfl,hp,T.cl_Ft,T.n_Ft_place,by show 6 < 1000; decide,by rw [show wb "place" v (xf v0 v1 v2 v3 v4 v5) = xf v0 v1 v2 v3 v v5 from (vy (by decide +kernel) (vy (by decide +kernel) (vy (by decide +kernel) (vy (by decide +kernel) zb))))]; exact h⟩
theorem ygu (T:Txt K mg a) (hp:H p = some (.ins a.C_Ft dx [("looks",v0),("books",v1),("mixer",v2),("ended",v3)])) (h:vi nx σ (upd H p (.ins a.C_Ft dx (([("looks",v0),("books",v1),("mixer",v2),("ended",v3),("place",v)]:List (Str × V)))))):∃ a' C dx fs,V.ref p = .ref a'/\H a' = some (.ins C dx fs)/\Cls K C/\yt K C "place"/\fs.length < 1000/\vi nx σ (upd H a' (.ins C dx (wb "place" v fs))):=⟨p,_,dx,[("looks",v0),("books",v1),("mixer",v2),("ended",v3)],rfl,hp,T.cl_Ft,T.n_Ft_place,by show 4 < 1000; decide,by rw [show wb "place" v [("looks",v0),("books",v1),("mixer",v2),("ended",v3)] = ([("looks",v0),("books",v1),("mixer",v2),("ended",v3),("place",v)]:List (Str × V)) from (vy (by decide +kernel) (vy (by decide +kernel) (vy (by decide +kernel) (vy (by decide +kernel) w9))))]; exact h⟩
theorem ycc (T:Txt K mg a) (hp:H p = some (.ins a.C_Ft dx (xf v0 v1 v2 v3 v4 v5))) (h:P v5):∃ a' C dx fs v,V.ref p = .ref a'/\H a' = some (.ins C dx fs)/\Cls K C/\yt K C "present"/\fs.lookup ("present":Str) = some v/\P v:=⟨p,_,dx,_,_,rfl,hp,T.cl_Ft,T.n_Ft_present,(y8 (by decide +kernel) (y8 (by decide +kernel) (y8 (by decide +kernel) (y8 (by decide +kernel) (y8 (by decide +kernel) ut))))),h⟩
theorem ycl (T:Txt K mg a) (hp:H p = some (.ins a.C_Ft dx (xf v0 v1 v2 v3 v4 v5))) (h:vi nx σ (upd H p (.ins a.C_Ft dx (xf v0 v1 v2 v3 v4 v)))):∃ a' C dx fs,V.ref p = .ref a'/\H a' = some (.ins C dx fs)/\Cls K C/\yt K C "present"/\fs.length < 1000/\vi nx σ (upd H a' (.ins C dx (wb "present" v fs))):=⟨p,_,dx,xf v0 v1 v2 v3 v4 v5,rfl,hp,T.cl_Ft,T.n_Ft_present,by show 6 < 1000; decide,by rw [show wb "present" v (xf v0 v1 v2 v3 v4 v5) = xf v0 v1 v2 v3 v4 v from (vy (by decide +kernel) (vy (by decide +kernel) (vy (by decide +kernel) (vy (by decide +kernel) (vy (by decide +kernel) zb)))))]; exact h⟩
theorem yb6 (T:Txt K mg a) (hp:H p = some (.ins a.C_Ft dx [("looks",v0),("books",v1),("mixer",v2),("ended",v3),("place",v4)])) (h:vi nx σ (upd H p (.ins a.C_Ft dx (xf v0 v1 v2 v3 v4 v)))):∃ a' C dx fs,V.ref p = .ref a'/\H a' = some (.ins C dx fs)/\Cls K C/\yt K C "present"/\fs.length < 1000/\vi nx σ (upd H a' (.ins C dx (wb "present" v fs))):=⟨p,_,dx,[("looks",v0),("books",v1),("mixer",v2),("ended",v3),("place",v4)],rfl,hp,T.cl_Ft,T.n_Ft_present,by show 5 < 1000; decide,by rw [show wb "present" v [("looks",v0),("books",v1),("mixer",v2),("ended",v3),("place",v4)] = xf v0 v1 v2 v3 v4 v from (vy (by decide +kernel) (vy (by decide +kernel) (vy (by decide +kernel) (vy (by decide +kernel) (vy (by decide +kernel) w9)))))]; exact h⟩
theorem yfm:(xf v0 v1 v2 v3 v4 v5).lookup ("arrive":Str) = none:=(y8 (by decide +kernel) (y8 (by decide +kernel) (y8 (by decide +kernel) (y8 (by decide +kernel) (y8 (by decide +kernel) (y8 (by decide +kernel) xc))))))
theorem ye9 {C:Addr} (hp:H p = some (.ins C dx (xf v0 v1 v2 v3 v4 v5))) (h:R):∃ a dx fs,V.ref p = .ref a/\H a = some (.ins C dx fs)/\fs.lookup ("arrive":Str) = none/\R:=⟨p,dx,_,rfl,hp,yfm,h⟩
theorem ycb:(xf v0 v1 v2 v3 v4 v5).lookup ("chances":Str) = none:=(y8 (by decide +kernel) (y8 (by decide +kernel) (y8 (by decide +kernel) (y8 (by decide +kernel) (y8 (by decide +kernel) (y8 (by decide +kernel) xc))))))
theorem yb9 {C:Addr} (hp:H p = some (.ins C dx (xf v0 v1 v2 v3 v4 v5))) (h:R):∃ a dx fs,V.ref p = .ref a/\H a = some (.ins C dx fs)/\fs.lookup ("chances":Str) = none/\R:=⟨p,dx,_,rfl,hp,ycb,h⟩
theorem yfi:(xf v0 v1 v2 v3 v4 v5).lookup ("chance":Str) = none:=(y8 (by decide +kernel) (y8 (by decide +kernel) (y8 (by decide +kernel) (y8 (by decide +kernel) (y8 (by decide +kernel) (y8 (by decide +kernel) xc))))))
theorem yff {C:Addr} (hp:H p = some (.ins C dx (xf v0 v1 v2 v3 v4 v5))) (h:R):∃ a dx fs,V.ref p = .ref a/\H a = some (.ins C dx fs)/\fs.lookup ("chance":Str) = none/\R:=⟨p,dx,_,rfl,hp,yfi,h⟩
theorem ylf:(xf v0 v1 v2 v3 v4 v5).lookup ("see":Str) = none:=(y8 (by decide +kernel) (y8 (by decide +kernel) (y8 (by decide +kernel) (y8 (by decide +kernel) (y8 (by decide +kernel) (y8 (by decide +kernel) xc))))))
theorem ykl {C:Addr} (hp:H p = some (.ins C dx (xf v0 v1 v2 v3 v4 v5))) (h:R):∃ a dx fs,V.ref p = .ref a/\H a = some (.ins C dx fs)/\fs.lookup ("see":Str) = none/\R:=⟨p,dx,_,rfl,hp,ylf,h⟩
theorem yj8:(xf v0 v1 v2 v3 v4 v5).lookup ("step":Str) = none:=(y8 (by decide +kernel) (y8 (by decide +kernel) (y8 (by decide +kernel) (y8 (by decide +kernel) (y8 (by decide +kernel) (y8 (by decide +kernel) xc))))))
theorem ykd {C:Addr} (hp:H p = some (.ins C dx (xf v0 v1 v2 v3 v4 v5))) (h:R):∃ a dx fs,V.ref p = .ref a/\H a = some (.ins C dx fs)/\fs.lookup ("step":Str) = none/\R:=⟨p,dx,_,rfl,hp,yj8,h⟩
theorem jh:(xf v0 v1 v2 v3 v4 v5).lookup ("step_in_sign":Str) = none:=(y8 (by decide +kernel) (y8 (by decide +kernel) (y8 (by decide +kernel) (y8 (by decide +kernel) (y8 (by decide +kernel) (y8 (by decide +kernel) xc))))))
theorem jg {C:Addr} (hp:H p = some (.ins C dx (xf v0 v1 v2 v3 v4 v5))) (h:R):∃ a dx fs,V.ref p = .ref a/\H a = some (.ins C dx fs)/\fs.lookup ("step_in_sign":Str) = none/\R:=⟨p,dx,_,rfl,hp,jh,h⟩
end
local macro_rules | `(tactic| walk_at "rd1")=>`(tactic| first
 | (with_reducible refine' rd_Ft_looks (by assumption) ?rdh ?_; (case rdh=>first | assumption | exact yd))
 | (with_reducible refine' st_Ft_looks (by assumption) ?rdh ?_; (case rdh=>first | assumption | exact yd))
 | (with_reducible refine' ygm (by assumption) ?rdh ?_; (case rdh=>first | assumption | exact yd))
 | (with_reducible refine' ygq (by assumption) ?rdh ?_; (case rdh=>first | assumption | exact yd))
 | (with_reducible refine' yg7 (by assumption) ?rdh ?_; (case rdh=>first | assumption | exact yd))
 | (with_reducible refine' ygt (by assumption) ?rdh ?_; (case rdh=>first | assumption | exact yd))
 | (with_reducible refine' ygr (by assumption) ?rdh ?_; (case rdh=>first | assumption | exact yd))
 | (with_reducible refine' ygx (by assumption) ?rdh ?_; (case rdh=>first | assumption | exact yd))
 | (with_reducible refine' ygs (by assumption) ?rdh ?_; (case rdh=>first | assumption | exact yd))
 | (with_reducible refine' yhb (by assumption) ?rdh ?_; (case rdh=>first | assumption | exact yd))
 | (with_reducible refine' yg0 (by assumption) ?rdh ?_; (case rdh=>first | assumption | exact yd))
 | (with_reducible refine' ygp (by assumption) ?rdh ?_; (case rdh=>first | assumption | exact yd))
 | (with_reducible refine' ygy (by assumption) ?rdh ?_; (case rdh=>first | assumption | exact yd))
 | (with_reducible refine' yg5 (by assumption) ?rdh ?_; (case rdh=>first | assumption | exact yd))
 | (with_reducible refine' ygu (by assumption) ?rdh ?_; (case rdh=>first | assumption | exact yd))
 | (with_reducible refine' ycc (by assumption) ?rdh ?_; (case rdh=>first | assumption | exact yd))
 | (with_reducible refine' ycl (by assumption) ?rdh ?_; (case rdh=>first | assumption | exact yd))
 | (with_reducible refine' yb6 (by assumption) ?rdh ?_; (case rdh=>first | assumption | exact yd))
 | (with_reducible refine' mt_Ft___init__ ?rdh ?_; (case rdh=>first | assumption | exact yd))
 | (with_reducible refine' ye9 ?rdh ?_; (case rdh=>first | assumption | exact yd))
 | (with_reducible refine' yb9 ?rdh ?_; (case rdh=>first | assumption | exact yd))
 | (with_reducible refine' yff ?rdh ?_; (case rdh=>first | assumption | exact yd))
 | (with_reducible refine' ykl ?rdh ?_; (case rdh=>first | assumption | exact yd))
 | (with_reducible refine' ykd ?rdh ?_; (case rdh=>first | assumption | exact yd))
 | (with_reducible refine' jg ?rdh ?_; (case rdh=>first | assumption | exact yd))
)
def zq (v0 v1 v2 v3:V):List (Str × V):=[("data",v0),("span",v1),("number",v2),("reached",v3)]
section
variable {H:Hp} {p dx:Addr} {v0 v1 v2 v3 v:V} {P:V->Prop} {R:Prop} {nx:St->Hp->Prop} {σ:St}
theorem yka (T:Txt K mg a) (hp:H p = some (.ins a.C_Sk dx (zq v0 v1 v2 v3))) (h:P v0):∃ a' C dx fs v,V.ref p = .ref a'/\H a' = some (.ins C dx fs)/\Cls K C/\yt K C "data"/\fs.lookup ("data":Str) = some v/\P v:=⟨p,_,dx,_,_,rfl,hp,T.cl_Sk,T.n_Sk_data,ut,h⟩
theorem yj5 (T:Txt K mg a) (hp:H p = some (.ins a.C_Sk dx [])) (h:vi nx σ (upd H p (.ins a.C_Sk dx (([("data",v)]:List (Str × V)))))):∃ a' C dx fs,V.ref p = .ref a'/\H a' = some (.ins C dx fs)/\Cls K C/\yt K C "data"/\fs.length < 1000/\vi nx σ (upd H a' (.ins C dx (wb "data" v fs))):=⟨p,_,dx,[],rfl,hp,T.cl_Sk,T.n_Sk_data,by show 0 < 1000; decide,by rw [show wb "data" v [] = ([("data",v)]:List (Str × V)) from w9]; exact h⟩
theorem yjf (T:Txt K mg a) (hp:H p = some (.ins a.C_Sk dx (zq v0 v1 v2 v3))) (h:P v1):∃ a' C dx fs v,V.ref p = .ref a'/\H a' = some (.ins C dx fs)/\Cls K C/\yt K C "span"/\fs.lookup ("span":Str) = some v/\P v:=⟨p,_,dx,_,_,rfl,hp,T.cl_Sk,T.n_Sk_span,(y8 (by decide +kernel) ut),h⟩
theorem yjg (T:Txt K mg a) (hp:H p = some (.ins a.C_Sk dx (zq v0 v1 v2 v3))) (h:vi nx σ (upd H p (.ins a.C_Sk dx (zq v0 v v2 v3)))):∃ a' C dx fs,V.ref p = .ref a'/\H a' = some (.ins C dx fs)/\Cls K C/\yt K C "span"/\fs.length < 1000/\vi nx σ (upd H a' (.ins C dx (wb "span" v fs))):=⟨p,_,dx,zq v0 v1 v2 v3,rfl,hp,T.cl_Sk,T.n_Sk_span,by show 4 < 1000; decide,by rw [show wb "span" v (zq v0 v1 v2 v3) = zq v0 v v2 v3 from (vy (by decide +kernel) zb)]; exact h⟩
theorem yj2 (T:Txt K mg a) (hp:H p = some (.ins a.C_Sk dx [("data",v0)])) (h:vi nx σ (upd H p (.ins a.C_Sk dx (([("data",v0),("span",v)]:List (Str × V)))))):∃ a' C dx fs,V.ref p = .ref a'/\H a' = some (.ins C dx fs)/\Cls K C/\yt K C "span"/\fs.length < 1000/\vi nx σ (upd H a' (.ins C dx (wb "span" v fs))):=⟨p,_,dx,[("data",v0)],rfl,hp,T.cl_Sk,T.n_Sk_span,by show 1 < 1000; decide,by rw [show wb "span" v [("data",v0)] = ([("data",v0),("span",v)]:List (Str × V)) from (vy (by decide +kernel) w9)]; exact h⟩
theorem yfd (T:Txt K mg a) (hp:H p = some (.ins a.C_Sk dx (zq v0 v1 v2 v3))) (h:P v2):∃ a' C dx fs v,V.ref p = .ref a'/\H a' = some (.ins C dx fs)/\Cls K C/\yt K C "number"/\fs.lookup ("number":Str) = some v/\P v:=⟨p,_,dx,_,_,rfl,hp,T.cl_Sk,T.n_Sk_number,(y8 (by decide +kernel) (y8 (by decide +kernel) ut)),h⟩
theorem yfc (T:Txt K mg a) (hp:H p = some (.ins a.C_Sk dx (zq v0 v1 v2 v3))) (h:vi nx σ (upd H p (.ins a.C_Sk dx (zq v0 v1 v v3)))):∃ a' C dx fs,V.ref p = .ref a'/\H a' = some (.ins C dx fs)/\Cls K C/\yt K C "number"/\fs.length < 1000/\vi nx σ (upd H a' (.ins C dx (wb "number" v fs))):=⟨p,_,dx,zq v0 v1 v2 v3,rfl,hp,T.cl_Sk,T.n_Sk_number,by show 4 < 1000; decide,by rw [show wb "number" v (zq v0 v1 v2 v3) = zq v0 v1 v v3 from (vy (by decide +kernel) (vy (by decide +kernel) zb))]; exact h⟩
theorem yfk (T:Txt K mg a) (hp:H p = some (.ins a.C_Sk dx [("data",v0),("span",v1)])) (h:vi nx σ (upd H p (.ins a.C_Sk dx (([("data",v0),("span",v1),("number",v)]:List (Str × V)))))):∃ a' C dx fs,V.ref p = .ref a'/\H a' = some (.ins C dx fs)/\Cls K C/\yt K C "number"/\fs.length < 1000/\vi nx σ (upd H a' (.ins C dx (wb "number" v fs))):=⟨p,_,dx,[("data",v0),("span",v1)],rfl,hp,T.cl_Sk,T.n_Sk_number,by show 2 < 1000; decide,by rw [show wb "number" v [("data",v0),("span",v1)] = ([("data",v0),("span",v1),("number",v)]:List (Str × V)) from (vy (by decide +kernel) (vy (by decide +kernel) w9))]; exact h⟩
theorem yck (T:Txt K mg a) (hp:H p = some (.ins a.C_Sk dx (zq v0 v1 v2 v3))) (h:P v3):∃ a' C dx fs v,V.ref p = .ref a'/\H a' = some (.ins C dx fs)/\Cls K C/\yt K C "reached"/\fs.lookup ("reached":Str) = some v/\P v:=⟨p,_,dx,_,_,rfl,hp,T.cl_Sk,T.n_Sk_reached,(y8 (by decide +kernel) (y8 (by decide +kernel) (y8 (by decide +kernel) ut))),h⟩
theorem yca (T:Txt K mg a) (hp:H p = some (.ins a.C_Sk dx (zq v0 v1 v2 v3))) (h:vi nx σ (upd H p (.ins a.C_Sk dx (zq v0 v1 v2 v)))):∃ a' C dx fs,V.ref p = .ref a'/\H a' = some (.ins C dx fs)/\Cls K C/\yt K C "reached"/\fs.length < 1000/\vi nx σ (upd H a' (.ins C dx (wb "reached" v fs))):=⟨p,_,dx,zq v0 v1 v2 v3,rfl,hp,T.cl_Sk,T.n_Sk_reached,by show 4 < 1000; decide,by rw [show wb "reached" v (zq v0 v1 v2 v3) = zq v0 v1 v2 v from (vy (by decide +kernel) (vy (by decide +kernel) (vy (by decide +kernel) zb)))]; exact h⟩
theorem yci (T:Txt K mg a) (hp:H p = some (.ins a.C_Sk dx [("data",v0),("span",v1),("number",v2)])) (h:vi nx σ (upd H p (.ins a.C_Sk dx (zq v0 v1 v2 v)))):∃ a' C dx fs,V.ref p = .ref a'/\H a' = some (.ins C dx fs)/\Cls K C/\yt K C "reached"/\fs.length < 1000/\vi nx σ (upd H a' (.ins C dx (wb "reached" v fs))):=⟨p,_,dx,[("data",v0),("span",v1),("number",v2)],rfl,hp,T.cl_Sk,T.n_Sk_reached,by show 3 < 1000; decide,by rw [show wb "reached" v [("data",v0),("span",v1),("number",v2)] = zq v0 v1 v2 v from (vy (by decide +kernel) (vy (by decide +kernel) (vy (by decide +kernel) w9)))]; exact h⟩
theorem yfe:(zq v0 v1 v2 v3).lookup ("follow":Str) = none:=(y8 (by decide +kernel) (y8 (by decide +kernel) (y8 (by decide +kernel) (y8 (by decide +kernel) xc))))
theorem yfl {C:Addr} (hp:H p = some (.ins C dx (zq v0 v1 v2 v3))) (h:R):∃ a dx fs,V.ref p = .ref a/\H a = some (.ins C dx fs)/\fs.lookup ("follow":Str) = none/\R:=⟨p,dx,_,rfl,hp,yfe,h⟩
theorem yb2:(zq v0 v1 v2 v3).lookup ("byte_at":Str) = none:=(y8 (by decide +kernel) (y8 (by decide +kernel) (y8 (by decide +kernel) (y8 (by decide +kernel) xc))))
theorem ycm {C:Addr} (hp:H p = some (.ins C dx (zq v0 v1 v2 v3))) (h:R):∃ a dx fs,V.ref p = .ref a/\H a = some (.ins C dx fs)/\fs.lookup ("byte_at":Str) = none/\R:=⟨p,dx,_,rfl,hp,yb2,h⟩
theorem ykt:(zq v0 v1 v2 v3).lookup ("bit":Str) = none:=(y8 (by decide +kernel) (y8 (by decide +kernel) (y8 (by decide +kernel) (y8 (by decide +kernel) xc))))
theorem yk9 {C:Addr} (hp:H p = some (.ins C dx (zq v0 v1 v2 v3))) (h:R):∃ a dx fs,V.ref p = .ref a/\H a = some (.ins C dx fs)/\fs.lookup ("bit":Str) = none/\R:=⟨p,dx,_,rfl,hp,ykt,h⟩
theorem yjq:(zq v0 v1 v2 v3).lookup ("told":Str) = none:=(y8 (by decide +kernel) (y8 (by decide +kernel) (y8 (by decide +kernel) (y8 (by decide +kernel) xc))))
theorem ykb {C:Addr} (hp:H p = some (.ins C dx (zq v0 v1 v2 v3))) (h:R):∃ a dx fs,V.ref p = .ref a/\H a = some (.ins C dx fs)/\fs.lookup ("told":Str) = none/\R:=⟨p,dx,_,rfl,hp,yjq,h⟩
end
local macro_rules | `(tactic| walk_at "rd1")=>`(tactic| first
 | (with_reducible refine' yka (by assumption) ?rdh ?_; (case rdh=>first | assumption | exact yd))
 | (with_reducible refine' st_Sk_data (by assumption) ?rdh ?_; (case rdh=>first | assumption | exact yd))
 | (with_reducible refine' yj5 (by assumption) ?rdh ?_; (case rdh=>first | assumption | exact yd))
 | (with_reducible refine' yjf (by assumption) ?rdh ?_; (case rdh=>first | assumption | exact yd))
 | (with_reducible refine' yjg (by assumption) ?rdh ?_; (case rdh=>first | assumption | exact yd))
 | (with_reducible refine' yj2 (by assumption) ?rdh ?_; (case rdh=>first | assumption | exact yd))
 | (with_reducible refine' yfd (by assumption) ?rdh ?_; (case rdh=>first | assumption | exact yd))
 | (with_reducible refine' yfc (by assumption) ?rdh ?_; (case rdh=>first | assumption | exact yd))
 | (with_reducible refine' yfk (by assumption) ?rdh ?_; (case rdh=>first | assumption | exact yd))
 | (with_reducible refine' yck (by assumption) ?rdh ?_; (case rdh=>first | assumption | exact yd))
 | (with_reducible refine' yca (by assumption) ?rdh ?_; (case rdh=>first | assumption | exact yd))
 | (with_reducible refine' yci (by assumption) ?rdh ?_; (case rdh=>first | assumption | exact yd))
 | (with_reducible refine' mt_Sk___init__ ?rdh ?_; (case rdh=>first | assumption | exact yd))
 | (with_reducible refine' yfl ?rdh ?_; (case rdh=>first | assumption | exact yd))
 | (with_reducible refine' ycm ?rdh ?_; (case rdh=>first | assumption | exact yd))
 | (with_reducible refine' yk9 ?rdh ?_; (case rdh=>first | assumption | exact yd))
 | (with_reducible refine' ykb ?rdh ?_; (case rdh=>first | assumption | exact yd))
)
open SpanMath
def But (p:Addr) (H H':Hp):Prop:=∀ b o,H b = some o->b ≠ p->H' b = some o
theorem But.refl {p:Addr} {H:Hp}:But p H H:=fun _ _ h _=>h
theorem But.of {p:Addr} {H H':Hp} (s:vm H H'):But p H H':=fun b o h _=>s b o h
theorem But.trans {p:Addr} {H H1 H2:Hp} (x:But p H H1) (y:But p H1 H2):But p H H2:=fun b o h n=>y b o (x b o h n) n
theorem But.upd {p:Addr} {H:Hp} {o:HO}:But p H (L2.upd H p o):=fun b u h n=>by rw [yu n]; exact h
theorem But.lst {p l C dx:Addr} {fs:List (Str × V)} {H H':Hp} {xs:List V} (e:But p H H') (hp:H p = some (.ins C dx fs)) (h:H l = some (.lst xs)):H' l = some (.lst xs):=e _ _ h (xw h hp (by intro z; cases z))
theorem uk {x:V} (h:jx x = true):∃ i,x = .int i:=by
 cases x with
 | int i=>exact ⟨i,rfl⟩
 | _=>cases h
def yam:V->Bool
 | .int i=>decide (0 <= i) && decide (i <= 1)
 | _=>false
def chV:V->Bool
 | .int i=>decide (32768 <= i) && decide (i <= 16744448)
 | _=>false
def zr (x:Sn):List (Str × V):=[("low",.int x.1),("width",.int x.2.1),("size",.int x.2.2)]
theorem nWL:¬ (("width":Str) = "low"):=by decide +kernel
theorem nLW:¬ (("low":Str) = "width"):=by decide +kernel
theorem nSL:¬ (("size":Str) = "low"):=by decide +kernel
theorem nLS:¬ (("low":Str) = "size"):=by decide +kernel
theorem nSW:¬ (("size":Str) = "width"):=by decide +kernel
theorem nWS:¬ (("width":Str) = "size"):=by decide +kernel
theorem lkL (x:Sn):(zr x).lookup ("low":Str) = some (.int x.1):=ut
theorem lkW (x:Sn):(zr x).lookup ("width":Str) = some (.int x.2.1):=y8 nWL ut
theorem lkS (x:Sn):(zr x).lookup ("size":Str) = some (.int x.2.2):=y8 nSL (y8 nSW ut)
theorem lkN (x:Sn) {m:Str} (h1:¬ m = "low") (h2:¬ m = "width") (h3:¬ m = "size"):(zr x).lookup m = none:=y8 h1 (y8 h2 (y8 h3 xc))
theorem pfL (x:Sn) (v:Int):wb "low" (.int v) (zr x) = zr (v,x.2.1,x.2.2):=zb
theorem pfW (x:Sn) (v:Int):wb "width" (.int v) (zr x) = zr (x.1,v,x.2.2):=vy nLW zb
theorem pfS (x:Sn) (v:Int):wb "size" (.int v) (zr x) = zr (x.1,x.2.1,v):=vy nLS (vy nWS zb)
section
variable {H:Hp} {p dx:Addr} {x:Sn} {P:V->Prop} {nx:St->Hp->Prop} {σ:St} {v:Int}
theorem rdL (T:Txt K mg a) (hp:H p = some (.ins a.C_Span dx (zr x))) (h:P (.int x.1)) :
  ∃ a' C dx fs v,V.ref p = .ref a'/\H a' = some (.ins C dx fs)/\Cls K C/\yt K C "low"/\fs.lookup ("low":Str) = some v/\P v:=⟨p,_,dx,_,_,rfl,hp,T.cl_Span,T.n_Span_low,lkL x,h⟩
theorem rdW (T:Txt K mg a) (hp:H p = some (.ins a.C_Span dx (zr x))) (h:P (.int x.2.1)) :
  ∃ a' C dx fs v,V.ref p = .ref a'/\H a' = some (.ins C dx fs)/\Cls K C/\yt K C "width"/\fs.lookup ("width":Str) = some v/\P v:=⟨p,_,dx,_,_,rfl,hp,T.cl_Span,T.n_Span_width,lkW x,h⟩
theorem rdS (T:Txt K mg a) (hp:H p = some (.ins a.C_Span dx (zr x))) (h:P (.int x.2.2)) :
  ∃ a' C dx fs v,V.ref p = .ref a'/\H a' = some (.ins C dx fs)/\Cls K C/\yt K C "size"/\fs.lookup ("size":Str) = some v/\P v:=⟨p,_,dx,_,_,rfl,hp,T.cl_Span,T.n_Span_size,lkS x,h⟩
theorem vb0 (T:Txt K mg a) (hp:H p = some (.ins a.C_Span dx (zr x))) (h:vi nx σ (upd H p (.ins a.C_Span dx (zr (v,x.2.1,x.2.2))))) :
  ∃ a' C dx fs,V.ref p = .ref a'/\H a' = some (.ins C dx fs)/\Cls K C/\yt K C "low"/\fs.length < 1000/\vi nx σ (upd H a' (.ins C dx (wb "low" (.int v) fs))):=⟨p,_,dx,zr x,rfl,hp,T.cl_Span,T.n_Span_low,by show 3 < 1000; decide,by rw [pfL]; exact h⟩
theorem vcd (T:Txt K mg a) (hp:H p = some (.ins a.C_Span dx (zr x))) (h:vi nx σ (upd H p (.ins a.C_Span dx (zr (x.1,v,x.2.2))))) :
  ∃ a' C dx fs,V.ref p = .ref a'/\H a' = some (.ins C dx fs)/\Cls K C/\yt K C "width"/\fs.length < 1000/\vi nx σ (upd H a' (.ins C dx (wb "width" (.int v) fs))):=⟨p,_,dx,zr x,rfl,hp,T.cl_Span,T.n_Span_width,by show 3 < 1000; decide,by rw [pfW]; exact h⟩
theorem vbz (T:Txt K mg a) (hp:H p = some (.ins a.C_Span dx (zr x))) (h:vi nx σ (upd H p (.ins a.C_Span dx (zr (x.1,x.2.1,v))))) :
  ∃ a' C dx fs,V.ref p = .ref a'/\H a' = some (.ins C dx fs)/\Cls K C/\yt K C "size"/\fs.length < 1000/\vi nx σ (upd H a' (.ins C dx (wb "size" (.int v) fs))):=⟨p,_,dx,zr x,rfl,hp,T.cl_Span,T.n_Span_size,by show 3 < 1000; decide,by rw [pfS]; exact h⟩
end
local macro_rules | `(tactic| walk_at "rd1")=>`(tactic| first
 | (with_reducible refine' rdL (by assumption) ?rdh ?_; (case rdh=>first | assumption | exact yd))
 | (with_reducible refine' rdW (by assumption) ?rdh ?_; (case rdh=>first | assumption | exact yd))
 | (with_reducible refine' rdS (by assumption) ?rdh ?_; (case rdh=>first | assumption | exact yd))
 | (with_reducible refine' vb0 (by assumption) ?rdh ?_; (case rdh=>first | assumption | exact yd))
 | (with_reducible refine' vcd (by assumption) ?rdh ?_; (case rdh=>first | assumption | exact yd))
 | (with_reducible refine' vbz (by assumption) ?rdh ?_; (case rdh=>first | assumption | exact yd)))
inductive Slt where
 | ev (n o:Int)
 | qk (h:Int)
 | rn (l n:Int)
def Slt.ok:Slt->Prop
 | .ev n o=>0 <= n/\0 <= o/\n + o <= 255
 | .qk h=>32768 <= h/\h <= 16744448
 | .rn l n=>0 <= l/\l <= 1/\0 <= n/\n <= 255
def yaj (n:Int):Int:=(2 * n + 1) * 16777216 / (2 * n + 2)
def Slt.due:Slt->Int
 | .ev n o=>(2 * o + 1) * 16777216 / (2 * (n + o) + 2)
 | .qk h=>h
 | .rn l n=>if l = 1 then yaj n else 16777216 - yaj n
def yhu (n o:Int):Slt:=if 255 < n + o then .ev ((n + 1) / 2) ((o + 1) / 2) else .ev n o
def yiq (m:Int):Int:=if 16744448 < (if 32768 > m then 32768 else m) then 16744448 else (if 32768 > m then 32768 else m)
def Slt.see:Slt->Int->Slt
 | .ev n o,b=>if b = 1 then yhu n (o + 1) else yhu (n + 1) o
 | .qk h,b=>.qk (yiq (if b = 1 then h + (16777216 - h) / 16 else h - h / 16))
 | .rn l n,b=>if b = l then .rn l (if 255 < n + 1 then 255 else n + 1) else .rn b 1
def oS (a:Ads) (dx:Addr):Slt->HO
 | .ev n o=>.ins a.C_Even dx (xb (.int n) (.int o))
 | .qk h=>.ins a.C_Quick dx (xi (.int h))
 | .rn l n=>.ins a.C_Run dx (uu (.int l) (.int n))
theorem yh6 {n o:Int} (h1:0 <= n) (h2:0 <= o) (h3:n + o <= 256):(yhu n o).ok:=by
 unfold yhu
 split
 ·exact ⟨by omega,by omega,by omega⟩
 ·exact ⟨h1,h2,by omega⟩
theorem yk8 (m:Int):32768 <= yiq m/\yiq m <= 16744448:=by
 unfold yiq
 split <;> split <;> omega
theorem Slt.see_ok {s:Slt} {b:Int} (h:s.ok) (b0:0 <= b) (b1:b <= 1):(s.see b).ok:=by
 cases s with
 | ev n o =>
  obtain ⟨h1,h2,h3⟩:=h
  unfold Slt.see
  dsimp only
  split
  ·exact yh6 h1 (by omega) (by omega)
  ·exact yh6 (by omega) h2 (by omega)
 | qk h0=>exact yk8 _
 | rn l n =>
  obtain ⟨h1,h2,h3,h4⟩:=h
  unfold Slt.see
  dsimp only
  split
  ·refine ⟨h1,h2,?_,?_⟩ <;> split <;> omega
  ·exact ⟨b0,b1,by decide,by decide⟩
def kdS:Fin 3->Str
 | 0=>"even"
 | 1=>"quick"
 | 2=>"run"
def kd0:Fin 3->Slt
 | 0=>.ev 0 0
 | 1=>.qk 8388608
 | 2=>.rn 1 0
theorem yq7 (k:Fin 3):(kd0 k).ok:=by
 match k with
 | 0=>exact ⟨by decide,by decide,by decide⟩
 | 1=>exact ⟨by decide,by decide⟩
 | 2=>exact ⟨by decide,by decide,by decide,by decide⟩
theorem yxz {b:Int} (b0:0 <= b) (b1:b <= 1):yam (.int b) = true:=by
 simp only [yam,Bool.and_eq_true,decide_eq_true_eq]
 omega
theorem yir {x:V} (h:yam x = true):∃ b:Int,x = .int b/\0 <= b/\b <= 1:=by
 cases x with
 | int i =>
  simp only [yam,Bool.and_eq_true,decide_eq_true_eq] at h
  exact ⟨i,rfl,h.1,h.2⟩
 | _=>cases h
def yco (C:Addr) (F:List (Str × V)):Sp:=fun vs H Q _=>∃ (p dx:Addr),vs = [.ref p]/\H p = some (.ins C dx [])/\∀ H',H' p = some (.ins C dx F)->But p H H'->Q .non H'
def x6 (o:Addr->Slt->HO) (g:Slt->Prop):Sp:=fun vs H Q _=>∃ (p dx:Addr) (s:Slt),vs = [.ref p]/\g s/\s.ok/\H p = some (o dx s)/\Q (.int s.due) H
def zt (K:W.Frag) (o:Addr->Slt->HO) (g:Slt->Prop) (C:Addr):Sp:=fun vs H Q E=>∃ (p dx:Addr) (s:Slt) (x:V) (n:String),vs = [.ref p,x]/\g s/\s.ok/\H p = some (o dx s)/\xz K H x (.type n) /\
 (∀ b:Int,x = .int b->0 <= b->b <= 1->∀ H',H' p = some (o dx (s.see b))->But p H H'->Q .non H')/\(yam x = false->E (.ref C) none H)
def yzj:Slt->Prop
 | .ev _ _=>True
 | _=>False
def yzi:Slt->Prop
 | .qk _=>True
 | _=>False
def yzm:Slt->Prop
 | .rn _ _=>True
 | _=>False
def yjd (bs:List Int):Prop:=∀ b ∈ bs,0 <= b/\b <= 1
theorem xx {n:Nat} (h:n <= 16000000):n <= sizeLine:=Nat.le_trans h (by decide)
theorem v7 {n:Nat} (h:n <= 16000000):n < sizeLine:=Nat.lt_of_le_of_lt h (by decide)
theorem yr5 (ns:List Int) (lo hi:Option Int):∃ ms:List Int,ye0 (ns.map V.int) lo hi = ms.map V.int/\ms.length <= ns.length/\∀ m ∈ ms,m ∈ ns:=by
 refine ⟨(ns.drop (HT.sIx (ns.map V.int).length 0 lo)).take (HT.sIx (ns.map V.int).length (ns.map V.int).length hi - HT.sIx (ns.map V.int).length 0 lo),?_,?_,?_⟩
 ·unfold ye0
  rw [List.map_take,List.map_drop]
 ·rw [List.length_take,List.length_drop]
  omega
 ·intro m hm
  exact List.mem_of_mem_drop (List.mem_of_mem_take hm)
theorem uq {ns:List Int} {i:Nat} {x:V} (h:(ns.map V.int)[i]? = some x):∃ n,x = .int n/\n ∈ ns/\ns[i]? = some n/\i < ns.length:=by
 rw [List.getElem?_map] at h
 cases e:ns[i]? with
 | none=>rw [e] at h; cases h
 | some n =>
  rw [e] at h
  have hi:i < ns.length:=by
   rcases Nat.lt_or_ge i ns.length with q | q
   ·exact q
   ·rw [List.getElem?_eq_none q] at e; cases e
  exact ⟨n,(Option.some.inj h).symm,List.mem_of_getElem? e,rfl,hi⟩
theorem uj {l:List Int} {i:Nat} {q:Int} (h:l[i]? = some q):l.take (i + 1) = l.take i ++ [q]:=by
 rw [List.take_add_one,h]
 rfl
theorem yii {xs ys:List Int} (h1:yjd xs) (h2:yjd ys):yjd (xs ++ ys):=fun b hb=>by
 rcases List.mem_append.mp hb with h | h
 ·exact h1 b h
 ·exact h2 b h
theorem jk (c:Int) (n:Nat):(List.replicate n [V.int c]).flatten = (List.replicate n c).map V.int:=by
 induction n with
 | zero=>rfl
 | succ n ih=>rw [List.replicate_succ,List.flatten_cons,ih,List.replicate_succ]; rfl
def yrv (sg:List Int) (p:Int):Int:=if p <= sg.length then (atI sg (-p)).getD 256 else 256
theorem ytp {α β:Type} (f:α->β) (xs:List α) (i:Int):atI (xs.map f) i = (atI xs i).map f:=by
 unfold atI
 rw [List.length_map]
 cases ixN xs.length i with
 | none=>rfl
 | some j =>
  show (xs.map f)[j]? = (xs[j]?).map f
  rw [List.getElem?_map]
theorem ynx {sg:List Int} {p:Int} (h1:1 <= p) (h2:p <= sg.length):∃ c,atI sg (-p) = some c/\c ∈ sg:=by
 unfold atI ixN
 rw [if_neg (by omega)]
 by_cases h:-(sg.length:Int) <= -p
 ·rw [if_pos (by omega)]
  have hj:((-p + (sg.length:Int)).toNat) < sg.length:=by omega
  exact ⟨_,List.getElem?_eq_getElem hj,List.getElem_mem hj⟩
 ·omega
def Slt.kind:Slt->Fin 3
 | .ev _ _=>0
 | .qk _=>1
 | .rn _ _=>2
theorem yn8 (s:Slt) (b:Int):(s.see b).kind = s.kind:=by
 cases s with
 | ev n o =>
  unfold Slt.see yhu
  dsimp only
  split <;> split <;> rfl
 | qk h=>rfl
 | rn l n =>
  unfold Slt.see
  dsimp only
  split <;> rfl
theorem yoa (k:Fin 3):(kd0 k).kind = k:=by
 match k with
 | 0=>rfl
 | 1=>rfl
 | 2=>rfl
theorem yf6 (a:Ads) (dx:Addr) (s:Slt):∃ C fs,oS a dx s = .ins C dx fs:=by
 cases s <;> exact ⟨_,_,rfl⟩
theorem yi5 {s:Slt} (h:s.ok):32768 <= s.due/\s.due <= 16744448:=by
 cases s with
 | ev n o =>
  obtain ⟨h1,h2,h3⟩:=h
  unfold Slt.due
  dsimp only
  have hd:(0:Int) < 2 * (n + o) + 2:=by omega
  constructor
  ·rw [Int.le_ediv_iff_mul_le hd]
   omega
  ·have:(2 * o + 1) * 16777216 / (2 * (n + o) + 2) < 16744449:=by
    rw [Int.ediv_lt_iff_lt_mul hd]
    omega
   omega
 | qk h0=>exact h
 | rn l n =>
  obtain ⟨h1,h2,h3,h4⟩:=h
  have hd:(0:Int) < 2 * n + 2:=by omega
  have g1:8388608 <= yaj n:=by
   unfold yaj
   rw [Int.le_ediv_iff_mul_le hd]
   omega
  have g2:yaj n < 16744449:=by
   unfold yaj
   rw [Int.ediv_lt_iff_lt_mul hd]
   omega
  unfold Slt.due
  dsimp only
  split <;> omega
theorem ylu {p dx:Addr} {s:Slt} {ta:TE} {σ:St} {H:Hp} {Q:VK} {E1 E2 E3:XK} (hta:∀ Q':VK,Q' (.ref p) H->ta σ H Q') (hp:H p = some (oS a dx s)) (ok:s.ok) (h:Q (.int s.due) H) :
  yue (yht a.C_Even "chance" (x6 (oS a) yzj) [] E1 ta yuc) (yue (yht a.C_Quick "chance" (x6 (oS a) yzi) [] E2 ta yuc) (yht a.C_Run "chance" (x6 (oS a) yzm) [] E3 ta yuc)) σ H Q:=by
 cases s with
 | ev n o=>exact yi7 (yi2 (hta _ ⟨p,dx,_,rfl,hp,ybi,p,dx,.ev n o,rfl,trivial,ok,hp,h⟩))
 | qk h0=>exact ybw (yi7 (yi2 (hta _ ⟨p,dx,_,rfl,hp,yau,p,dx,.qk h0,rfl,trivial,ok,hp,h⟩)))
 | rn l n=>exact ybw (ybw (yi2 (hta _ ⟨p,dx,_,rfl,hp,yb3,p,dx,.rn l n,rfl,trivial,ok,hp,h⟩)))
theorem yr6 {p dx:Addr} {s:Slt} {ta:TE} {t:TA} {σ:St} {H:Hp} {Q:VK} {E1 E2 E3:St->XK} {x:V} {n:String} (hta:∀ Q':VK,Q' (.ref p) H->ta σ H Q') (ht:∀ Q':List V->Hp->Prop,Q' [x] H->t σ H Q') (hp:H p = some (oS a dx s)) (ok:s.ok) (ty:xz K H x (.type n))
  (h:∀ b:Int,x = .int b->0 <= b->b <= 1->∀ H',H' p = some (oS a dx (s.see b))->But p H H'->Q .non H') (h1:yam x = false->E1 σ (.ref a.C_NB) none H) (h2:yam x = false->E2 σ (.ref a.C_NB) none H) (h3:yam x = false->E3 σ (.ref a.C_NB) none H) :
  yue (ygd a.C_Even "seen" (zt K (oS a) yzj a.C_NB) [] E1 ta t) (yue (ygd a.C_Quick "seen" (zt K (oS a) yzi a.C_NB) [] E2 ta t) (ygd a.C_Run "seen" (zt K (oS a) yzm a.C_NB) [] E3 ta t)) σ H Q:=by
 cases s with
 | ev n o=>exact yi7 (yc1 (hta _ ⟨p,dx,_,rfl,hp,ye7,ht _ ⟨p,dx,.ev n o,x,_,rfl,trivial,ok,hp,ty,h,h1⟩⟩))
 | qk h0=>exact ybw (yi7 (yc1 (hta _ ⟨p,dx,_,rfl,hp,yb7,ht _ ⟨p,dx,.qk h0,x,_,rfl,trivial,ok,hp,ty,h,h2⟩⟩)))
 | rn l n=>exact ybw (ybw (yc1 (hta _ ⟨p,dx,_,rfl,hp,ygo,ht _ ⟨p,dx,.rn l n,x,_,rfl,trivial,ok,hp,ty,h,h3⟩⟩)))
theorem yxt {x:Sn} {c b:Int} (h:Ok x):(nar x c b).2.2 <= x.2.2 + 2:=by
 unfold nar ren
 have:=h.z
 (repeat' split) <;> (dsimp only; omega)
abbrev tMx:Nat:=100000
theorem yin {k:Nat} (h:k <= 6):pw k <= 281474976710656:=Int.le_trans (ymi h) (by decide)
theorem yof (xs:List Int) (y:Int):xs.map V.int ++ [V.int y] = (xs ++ [y]).map V.int:=by simp
theorem ytt (xs:List Int):(xs.map V.int).reverse = xs.reverse.map V.int:=by simp
def gvv (c b:Int):Int:=if b = 1 then c else 16777216 - c
theorem yhp {x:V} (h:chV x = true):∃ c,x = .int c/\32768 <= c/\c <= 16744448:=by
 cases x with
 | int i =>
  simp only [chV,Bool.and_eq_true,decide_eq_true_eq] at h
  exact ⟨i,rfl,h.1,h.2⟩
 | _=>cases h
theorem yik {x:V} (h:yam x = true):∃ b,x = .int b/\0 <= b/\b <= 1:=by
 cases x with
 | int i =>
  simp only [yam,Bool.and_eq_true,decide_eq_true_eq] at h
  exact ⟨i,rfl,h.1,h.2⟩
 | _=>cases h
theorem yiw {c:Int} (h:Ch c):chV (.int c) = true:=by
 obtain ⟨h1,h2⟩:=h
 simp only [chV,Bool.and_eq_true,decide_eq_true_eq]
 omega
theorem yhn {b:Int} (h1:0 <= b) (h2:b <= 1):yam (.int b) = true:=by
 simp only [yam,Bool.and_eq_true,decide_eq_true_eq]
 omega
theorem yhs {xs:List V} {i:Int} (h0:0 <= i) (h1:i < xs.length):∃ v,v ∈ xs/\atI xs i = some v:=by
 obtain ⟨j,rfl⟩:∃ j:Nat,i = (j:Int):=⟨i.toNat,by omega⟩
 have hj:j < xs.length:=by omega
 exact ⟨xs[j],List.getElem_mem hj,vz (List.getElem?_eq_getElem hj)⟩
theorem yba {K:W.Frag} {H H':Hp} {v:V} {n:String} (S:vm H H') (t:xz K H v (.type n)):xz K H' v (.type n):=by
 cases t with
 | non=>exact .non
 | bl b=>exact .bl b
 | int i=>exact .int i
 | str x=>exact .str x
 | flt x=>exact .flt x
 | lst e=>exact .lst (S _ _ e)
 | frz e=>exact .frz (S _ _ e)
 | tup e=>exact .tup (S _ _ e)
 | dK e=>exact .dK (S _ _ e)
 | dT e=>exact .dT (S _ _ e)
def sgV:V->Bool
 | .int i=>decide (0 <= i) && decide (i <= 255)
 | _=>false
def Typed (K:W.Frag) (H:Hp) (xs:List V):Prop:=∀ y ∈ xs,∃ k:String,xz K H y (.type k)
theorem Typed.same {K:W.Frag} {H H':Hp} {xs:List V} (t:Law.Typed K H xs) (S:vm H H'):Law.Typed K H' xs:=fun y hy=>let ⟨k,z⟩:=t y hy; ⟨k,yba S z⟩
theorem ybs {K:W.Frag} {H:Hp} (ns:List Int):Typed K H (ns.map V.int):=fun y hy=>by
 obtain ⟨i,_,rfl⟩:=List.mem_map.mp hy
 exact ⟨_,.int i⟩
def Bad (K:W.Frag) (H:Hp) (x:V) (n:String) (m:Int):Prop:=n ≠ "list"\/∃ p xs,x = .ref p/\H p = some (.lst xs)/\Typed K H xs/\xs.length <= 100000/\(decide ((xs.length:Int) <= m) && xs.all sgV) = false
def yzg (K:W.Frag) (H:Hp) (x:V) (xs:List V) (m:Int):Prop:=∃ p,x = .ref p/\H p = some (.lst xs)/\Typed K H xs/\xs.length <= 100000/\(decide ((xs.length:Int) <= m) && xs.all sgV) = true
theorem ysm {K:W.Frag} {H:Hp} {x:V} {n:String} (ty:xz K H x (.type n)):W.kitOne K (.type n) (.type "list") = some (decide (n = "list")):=by
 cases ty <;> rfl
theorem yn3 {n:Nat} (h:n <= 100000):n < sizeLine:=Nat.lt_of_le_of_lt h (by decide)
theorem yh5 {xs:List V} (n:Nat):ye0 xs (some (n:Int)) none = xs.drop n:=by
 unfold ye0
 rw [HT.sIx_nat,HT.sIx_none]
 by_cases h:n <= xs.length
 ·rw [Nat.min_eq_left h,List.take_of_length_le (by rw [List.length_drop]; exact Nat.le_refl _)]
 ·rw [Nat.min_eq_right (by omega),Nat.sub_self,List.take_zero,List.drop_of_length_le (by omega)]
theorem ymc {ns:List Int} (h:∀ i ∈ ns,0 <= i/\i <= 255):(ns.map V.int).all sgV = true:=by
 rw [List.all_map,List.all_eq_true]
 intro i hi
 obtain ⟨h1,h2⟩:=h i hi
 simp [sgV,h1,h2]
def ybn (K:W.Frag) (C:Addr) (m:Int):Sp:=fun vs H Q E=>∃ x n,vs = [x]/\xz K H x (.type n)/\((Bad K H x n m/\∀ H',vm H H'->E (.ref C) none H')\/∃ xs,yzg K H x xs m/\∀ r H',H r = none->H' r = some (.lst xs)->vm H H'->Q (.ref r) H')
def yns (p q:Addr) (H H':Hp):Prop:=∀ b o,H b = some o->b ≠ p->b ≠ q->H' b = some o
theorem But.two {p q:Addr} {H H':Hp} (h:But p H H'):yns p q H H':=fun b o e n _=>h b o e n
theorem But.two' {p q:Addr} {H H':Hp} (h:But q H H'):yns p q H H':=fun b o e _ n=>h b o e n
theorem yns.trans {p q:Addr} {H H1 H2:Hp} (x:yns p q H H1) (y:yns p q H1 H2):yns p q H H2:=fun b o h n m=>y b o (x b o h n m) n m
structure ykj (a:Ads) (H:Hp) (p dx pd ps ds:Addr) (d:List Int) (x:Sn):Prop where
 me:H p = some (.ins a.C_Sk dx (zq (.ref pd) (.ref ps) (.int (rn d (sz x))) (.int x.2.2)))
 dt:H pd = some (.lst (d.map V.int))
 sp:H ps = some (.ins a.C_Span ds (zr x))
 ne:p ≠ ps
theorem ykj.same {a:Ads} {H H':Hp} {p dx pd ps ds:Addr} {d:List Int} {x:Sn} (h:ykj a H p dx pd ps ds d x) (S:vm H H'):ykj a H' p dx pd ps ds d x:=⟨S _ _ h.me,S _ _ h.dt,S _ _ h.sp,h.ne⟩
section
variable {a:Ads} {H H':Hp} {p dx pd ps ds:Addr} {d:List Int} {x:Sn}
theorem ykj.lst (h:ykj a H p dx pd ps ds d x) (B:yns p ps H H') {l:Addr} {xs:List V} (e:H l = some (.lst xs)):H' l = some (.lst xs):=B _ _ e (xw e h.me (by intro z; cases z)) (xw e h.sp (by intro z; cases z))
theorem ykj.tup (h:ykj a H p dx pd ps ds d x) (B:yns p ps H H') {l:Addr} {xs:List V} (e:H l = some (.tup xs)):H' l = some (.tup xs):=B _ _ e (xw e h.me (by intro z; cases z)) (xw e h.sp (by intro z; cases z))
end
theorem yil {K:W.Frag} {H:Hp} {p:Addr} {d:List Int} (h:H p = some (.lst (d.map V.int))) (hb:Byt d) (hz:d.length <= 12000):yzg K H (.ref p) (d.map V.int) 12000 :=
 ⟨p,rfl,h,ybs d,by rw [List.length_map]; omega,by rw [ymc hb,List.length_map,decide_eq_true (by omega)]; rfl⟩
def Sgs (ns:List Int):Prop:=∀ i ∈ ns,0 <= i/\i <= 255
def wth:List Int:=[128,64,32,16,8,4,2,1]
def b8 (s:Int):List Int:=wth.map (fun w=>s / w % 2)
def dec:List Int->List Int
 | []=>[0]
 | s :: r=>(1 :: b8 s) ++ dec r
def nds:Int->List Int->List Int
 | _,[]=>[]
 | n,b :: r=>n :: nds (2 * n + b) r
def ygi:List Int->List Int
 | []=>[]
 | s :: r=>(1 :: b8 s) ++ ygi r
theorem ypm:∀ ns,dec ns = ygi ns ++ [0]
 | []=>rfl
 | s :: r=>by simp [dec,ygi,ypm r]
theorem yfp (s:Int):∀ ns,ygi (ns ++ [s]) = ygi ns ++ (1 :: b8 s)
 | []=>by simp [ygi]
 | t :: r=>by simp [ygi,yfp s r]
theorem yp7 (s:Int):(b8 s).length = 8:=rfl
theorem zy:∀ ns:List Int,(ygi ns).length = 9 * ns.length
 | []=>rfl
 | s :: r=>by
  show ((1 :: b8 s) ++ ygi r).length = 9 * (r.length + 1)
  rw [List.length_append,zy r]
  show 9 + _ = _
  omega
theorem ysf (s:Int):yjd (b8 s):=fun b hb=>by
 obtain ⟨w,_,rfl⟩:=List.mem_map.mp hb
 have h0:0 <= s / w % 2:=Int.emod_nonneg _ (by decide)
 have h1:s / w % 2 < 2:=Int.emod_lt_of_pos _ (by decide)
 exact ⟨h0,by omega⟩
theorem zx:∀ ns,yjd (dec ns)
 | []=>fun b hb=>by rw [List.mem_singleton.mp hb]; decide
 | s :: r=>by
  refine yii (fun b hb=>?_) (zx r)
  rcases List.mem_cons.mp hb with rfl | hb
  ·decide
  ·exact ysf s b hb
theorem yt7 {s:Int} (h0:0 <= s) (h1:s <= 255):128 * (s / 128 % 2) + (64 * (s / 64 % 2) + (32 * (s / 32 % 2) + (16 * (s / 16 % 2) + (8 * (s / 8 % 2) + (4 * (s / 4 % 2) + (2 * (s / 2 % 2) + (1 * (s / 1 % 2) + 0))))))) = s:=by omega
def wV (s:Int):V->V
 | .int w=>.int (s / w % 2)
 | _=>.non
theorem ycs {K:W.Frag} {H:Hp} {p:Addr} {d:List Int} (h:H p = some (.lst (d.map V.int))) (hb:Sgs d) (hz:d.length <= 1000):yzg K H (.ref p) (d.map V.int) 1000 :=
 ⟨p,rfl,h,ybs d,by rw [List.length_map]; omega,by rw [ymc hb,List.length_map,decide_eq_true (by omega)]; rfl⟩
theorem yo5 (xs ys:List Int):xs.map V.int ++ ys.map V.int = (xs ++ ys).map V.int:=by simp
theorem u0 (ns:List Int):(dec ns).length = 9 * ns.length + 1:=by rw [ypm,List.length_append,zy]; rfl
def ye1 (f:List Int->Option Slt) (k:List Int) (s:Slt):List Int->Option Slt:=fun j=>if j = k then some s else f j
def yzl:HO->Bool
 | .ins _ _ _=>true
 | .dT _=>true
 | _=>false
def kI (k:List Int):List Key:=k.map Sum.inl
theorem ywr (k:List Int):(kI k).map kV = k.map V.int:=by
 unfold kI
 rw [List.map_map]
 rfl
theorem yqs {j k:List Int} (h:kI j = kI k):j = k:=by
 unfold kI at h
 induction j generalizing k with
 | nil =>
  cases k with
  | nil=>rfl
  | cons _ _=>cases h
 | cons x r ih =>
  cases k with
  | nil=>cases h
  | cons y s =>
   injection h with h1 h2
   injection h1 with h1
   rw [h1,ih h2]
structure yao (a:Ads) (H:Hp) (p dx lk d:Addr) (kd:Fin 3) (f:List Int->Option Slt) (O:Addr->Prop) (m:Nat):Prop where
 me:H p = some (.ins a.C_Book dx (u7 (.ref lk) (.ref d)))
 own:∀ b,O b->∃ o,H b = some o/\yzl o = true
 np:¬ O p
 dO:O d
 tb:∃ (kvs:List (List Key × V)) (loc:List Int->Addr × Addr),H d = some (.dT kvs)/\kvs.length <= m/\(∀ k,f k = none->yan kvs (kI k) = none) /\
  (∀ k s,f k = some s->yan kvs (kI k) = some (.ref (loc k).1)/\H (loc k).1 = some (oS a (loc k).2 s)/\s.ok/\s.kind = kd/\O (loc k).1)/\(∀ k j s t,f k = some s->f j = some t->(loc k).1 = (loc j).1->k = j)
def ypp (O:Addr->Prop) (H H':Hp):Prop:=∀ b o,H b = some o->¬ O b->H' b = some o
section
variable {a:Ads} {H H':Hp} {p dx lk d:Addr} {kd:Fin 3} {f:List Int->Option Slt} {O:Addr->Prop} {m:Nat}
theorem yao.frame (h:yao a H p dx lk d kd f O m) {O2:Addr->Prop} (B:ypp O2 H H') (dj:∀ b,O b->¬ O2 b) (hp:¬ O2 p):yao a H' p dx lk d kd f O m:=by
 obtain ⟨kvs,loc,h1,h2,h3,h4,h5⟩:=h.tb
 refine ⟨B _ _ h.me hp,fun b hb=>?_,h.np,h.dO,kvs,loc,B _ _ h1 (dj _ h.dO),h2,h3,fun k s hk=>?_,h5⟩
 ·obtain ⟨o,ho,hi⟩:=h.own b hb
  exact ⟨o,B _ _ ho (dj b hb),hi⟩
 ·obtain ⟨q1,q2,q3,q4,q5⟩:=h4 k s hk
  exact ⟨q1,B _ _ q2 (dj _ q5),q3,q4,q5⟩
theorem yao.same (h:yao a H p dx lk d kd f O m) (S:vm H H'):yao a H' p dx lk d kd f O m:=h.frame (O2:=fun _=>False) (fun b o e _=>S b o e) (fun _ _ z=>z) (fun z=>z)
end
open MixI
structure ypw (a:Ads) (p dx l:Addr) (ws:List Int) (H:Hp):Prop where
 o:H p = some (.ins a.C_Mx dx (ykg (.ref l)))
 l:H l = some (.lst (ws.map V.int))
theorem ypw.same {a:Ads} {p dx l:Addr} {ws:List Int} {H H':Hp} (m:ypw a p dx l ws H) (S:vm H H'):ypw a p dx l ws H':=⟨S _ _ m.o,S _ _ m.l⟩
theorem yx5 {k:Nat} {cs:List Int} (h:COk k cs) {c:Int} (hm:c ∈ cs):Ch c:=⟨h.lo c hm,h.hi c hm⟩
theorem yrm {g:Int->Int->Int} {ws cs:List Int} (h:cs.length = ws.length):(List.range (ws.map V.int).length).map (fun i=>V.int (g ((ws[i]?).getD 0) ((cs[i]?).getD 0))) = (List.zipWith g ws cs).map V.int:=by
 rw [List.length_map,<- ylq h,List.map_map]
 rfl
theorem yh3 {H:Hp} {D:Addr} {xs ys:List V} (h:H D = some (.lst xs)) (e:xs = ys):H D = some (.lst ys):=e ▸ h
def yko (K:W.Frag) (a:Ads):Sp:=fun vs H Q _=>∃ (p dx l c:Addr) (ws cs:List Int) (k:Nat),vs = [.ref p,.ref c]/\1 <= k/\k <= 6/\WOk k ws/\COk k cs/\ypw a p dx l ws H/\SqL K H c (cs.map V.int)/\∀ H',vm H H'->Q (.int (yrw ws cs)) H'
def ykq (K:W.Frag) (a:Ads) (C:Addr):Sp:=fun vs H Q E=>∃ (p dx l c:Addr) (ws cs:List Int) (k:Nat) (x:V) (n:String),vs = [.ref p,.ref c,x]/\1 <= k/\k <= 6/\WOk k ws/\COk k cs/\ypw a p dx l ws H/\SqL K H c (cs.map V.int)/\xz K H x (.type n) /\
 (∀ b:Int,x = .int b->0 <= b->b <= 1->∀ l' H',H l' = none->ypw a p dx l' (lrn ws cs b) H'->But p H H'->Q .non H')/\(yam x = false->E (.ref C) none H)
def ypc (a:Ads):Sp:=fun vs H Q _=>∃ (p dx:Addr) (k:Nat),vs = [.ref p,.int k]/\1 <= k/\k <= 6/\H p = some (.ins a.C_Mx dx [])/\∀ l H',H l = none->ypw a p dx l (List.replicate k 1099511627776) H'->But p H H'->Q .non H'
def ynj:V->Bool
 | .str s=>inV (.str s) [V.str "even",V.str "quick",V.str "run"]
 | _=>false
def plV:V->Bool
 | .int i=>decide (1 <= i) && decide (i <= 8)
 | _=>false
def ltV:V->V->Bool
 | .int i,.int j=>decide (i < j)
 | _,_=>false
def vat (xs:List V):Bool:=(List.zipWith ltV xs xs.tail).all id
def zi (xs:List V):Bool:=decide (xs.length <= 4) && xs.all plV && vat xs
def PlB (K:W.Frag) (H:Hp) (x:V) (b:Bool):Prop:=(∃ n,xz K H x (.type n)/\n ≠ "tuple"/\b = false)\/∃ t xs,x = .ref t/\H t = some (.tup xs)/\xs.length <= 1000/\(∀ y ∈ xs,∃ n:String,xz K H y (.type n))/\b = zi xs
def LkB (K:W.Frag) (H:Hp) (x:V) (b:Bool):Prop:=(∃ n,xz K H x (.type n)/\n ≠ "tuple"/\b = false) \/
 ∃ t xs,x = .ref t/\H t = some (.tup xs)/\((xs.length ≠ 2/\b = false)\/∃ y z n,xs = [y,z]/\xz K H y (.type n)/\((ynj y = false/\b = false)\/(ynj y = true/\PlB K H z b)))
theorem PlB.same {K:W.Frag} {H H':Hp} {x:V} {b:Bool} (h:PlB K H x b) (S:vm H H'):PlB K H' x b:=by
 rcases h with ⟨n,t,hn,e⟩ | ⟨t,xs,e,ht,hl,hy,hb⟩
 ·exact .inl ⟨n,yba S t,hn,e⟩
 ·exact .inr ⟨t,xs,e,S _ _ ht,hl,fun y hm=>let ⟨n,z⟩:=hy y hm; ⟨n,yba S z⟩,hb⟩
theorem LkB.same {K:W.Frag} {H H':Hp} {x:V} {b:Bool} (h:LkB K H x b) (S:vm H H'):LkB K H' x b:=by
 rcases h with ⟨n,t,hn,e⟩ | ⟨t,xs,e,ht,h⟩
 ·exact .inl ⟨n,yba S t,hn,e⟩
 ·refine .inr ⟨t,xs,e,S _ _ ht,?_⟩
  rcases h with h | ⟨y,z,n,e2,ty,h⟩
  ·exact .inl h
  ·refine .inr ⟨y,z,n,e2,yba S ty,?_⟩
   rcases h with h | ⟨h1,h2⟩
   ·exact .inl h
   ·exact .inr ⟨h1,h2.same S⟩
theorem yas {K:W.Frag} {H:Hp} {x:V} {n:String} (ty:xz K H x (.type n)):W.kitOne K (.type n) (.type "tuple") = some (decide (n = "tuple")):=by cases ty <;> rfl
theorem yom {K:W.Frag} {H:Hp} {x:V} {n:String} (ty:xz K H x (.type n)):W.kitOne K (.type n) (.type "str") = some (decide (n = "str")):=by cases ty <;> rfl
theorem yic {K:W.Frag} {H:Hp} {x:V} {n:String} (ty:xz K H x (.type n)):W.kitOne K (.type n) (.type "list") = some (decide (n = "list")):=by cases ty <;> rfl
theorem ys2 {xs:List V} {i:Nat} {y:V} (h:xs.tail[i]? = some y):xs[i + 1]? = some y:=by
 cases xs with
 | nil=>simp at h
 | cons x r=>simpa using h
theorem ylo (xs:List V):(List.range xs.tail.length).map (fun i=>V.bl (ltV ((xs[i]?).getD .non) ((xs.tail[i]?).getD .non))) = (List.zipWith ltV xs xs.tail).map V.bl:=by
 apply List.ext_getElem
 ·rw [List.length_map,List.length_range,List.length_map,List.length_zipWith,List.length_tail]; omega
 ·intro i h1 h2
  rw [List.length_map,List.length_range] at h1
  have hx:i < xs.length:=by rw [List.length_tail] at h1; omega
  rw [List.getElem_map,List.getElem_range,List.getElem_map,List.getElem_zipWith,List.getElem?_eq_getElem h1,List.getElem?_eq_getElem hx]
  rfl
theorem ymh {K:W.Frag} {t u D:Addr} {xs:List V} {te:TE} {fr:St} {R:Hp->Prop} {H1:Hp} (hint:∀ y ∈ xs,∃ i:Int,y = .int i) (hl:xs.length <= 1000) (ht:SqT K H1 t xs) (hu:SqT K H1 u xs.tail) (hD:H1 D = none)
  (hte:∀ (i j:Int) (σ':St) (H':Hp) (Q':VK),Q' (.bl (decide (i < j))) H'->te (some (.int i) :: some (.int j) :: σ') H' Q') (hR:∀ H,vm H1 H->H D = some (.lst ((List.zipWith ltV xs xs.tail).map V.bl))->R H) :
  yac (yzf K t u) (yul K 2 (z7 (w5 0) (z7 (w5 1) yp2))) te 2 fr D R H1:=by
 refine yg1 (m:=xs.tail.length) (fun i=>V.bl (ltV ((xs[i]?).getD .non) ((xs.tail[i]?).getD .non))) ht hu (by rw [List.length_tail]; omega) (Nat.le_refl _) (.inr (Nat.le_refl _)) hD (fun i x y H2 tt pre hi hx hy S2 hD2 htt hpre=>?_) (fun H2 S2 hD2=>?_)
 ·obtain ⟨v1,v2,rfl⟩:=ymy hpre
  obtain ⟨c,rfl⟩:=hint x (List.mem_of_getElem? hx)
  obtain ⟨d,rfl⟩:=hint y (List.mem_of_getElem? (ys2 hy))
  have S3:=S2.trans (vn (o:=HO.tup [V.int c,V.int d]) htt)
  have hD3:=zk (o':=HO.tup [V.int c,V.int d]) htt hD2
  have ht3:upd H2 tt (HO.tup [V.int c,V.int d]) tt = some (.tup [V.int c,V.int d]):=yd
  generalize upd H2 tt (HO.tup [V.int c,V.int d]) = H3 at S3 hD3 ht3
  refine yms (SqT.of ht3) rfl ?_
  show z7 (w5 0) (z7 (w5 1) yp2) [V.int c,V.int d] (v1 :: v2 :: fr) H3 _
  walk_at "rd"
  refine ⟨⟨[some (.int c),some (.int d)],rfl,rfl⟩,?_⟩
  refine hte c d fr H3 _ ?_
  refine Mp.doneR hD (v7 (by rw [List.length_tail]; omega)) hi S3 hD3 ?_
  rw [hx,hy]
  rfl
 ·exact hR H2 S2 (by rw [<- ylo]; exact hD2)
theorem yse (xs:List V):ye0 xs (some 1) none = xs.tail:=by
 unfold ye0
 have e:HT.sIx xs.length 0 (some 1) = min 1 xs.length:=by
  have:=HT.sIx_nat xs.length 0 1
  simpa using this
 rw [HT.sIx_none,e]
 cases xs with
 | nil=>rfl
 | cons x r=>simp
theorem ynw {n:Nat} (bs:List Bool) (h:n = bs.length):(List.range n).map (fun i=>V.bl ((bs[i]?).getD false)) = bs.map V.bl:=by
 subst h
 apply List.ext_getElem
 ·rw [List.length_map,List.length_range,List.length_map]
 ·intro i h1 h2
  rw [List.length_map,List.length_range] at h1
  rw [List.getElem_map,List.getElem_range,List.getElem_map,List.getElem?_eq_getElem h1]
  rfl
def va3 (K:W.Frag) (H:Hp) (xs:List V) (bs:List Bool):Prop:=xs.length = bs.length/\∀ (i:Nat) (y:V) (b:Bool),xs[i]? = some y->bs[i]? = some b->LkB K H y b
def LkG (H:Hp) (v:V) (kd:Fin 3) (tp:Addr) (ps:List Int):Prop:=∃ lk,v = .ref lk/\H lk = some (.tup [.str (kdS kd),.ref tp])/\H tp = some (.tup (ps.map V.int))/\zi (ps.map V.int) = true
theorem LkG.same {H H':Hp} {v:V} {kd:Fin 3} {tp:Addr} {ps:List Int} (h:LkG H v kd tp ps) (S:vm H H'):LkG H' v kd tp ps:=by
 obtain ⟨lk,e,h1,h2,h3⟩:=h
 exact ⟨lk,e,S _ _ h1,S _ _ h2,h3⟩
theorem ys4 (kd:Fin 3):ynj (.str (kdS kd)) = true:=by
 match kd with
 | 0=>rfl
 | 1=>rfl
 | 2=>rfl
theorem yjs {xs:List V} (h:zi xs = true):xs.length <= 4:=by
 unfold zi at h
 rw [Bool.and_eq_true,Bool.and_eq_true] at h
 exact of_decide_eq_true h.1.1
theorem LkG.tells {K:W.Frag} {H:Hp} {v:V} {kd:Fin 3} {tp:Addr} {ps:List Int} (h:LkG H v kd tp ps):LkB K H v true:=by
 obtain ⟨lk,e,h1,h2,h3⟩:=h
 have:=yjs h3
 refine .inr ⟨lk,_,e,h1,.inr ⟨_,_,"str",rfl,.str _,.inr ⟨ys4 kd,.inr ⟨tp,_,rfl,h2,by omega,fun y hy=>?_,h3.symm⟩⟩⟩⟩
 obtain ⟨i,_,rfl⟩:=List.mem_map.mp hy
 exact ⟨_,.int i⟩
theorem yrl:∀ {ps:List Int},ps.Pairwise (· < ·)->vat (ps.map V.int) = true
 | [],_=>rfl
 | [_],_=>rfl
 | p :: q :: r,h=>by
  have h1:p < q:=(List.pairwise_cons.mp h).1 q (by simp)
  have ih:=yrl (List.pairwise_cons.mp h).2
  unfold vat at ih ⊢
  simp only [List.map_cons,List.tail_cons,List.zipWith_cons_cons,List.all_cons] at ih ⊢
  rw [show ltV (V.int p) (V.int q) = true from decide_eq_true h1]
  simpa using ih
theorem ylb {ps:List Int} (h1:ps.length <= 4) (h2:∀ p ∈ ps,1 <= p/\p <= 8) (h3:ps.Pairwise (· < ·)):zi (ps.map V.int) = true:=by
 unfold zi
 rw [List.length_map,decide_eq_true h1,yrl h3,Bool.true_and,Bool.and_true,List.all_eq_true]
 intro y hy
 obtain ⟨i,hi,rfl⟩:=List.mem_map.mp hy
 have:=h2 i hi
 show (decide (1 <= i) && decide (i <= 8)) = true
 rw [decide_eq_true this.1,decide_eq_true this.2]
 rfl
def Lks (H:Hp) (xs:List V):Prop:=∀ y ∈ xs,∃ kd tp ps,LkG H y kd tp ps
theorem Lks.bs {K:W.Frag} {H:Hp} {xs:List V} (h:Lks H xs):va3 K H xs (List.replicate xs.length true):=by
 refine ⟨by rw [List.length_replicate],fun i y b h1 h2=>?_⟩
 have hb:b = true:=List.eq_of_mem_replicate (List.mem_of_getElem? h2)
 obtain ⟨kd,tp,ps,z⟩:=h y (List.mem_of_getElem? h1)
 rw [hb]
 exact z.tells
theorem ysk (n:Nat):(List.replicate n true).all id = true:=by simp
def vb3 (K:W.Frag) (H:Hp) (x:V):Prop:=(∃ n,xz K H x (.type n)/\n ≠ "list")\/∃ l xs bs,x = .ref l/\H l = some (.lst xs)/\xs.length <= 1000/\va3 K H xs bs/\¬ (1 <= xs.length/\xs.length <= 6/\bs.all id = true)
theorem LkG.upd {H:Hp} {v:V} {kd:Fin 3} {tp l:Addr} {ps:List Int} {xs ys:List V} (h:LkG H v kd tp ps) (hl:H l = some (.lst xs)):LkG (L2.upd H l (.lst ys)) v kd tp ps:=by
 obtain ⟨lk,e,h1,h2,h3⟩:=h
 exact ⟨lk,e,yp (xw h1 hl (by intro z; cases z)) h1,yp (xw h2 hl (by intro z; cases z)) h2,h3⟩
def upN {α:Type} (g:Nat->α) (n:Nat) (x:α):Nat->α:=fun j=>if j = n then x else g j
theorem wv {α:Type} {g:Nat->α} {n:Nat} {x:α}:upN g n x n = x:=if_pos rfl
theorem wq {α:Type} {g:Nat->α} {n j:Nat} {x:α} (h:j < n):upN g n x j = g j:=if_neg (by omega)
theorem yss (c:Int):∃ kk:Fin 3,atI [V.str "even",V.str "quick",V.str "run"] (c % 3) = some (V.str (kdS kk)):=by
 have h0:0 <= c % 3:=Int.emod_nonneg _ (by decide)
 have h1:c % 3 < 3:=Int.emod_lt_of_pos _ (by decide)
 generalize c % 3 = z at h0 h1
 obtain rfl | rfl | rfl:z = 0\/z = 1\/z = 2:=by omega
 ·exact ⟨0,rfl⟩
 ·exact ⟨1,rfl⟩
 ·exact ⟨2,rfl⟩
def ybg (H:Hp) (n:Nat) (lk:Nat->Addr) (kd:Nat->Fin 3) (tp:Nat->Addr) (ps:Nat->List Int):Prop:=∀ i,i < n->LkG H (.ref (lk i)) (kd i) (tp i) (ps i)
theorem ybg.same {H H':Hp} {n:Nat} {lk:Nat->Addr} {kd:Nat->Fin 3} {tp:Nat->Addr} {ps:Nat->List Int} (h:ybg H n lk kd tp ps) (S:vm H H'):ybg H' n lk kd tp ps:=fun i hi=>(h i hi).same S
structure Sd (K:W.Frag) (H:Hp) (v:V) (d:PyData) (k:Nat):Prop where
 rd:RdV K H v d
 lay:d.canLay0 = true
 dep:d.depth <= k
 eq:PyData.eqv d d = true
structure Sds (K:W.Frag) (H:Hp) (xs:List V) (ds:List PyData) (k:Nat):Prop where
 rd:ykk K H xs ds
 lay:PyData.canLayAll0 ds = true
 dep:PyData.depthAll ds <= k
 eq:PyData.eqvAll ds ds = true
theorem Sd.int {K:W.Frag} {H:Hp} (i:Int) {k:Nat}:Sd K H (.int i) (.int i) k:=⟨.int i,by simp [PyData.canLay0],by simp [PyData.depth],by simp [PyData.eqv]⟩
theorem Sds.nil {K:W.Frag} {H:Hp} {k:Nat}:Sds K H [] [] k:=⟨.nil,rfl,Nat.zero_le _,by simp [PyData.eqvAll]⟩
theorem Sds.cons {K:W.Frag} {H:Hp} {v:V} {d:PyData} {xs:List V} {ds:List PyData} {k:Nat} (h:Sd K H v d k) (r:Sds K H xs ds k):Sds K H (v :: xs) (d :: ds) k:=by
 refine ⟨.cons h.rd r.rd,by simp [PyData.canLayAll0,h.lay,r.lay],?_,by simp [PyData.eqvAll,h.eq,r.eq]⟩
 have h1:=h.dep
 have h2:=r.dep
 simp only [PyData.depthAll]
 omega
theorem Sds.ints {K:W.Frag} {H:Hp} (ns:List Int) {k:Nat}:Sds K H (ns.map V.int) (ns.map PyData.int) k:=⟨jl ns,ja ns,by rw [j9]; exact Nat.zero_le _,by rw [jb,decide_eq_true rfl]⟩
theorem Sd.lst {K:W.Frag} {H:Hp} {p:Addr} {xs:List V} {ds:List PyData} {k:Nat} (h:SqL K H p xs) (r:Sds K H xs ds k):Sd K H (.ref p) (.list ds) (k + 1):=by
 refine ⟨.lst h r.rd,by simp [PyData.canLay0,r.lay],?_,by simp [PyData.eqv,r.eq]⟩
 have h2:=r.dep
 simp only [PyData.depth]
 omega
theorem Sd.tup {K:W.Frag} {H:Hp} {p:Addr} {xs:List V} {ds:List PyData} {k:Nat} (h:SqT K H p xs) (r:Sds K H xs ds k):Sd K H (.ref p) (.tuple ds) (k + 1):=by
 refine ⟨.tup h r.rd,by simp [PyData.canLay0,r.lay],?_,by simp [PyData.eqv,r.eq]⟩
 have h2:=r.dep
 simp only [PyData.depth]
 omega
theorem vag {K:W.Frag} {g:Bool->Bool} {H:Hp} {Q:VK} {x y:V} {d:PyData} {k:Nat} (h1:Sd K H x d k) (h2:Sd K H y d k) (hk:k <= 60) (h:Q (.bl (g true)) H):yzh K g x y H Q:=by
 have hsh:SeqAt.shaped d = true:=by
  unfold SeqAt.shaped
  rw [Bool.and_eq_true]
  exact ⟨h1.lay,decide_eq_true (by have:=h1.dep; omega)⟩
 exact ⟨d,d,h1.rd,h2.rd,hsh,hsh,by rw [h1.eq]; exact h⟩
theorem vac:yn ["thing"] ["thing"] (ya ypq):=⟨rfl,rfl,rfl,by decide +kernel,rfl,by decide +kernel,by decide +kernel⟩
def yha (K:W.Frag):Sp:=fun vs H Q _=>∃ x n,vs = [x]/\xz K H x (.type n)/\Q (.bl (jx x)) H
theorem ynl (T:Txt K mg a):we P w K mg base CX0 1 a.f_q1 a.d_q1 ["thing"] (yha K):=by
 refine T.F_q1.ok vac (fun vs H Q E h=>?_) (fun cdv A outer s H vs Q E hr h=>?_)
 ·obtain ⟨x,n,rfl,_⟩:=h
  rfl
 ·obtain ⟨x,n,rfl,ty,k⟩:=h
  refine ⟨_,(yi (yv (zl (yr vx rfl T.z_isinstance (by decide +kernel) (yb (pv 0) (yb (ur (T:="int") rfl T.z_int (by decide +kernel)) yg (yc rfl)) (yc rfl))) (yal (yuq (yr vx rfl T.z_isinstance (by decide +kernel) (yb (pv 0) (yb (ur (T:="bool") rfl T.z_bool (by decide +kernel)) yg (yc rfl)) (yc rfl)))))))),?_⟩
  try dsimp only [wc]
  refine yo (σ':=[some _]) rfl ?_
  walk_at "rd"
  refine jz ty (ys9 ty) ?_
  walk_at "rd"
  cases hx:yqj x with
  | false =>
   have e:jx x = false:=by
    cases x <;> first | rfl | cases hx
   rw [e] at k
   exact yno k
  | true =>
   have e:jx x = !yl7 x:=by
    cases x <;> first | rfl | cases hx
   rw [e] at k
   refine yps ?_
   walk_at "rd"
   refine jz ty (yn2 ty) ?_
   walk_at "rd"
   exact k
theorem yz6:yn ["thing"] ["thing"] (ya ypr):=⟨rfl,rfl,rfl,by decide +kernel,rfl,by decide +kernel,by decide +kernel⟩
def yky (K:W.Frag):Sp:=fun vs H Q _=>∃ x n,vs = [x]/\xz K H x (.type n)/\Q (.bl (yam x)) H
theorem yzy (T:Txt K mg a):we P w K mg base CX0 2 a.f_q2 a.d_q2 ["thing"] (yky K):=by
 refine T.F_q2.ok yz6 (fun vs H Q E h=>?_) (fun cdv A outer s H vs Q E hr h=>?_)
 ·obtain ⟨x,n,rfl,_⟩:=h
  rfl
 ·obtain ⟨x,n,rfl,ty,k⟩:=h
  refine ⟨_,(yi (yv (zl (yz (ynl T) (hr.mono (by decide)) rfl T.m_q1 T.F_q1.kp T.B_q1 .nil vf (yb (pv 0) yg (yc rfl))) (yal (yap uv uv yj (pv 0) yj))))),?_⟩
  try dsimp only [wc]
  refine yo (σ':=[some _]) rfl ?_
  walk_at "rd"
  refine ⟨x,n,rfl,ty,?_⟩
  walk_at "rd"
  cases hx:jx x with
  | false =>
   have e:yam x = false:=by
    cases x <;> first | rfl | cases hx
   rw [e] at k
   exact yno k
  | true =>
   obtain ⟨i,rfl⟩:=uk hx
   refine yps ?_
   walk_at "rd"
   refine uw (fun h0=>?_) (fun h0=>?_)
   ·walk_at "rd"
    have e:yam (.int i) = decide (i <= 1):=by simp [yam,h0]
    rw [e] at k
    exact k
   ·have e:yam (.int i) = false:=by simp [yam,h0]
    rw [e] at k
    exact k
theorem yz3:yn ["thing"] ["thing"] (ya ypn):=⟨rfl,rfl,rfl,by decide +kernel,rfl,by decide +kernel,by decide +kernel⟩
def ye6 (K:W.Frag):Sp:=fun vs H Q _=>∃ x n,vs = [x]/\xz K H x (.type n)/\Q (.bl (chV x)) H
theorem vao (T:Txt K mg a):we P w K mg base CX0 2 a.f_q3 a.d_q3 ["thing"] (ye6 K):=by
 refine T.F_q3.ok yz3 (fun vs H Q E h=>?_) (fun cdv A outer s H vs Q E hr h=>?_)
 ·obtain ⟨x,n,rfl,_⟩:=h
  rfl
 ·obtain ⟨x,n,rfl,ty,k⟩:=h
  refine ⟨_,(yi (yv (zl (yz (ynl T) (hr.mono (by decide)) rfl T.m_q1 T.F_q1.kp T.B_q1 .nil vf (yb (pv 0) yg (yc rfl))) (yal (yap uv uv (vq rfl T.c_LEAST) (pv 0) (ym ue (vq rfl T.c_ONE) (vq rfl T.c_LEAST))))))),?_⟩
  try dsimp only [wc]
  refine yo (σ':=[some _]) rfl ?_
  walk_at "rd"
  refine ⟨x,n,rfl,ty,?_⟩
  walk_at "rd"
  cases hx:jx x with
  | false =>
   have e:chV x = false:=by
    cases x <;> first | rfl | cases hx
   rw [e] at k
   exact yno k
  | true =>
   obtain ⟨i,rfl⟩:=uk hx
   refine yps ?_
   walk_at "rd"
   refine uw (fun h0=>?_) (fun h0=>?_)
   ·walk_at "rd"
    have e:chV (.int i) = decide (i <= 16777216 - 32768):=by simp [chV,h0]
    rw [e] at k
    exact k
   ·have e:chV (.int i) = false:=by simp [chV,h0]
    rw [e] at k
    exact k
theorem yzp:yn ["thing"] ["thing"] (ya yp1):=⟨rfl,rfl,rfl,by decide +kernel,rfl,by decide +kernel,by decide +kernel⟩
def yjr (K:W.Frag):Sp:=fun vs H Q _=>∃ x n,vs = [x]/\xz K H x (.type n)/\Q (.bl (sgV x)) H
theorem vad (T:Txt K mg a):we P w K mg base CX0 2 a.f_q4 a.d_q4 ["thing"] (yjr K):=by
 refine T.F_q4.ok yzp (fun vs H Q E h=>?_) (fun cdv A outer s H vs Q E hr h=>?_)
 ·obtain ⟨x,n,rfl,_⟩:=h
  rfl
 ·obtain ⟨x,n,rfl,ty,k⟩:=h
  refine ⟨_,(yi (yv (zl (yz (ynl T) (hr.mono (by decide)) rfl T.m_q1 T.F_q1.kp T.B_q1 .nil vf (yb (pv 0) yg (yc rfl))) (yal (yap uv uv yj (pv 0) yj))))),?_⟩
  try dsimp only [wc]
  refine yo (σ':=[some _]) rfl ?_
  walk_at "rd"
  refine ⟨x,n,rfl,ty,?_⟩
  walk_at "rd"
  cases hx:jx x with
  | false =>
   have e:sgV x = false:=by
    cases x <;> first | rfl | cases hx
   rw [e] at k
   exact yno k
  | true =>
   obtain ⟨i,rfl⟩:=uk hx
   refine yps ?_
   walk_at "rd"
   refine uw (fun h0=>?_) (fun h0=>?_)
   ·walk_at "rd"
    have e:sgV (.int i) = decide (i <= 255):=by simp [sgV,h0]
    rw [e] at k
    exact k
   ·have e:sgV (.int i) = false:=by simp [sgV,h0]
    rw [e] at k
    exact k
theorem vap:yn ["thing","most"] ["thing","most"] (ya ypz):=⟨rfl,rfl,rfl,by decide +kernel,rfl,by decide +kernel,by decide +kernel⟩
def yw6 (K:W.Frag):Sp:=fun vs H Q _=>∃ x n m,vs = [x,.int m]/\xz K H x (.type n)/\((Bad K H x n m/\∀ H',vm H H'->Q (.bl false) H')\/∃ xs,yzg K H x xs m/\∀ H',vm H H'->Q (.bl true) H')
theorem yy0 (T:Txt K mg a):we P w K mg base CX0 3 a.f_q5 a.d_q5 ["thing","most"] (yw6 K):=by
 refine T.F_q5.ok vap (fun vs H Q E h=>?_) (fun cdv A outer s H vs Q E hr h=>?_)
 ·obtain ⟨x,n,m,rfl,_⟩:=h
  rfl
 ·obtain ⟨x,n,m,rfl,ty,h⟩:=h
  have key:(n ≠ "list"/\∀ H',vm H H'->Q (.bl false) H')\/∃ p xs,x = .ref p/\H p = some (.lst xs)/\Typed K H xs/\xs.length <= 100000/\∀ H',vm H H'->Q (.bl (decide ((xs.length:Int) <= m) && xs.all sgV)) H':=by
   rcases h with ⟨h | ⟨p,xs,e,hp,t,hz,hb⟩,k⟩ | ⟨xs,⟨p,e,hp,t,hz,hb⟩,k⟩
   ·exact .inl ⟨h,k⟩
   ·exact .inr ⟨p,xs,e,hp,t,hz,fun H' S=>by rw [hb]; exact k H' S⟩
   ·exact .inr ⟨p,xs,e,hp,t,hz,fun H' S=>by rw [hb]; exact k H' S⟩
  refine ⟨_,(yi (yv (zl (yr vx rfl T.z_isinstance (by decide +kernel) (yb (pv 0) (yb (ur (T:="list") rfl T.z_list (by decide +kernel)) yg (yc rfl)) (yc rfl))) (zl (jd uv (yr yw rfl T.z_len (by decide +kernel) (yb (pv 0) yg (yc rfl))) (pv 1) (vg _)) (yal (yr (jo rfl) rfl T.z_all (by decide +kernel) (yb (u4 rfl (wt (pv 0)) (fun C s2 H2 fp=>(yz (vad T) (hr.mono (by decide)) rfl T.m_q4 T.F_q4.kp T.B_q4 .nil vf (yb (pv 0) yg (yc rfl))))) yg (yc rfl)))))))),?_⟩
  try dsimp only [wc]
  refine yo (σ':=[some _,some _]) rfl ?_
  walk_at "rd"
  refine jz ty (ysm ty) ?_
  walk_at "rd"
  rcases key with ⟨hn,k⟩ | ⟨p,xs,rfl,hp,tx,hz,k⟩
  ·refine jy hn ?_
   walk_at "rd"
   exact k _ (vm.refl _)
  ·have hn:n = "list":=by
    cases ty with
    | lst e=>rfl
    | frz e=>rfl
    | tup e=>rw [hp] at e; cases e
    | dK e=>rw [hp] at e; cases e
    | dT e=>rw [hp] at e; cases e
   refine yge hn ?_
   walk_at "rd"
   refine x3 (SqL.of hp) ?_
   walk_at "rd"
   refine uw (fun hm=>?_) (fun hm=>?_)
   ·rw [decide_eq_true hm,Bool.true_and] at k
    walk_at "rd"
    refine ⟨p,rfl,⟨_,SqL.of hp⟩,fun D hD=>?_⟩
    have nD:p ≠ D:=ye hp hD
    refine uo (K:=K) (a:=p) (xs:=xs) (fun i H5=>H5 D = some (.lst (((xs.take i).map sgV).map V.bl))/\vm H H5)
     ⟨yd,vn hD⟩ (fun i H5 _ q=>SqL.of (q.2 _ _ hp)) ?_ ?_
    ·rintro i y H5 hi hlt ⟨hD5,S5⟩
     walk_at "rd"
     obtain ⟨ky,ty5⟩:=tx y (List.mem_of_getElem? hi)
     refine ⟨y,ky,rfl,yba S5 ty5,?_⟩
     refine xu hD5 (by rw [List.length_map,List.length_map,List.length_take]; exact yn3 (by omega)) hlt ⟨yd.trans ?_,fun b o e=>yp (fun z=>?_) (S5 _ _ e)⟩
     ·rw [List.take_succ,hi]
      simp
     ·subst z
      rw [hD] at e
      cases e
    ·rintro H5 ⟨hD5,S5⟩
     walk_at "rd"
     refine ⟨D,_,rfl,SqL.of hD5,?_⟩
     rw [List.take_of_length_le (Nat.le_refl _),List.all_map]
     exact k _ S5
   ·rw [decide_eq_false hm,Bool.false_and] at k
    walk_at "rd"
    exact k _ (vm.refl _)
theorem yzw:yn ["thing"] ["thing"] (ya ypt):=⟨rfl,rfl,rfl,by decide +kernel,rfl,by decide +kernel,by decide +kernel⟩
theorem yph (T:Txt K mg a):we P w K mg base (CXe P w) 4 a.f_q6 a.d_q6 ["thing"] (ybn K a.C_NT 1000):=by
 refine T.F_q6.okE yzw (fun vs H Q E h=>?_) (fun cdv A outer s H vs Q E hr h=>?_)
 ·obtain ⟨x,n,rfl,_⟩:=h
  rfl
 ·obtain ⟨x,n,rfl,ty,h⟩:=h
  refine ⟨_,(yk (wd (xa (xj (yz (yy0 T) (hr.mono (by decide)) rfl T.m_q5 T.F_q5.kp T.B_q5 .nil vf (yb (pv 0) (yb (vq rfl T.c_MOST_SIGNS) yg (yc rfl)) (yc rfl))))) (yi (xp rfl T.m_NT T.r_NT (yb xy yg (yc rfl)))) ve) (yi (yv (x8 xt rfl T.z_list (by decide +kernel) (yb (pv 0) yg (yc rfl)))))),?_⟩
  try dsimp only [wc]
  refine yo (σ':=[some _]) rfl ?_
  walk_at "rd"
  refine ⟨x,n,_,rfl,ty,?_⟩
  rcases h with ⟨hb,k⟩ | ⟨xs,hg,k⟩
  ·refine .inl ⟨hb,fun H1 S1=>?_⟩
   walk_at "rd"
   exact ⟨by walk_at "len",k _ S1⟩
  ·refine .inr ⟨xs,hg,fun H1 S1=>?_⟩
   obtain ⟨p,rfl,hp,_⟩:=hg
   walk_at "rd"
   refine ⟨p,xs,rfl,.inl (SqL.of (S1 _ _ hp)),fun r hr0=>?_⟩
   exact k r _ (S1.free hr0) yd (S1.trans (vn hr0))
theorem vah:yn ["thing"] ["thing"] (ya ypv):=⟨rfl,rfl,rfl,by decide +kernel,rfl,by decide +kernel,by decide +kernel⟩
theorem yy6 (T:Txt K mg a):we P w K mg base (CXe P w) 4 a.f_q7 a.d_q7 ["thing"] (ybn K a.C_NY 12000):=by
 refine T.F_q7.okE vah (fun vs H Q E h=>?_) (fun cdv A outer s H vs Q E hr h=>?_)
 ·obtain ⟨x,n,rfl,_⟩:=h
  rfl
 ·obtain ⟨x,n,rfl,ty,h⟩:=h
  refine ⟨_,(yk (wd (xa (xj (yz (yy0 T) (hr.mono (by decide)) rfl T.m_q5 T.F_q5.kp T.B_q5 .nil vf (yb (pv 0) (yb (vq rfl T.c_MOST_BYTES) yg (yc rfl)) (yc rfl))))) (yi (xp rfl T.m_NY T.r_NY (yb xy yg (yc rfl)))) ve) (yi (yv (x8 xt rfl T.z_list (by decide +kernel) (yb (pv 0) yg (yc rfl)))))),?_⟩
  try dsimp only [wc]
  refine yo (σ':=[some _]) rfl ?_
  walk_at "rd"
  refine ⟨x,n,_,rfl,ty,?_⟩
  rcases h with ⟨hb,k⟩ | ⟨xs,hg,k⟩
  ·refine .inl ⟨hb,fun H1 S1=>?_⟩
   walk_at "rd"
   exact ⟨by walk_at "len",k _ S1⟩
  ·refine .inr ⟨xs,hg,fun H1 S1=>?_⟩
   obtain ⟨p,rfl,hp,_⟩:=hg
   walk_at "rd"
   refine ⟨p,xs,rfl,.inl (SqL.of (S1 _ _ hp)),fun r hr0=>?_⟩
   exact k r _ (S1.free hr0) yd (S1.trans (vn hr0))
theorem vaq:yn ["thing"] ["thing"] (ya ypx):=⟨rfl,rfl,rfl,by decide +kernel,rfl,by decide +kernel,by decide +kernel⟩
def yuh:V->Bool
 | .int i=>decide (0 <= i) && decide (i <= 1000)
 | _=>false
def yo2 (K:W.Frag) (C:Addr):Sp:=fun vs H Q E=>∃ x n,vs = [x]/\xz K H x (.type n)/\(yuh x = true->Q .non H)/\(yuh x = false->E (.ref C) none H)
theorem vaa (T:Txt K mg a):we P w K mg base (CXe P w) 2 a.f_q8 a.d_q8 ["thing"] (yo2 K a.C_NoMost):=by
 refine T.F_q8.okE vaq (fun vs H Q E h=>?_) (fun cdv A outer s H vs Q E hr h=>?_)
 ·obtain ⟨x,n,rfl,_⟩:=h
  rfl
 ·obtain ⟨x,n,rfl,ty,k1,k2⟩:=h
  refine ⟨_,(yi (wd (PW.pt (yaf (xa (xj (yz (ynl T) (hr.mono (by decide)) rfl T.m_q1 T.F_q1.kp T.B_q1 .nil vf (yb (pv 0) yg (yc rfl))))) (ybb (xa (yar uv uv yj (pv 0) (vq rfl T.c_MOST_SIGNS)))))) (yi (xp rfl T.m_NoMost T.r_NoMost (yb xy yg (yc rfl)))) ve)),?_⟩
  try dsimp only [wc]
  refine yo (σ':=[some _]) rfl ?_
  walk_at "rd"
  refine ⟨x,n,rfl,ty,?_⟩
  walk_at "rd"
  cases hx:jx x with
  | false =>
   have e:yuh x = false:=by
    cases x <;> first | rfl | cases hx
   walk_at "rd"
   exact ⟨by walk_at "len",k2 e⟩
  | true =>
   obtain ⟨i,rfl⟩:=uk hx
   walk_at "rd"
   refine uw (fun h0=>?_) (fun h0=>?_)
   ·walk_at "rd"
    refine vbf (fun h1=>?_) (fun h1=>?_)
    ·walk_at "rd"
     exact k1 (by simp [yuh,h0,h1])
    ·walk_at "rd"
     exact ⟨by walk_at "len",k2 (by simp [yuh,h1])⟩
   ·walk_at "rd"
    exact ⟨by walk_at "len",k2 (by simp [yuh,h0])⟩
theorem yz0:yn ["thing"] ["thing"] (ya ypo):=⟨rfl,rfl,rfl,by decide +kernel,rfl,by decide +kernel,by decide +kernel⟩
def yaz (K:W.Frag) (C:Addr):Sp:=fun vs H Q E=>∃ x n,vs = [x]/\xz K H x (.type n)/\(chV x = true->Q .non H)/\(chV x = false->E (.ref C) none H)
theorem yt4 (T:Txt K mg a):we P w K mg base (CXe P w) 3 a.f_q9 a.d_q9 ["thing"] (yaz K a.C_NC):=by
 refine T.F_q9.okE yz0 (fun vs H Q E h=>?_) (fun cdv A outer s H vs Q E hr h=>?_)
 ·obtain ⟨x,n,rfl,_⟩:=h
  rfl
 ·obtain ⟨x,n,rfl,ty,k1,k2⟩:=h
  refine ⟨_,(yi (wd (xa (xj (yz (vao T) (hr.mono (by decide)) rfl T.m_q3 T.F_q3.kp T.B_q3 .nil vf (yb (pv 0) yg (yc rfl))))) (yi (xp rfl T.m_NC T.r_NC (yb xy yg (yc rfl)))) ve)),?_⟩
  try dsimp only [wc]
  refine yo (σ':=[some _]) rfl ?_
  walk_at "rd"
  refine ⟨x,n,rfl,ty,?_⟩
  walk_at "rd"
  cases hx:chV x with
  | false =>
   walk_at "rd"
   exact ⟨by walk_at "len",k2 hx⟩
  | true =>
   walk_at "rd"
   exact k1 hx
theorem ywc:yn ["thing"] ["thing"] (ya ydr):=⟨rfl,rfl,rfl,by decide +kernel,rfl,by decide +kernel,by decide +kernel⟩
def ye8 (K:W.Frag) (C:Addr):Sp:=fun vs H Q E=>∃ x n,vs = [x]/\xz K H x (.type n)/\(yam x = true->Q .non H)/\(yam x = false->E (.ref C) none H)
theorem ybd (T:Txt K mg a):we P w K mg base (CXe P w) 3 a.f_q10 a.d_q10 ["thing"] (ye8 K a.C_NB):=by
 refine T.F_q10.okE ywc (fun vs H Q E h=>?_) (fun cdv A outer s H vs Q E hr h=>?_)
 ·obtain ⟨x,n,rfl,_⟩:=h
  rfl
 ·obtain ⟨x,n,rfl,ty,k1,k2⟩:=h
  refine ⟨_,(yi (wd (xa (xj (yz (yzy T) (hr.mono (by decide)) rfl T.m_q2 T.F_q2.kp T.B_q2 .nil vf (yb (pv 0) yg (yc rfl))))) (yi (xp rfl T.m_NB T.r_NB (yb xy yg (yc rfl)))) ve)),?_⟩
  try dsimp only [wc]
  refine yo (σ':=[some _]) rfl ?_
  walk_at "rd"
  refine ⟨x,n,rfl,ty,?_⟩
  walk_at "rd"
  cases hx:yam x with
  | false =>
   walk_at "rd"
   exact ⟨by walk_at "len",k2 hx⟩
  | true =>
   walk_at "rd"
   exact k1 hx
theorem yvi:yn ["chance","bit"] ["chance","bit"] (ya yd6):=⟨rfl,rfl,rfl,by decide +kernel,rfl,by decide +kernel,by decide +kernel⟩
def yoy (K:W.Frag) (C D:Addr):Sp:=fun vs H Q E=>∃ x n y m,vs = [x,y]/\xz K H x (.type n)/\xz K H y (.type m)/\(chV x = false->E (.ref C) none H)/\(chV x = true->yam y = false->E (.ref D) none H) /\
 (∀ c b,x = .int c->y = .int b->chV x = true->yam y = true->Q (.int (gvv c b)) H)
theorem yx1 (T:Txt K mg a):we P w K mg base (CXe P w) 4 a.f_q11 a.d_q11 ["chance","bit"] (yoy K a.C_NC a.C_NB):=by
 refine T.F_q11.okE yvi (fun vs H Q E h=>?_) (fun cdv A outer s H vs Q E hr h=>?_)
 ·obtain ⟨x,n,y,m,rfl,_⟩:=h
  rfl
 ·obtain ⟨x,n,y,m,rfl,tx,ty,k1,k2,k3⟩:=h
  refine ⟨_,(yk (vj (vv (yt4 T) (hr.mono (by decide)) rfl T.m_q9 T.F_q9.kp T.B_q9 .nil v8 (yb (pv 0) yg (yc rfl)))) (yk (vj (vv (ybd T) (hr.mono (by decide)) rfl T.m_q10 T.F_q10.kp T.B_q10 .nil v8 (yb (pv 1) yg (yc rfl)))) (yi (yv (jr (y7 x4 (pv 1) yj (vg _)) (pv 0) (ym ue (vq rfl T.c_ONE) (pv 0))))))),?_⟩
  try dsimp only [wc]
  refine yo (σ':=[some _,some _]) rfl ?_
  walk_at "rd"
  refine ⟨x,n,rfl,tx,fun hx=>?_,k1⟩
  walk_at "rd"
  refine ⟨y,m,rfl,ty,fun hy=>?_,k2 hx⟩
  obtain ⟨c,rfl,c1,c2⟩:=yhp hx
  obtain ⟨b,rfl,b1,b2⟩:=yik hy
  walk_at "rd"
  have k:=k3 c b rfl rfl hx hy
  unfold gvv at k
  refine uw (fun hb=>?_) (fun hb=>?_)
  ·rw [if_pos hb] at k
   walk_at "rd"
   exact k
  ·rw [if_neg hb] at k
   walk_at "rd"
   exact k
theorem yyk:yn ["sign"] ["sign"] (ya yc8):=⟨rfl,rfl,rfl,by decide +kernel,rfl,by decide +kernel,by decide +kernel⟩
def yke (K:W.Frag):Sp:=fun vs H Q _=>∃ s:Int,vs = [.int s]/\∀ r H',H r = none->H' r = some (.lst ((b8 s).map V.int))->vm H H'->Q (.ref r) H'
theorem yu2 (T:Txt K mg a):we P w K mg base CX0 1 a.f_q12 a.d_q12 ["sign"] (yke K):=by
 refine T.F_q12.ok yyk (fun vs H Q E h=>?_) (fun cdv A outer s H vs Q E hr h=>?_)
 ·obtain ⟨s,rfl,_⟩:=h
  rfl
 ·obtain ⟨s',rfl,k⟩:=h
  refine ⟨_,(yi (yv (uz (js:=[0]) (ys:=["sign"]) rfl (yio (yhg rfl T.m_WORTHS)) (fun C s2 H2 fp=>(ym vt (ym vk (pv 1) (pv 0)) yj)) rfl rfl (hyc:=(all_cons rfl v9)) (hrel:=(all_cons rfl v9))))),?_⟩
  try dsimp only [wc]
  refine yo (σ':=[some _]) rfl ?_
  walk_at "rd"
  refine ⟨a.W_WORTHS,rfl,⟨_,T.w_WORTHS H⟩,fun D hD=>?_⟩
  refine ybt (wV s') (T.w_WORTHS H) hD (fun i y H2 hy S2 hD2=>?_) (fun H2 S2 hD2=>?_)
  ·obtain ⟨w',hw',rfl,hw2⟩:∃ w',0 < w'/\y = V.int w'/\w' <= 128:=by
    have hm:=List.mem_of_getElem? hy
    simp only [List.mem_cons,List.not_mem_nil,or_false] at hm
    rcases hm with rfl | rfl | rfl | rfl | rfl | rfl | rfl | rfl <;> exact ⟨_,by decide,rfl,by decide⟩
   walk_at "rd"
   exact Mp.done hD (by show 8 < sizeLine; decide) hy S2 hD2 rfl
  ·exact k D H2 hD hD2 S2
theorem ymv:yn ["text","bits","sign"] ["text"] (ya yd2):=⟨rfl,rfl,rfl,by decide +kernel,rfl,by decide +kernel,by decide +kernel⟩
def ywj (K:W.Frag):Sp:=fun vs H Q _=>∃ (t:Addr) (ns:List Int),vs = [.ref t]/\H t = some (.lst (ns.map V.int))/\Sgs ns/\ns.length <= 1000/\∀ r H',H r = none->H' r = some (.lst ((dec ns).map V.int))->vm H H'->Q (.ref r) H'
theorem yp6 (T:Txt K mg a):we P w K mg base CX0 5 a.f_q13 a.d_q13 ["text"] (ywj K):=by
 refine T.F_q13.ok ymv (fun vs H Q E h=>?_) (fun cdv A outer s H vs Q E hr h=>?_)
 ·obtain ⟨t,ns,rfl,_⟩:=h
  rfl
 ·obtain ⟨t,ns,rfl,ht,hs,hz,k⟩:=h
  refine ⟨_,(yk (vd (i:=1) ymv.nd rfl (Or.inl rfl) (wx yg)) (yk (z8 PassesOwn.never rfl (wt (vv (yph T) (hr.mono (by decide)) rfl T.m_q6 T.F_q6.kp T.B_q6 .nil w4 (yb (pv 0) yg (yc rfl)))) (w6 (i:=2) ymv.nd rfl (Or.inl rfl)) (yk (vj (yen PySem.F.plainAttrs_list PySem.F.slot_list_append PySem.F.type_list_append wo (pv 1) (yb yj yg (yc rfl)))) (yi (vj (yen PySem.F.plainAttrs_list PySem.F.slot_list_extend PySem.F.type_list_extend ykx (pv 1) (yb (yz (yu2 T) (hr.mono (by decide)) rfl T.m_q12 T.F_q12.kp T.B_q12 .nil vf (yb (pv 2) yg (yc rfl))) yg (yc rfl))))))) (yk (vj (yen PySem.F.plainAttrs_list PySem.F.slot_list_append PySem.F.type_list_append wo (pv 1) (yb yj yg (yc rfl)))) (yi (yv (pv 1)))))),?_⟩
  try dsimp only [wc]
  refine yo (σ':=[some _,none,none]) rfl ?_
  walk_at "rd"
  refine ⟨by walk_at "len",fun r hr0=>?_⟩
  with_reducible first | refine yy hr0 fun H1 S1 hr1=>?_ | refine new_obj hr0 fun H1 S1 hr1=>?_
  walk_at "rd"
  refine ⟨.ref t,_,rfl,.lst (S1 _ _ ht),.inr ⟨ns.map V.int,ycs (S1 _ _ ht) hs hz,fun c H2 hc0 hc2 S2=>?_⟩⟩
  have S12:=S1.trans S2
  refine ⟨c,rfl,⟨_,SqL.of hc2⟩,zu (K:=K) (a:=c) (xs:=ns.map V.int) (fun i σ2 G=>∃ v,σ2 = [some (.ref t),some (.ref r),v]/\G r = some (.lst ((ygi (ns.take i)).map V.int))/\G c = some (.lst (ns.map V.int))/\vm H G)
   ⟨_,rfl,S2 _ _ hr1,hc2,S12⟩ (fun i σ2 G _ ⟨_,_,_,z,_⟩=>SqL.of z) ?_ ?_⟩
  ·rintro i y σ2 G hi ⟨v,rfl,hrG,hcG,SG⟩
   obtain ⟨z,rfl,hzm,hzi,hil⟩:=uq hi
   have hcr:c ≠ r:=fun e=>by rw [e,hr1] at hc0; cases hc0
   have hlen:(List.map V.int (ygi (ns.take i))).length <= 9000:=by rw [List.length_map,zy,List.length_take]; omega
   walk_at "rd"
   refine ybj hrG ?_
   walk_at "rd"
   refine uc hrG (v7 (by omega)) ?_
   have SG1:vm H (upd G r (.lst (List.map V.int (ygi (ns.take i)) ++ [V.int 1]))):=fun b o e=>yp (ye e hr0) (SG b o e)
   have hc1:upd G r (.lst (List.map V.int (ygi (ns.take i)) ++ [V.int 1])) c = some (.lst (ns.map V.int)):=yp hcr hcG
   have hr1':upd G r (.lst (List.map V.int (ygi (ns.take i)) ++ [V.int 1])) r = some (.lst (List.map V.int (ygi (ns.take i) ++ [1]))):=by rw [yd,List.map_append]; rfl
   generalize upd G r (.lst (List.map V.int (ygi (ns.take i)) ++ [V.int 1])) = G1 at SG1 hc1 hr1' ⊢
   walk_at "rd"
   refine ybj hr1' ?_
   walk_at "rd"
   refine ⟨z,rfl,fun q G2 hq0 hq2 T2=>?_⟩
   walk_at "rd"
   have hr2:=T2 _ _ hr1'
   refine ⟨r,q,_,_,rfl,rfl,hr2,hq2,xx (by rw [List.length_map,List.length_map,List.length_append,yp7]; rw [List.length_map] at hlen; show _ + 1 + 8 <= _; omega),?_⟩
   walk_at "rd"
   refine ⟨_,rfl,?_,?_,fun b o e=>yp (ye e hr0) (T2 _ _ (SG1 b o e))⟩
   ·rw [yd,uj hzi,yfp,yo5,List.append_assoc]
    rfl
   ·exact yp hcr (T2 _ _ hc1)
  ·rintro σ2 G ⟨v,rfl,hrG,hcG,SG⟩
   rw [List.length_map,List.take_length] at hrG
   walk_at "rd"
   refine ybj hrG ?_
   walk_at "rd"
   refine uc hrG (v7 (by rw [List.length_map,zy]; omega)) ?_
   walk_at "rd"
   refine k r _ hr0 ?_ fun b o e=>yp (ye e hr0) (SG b o e)
   rw [yd,ypm,List.map_append]
   rfl
theorem yxa:yn ["self"] ["self"] (ya yd1):=⟨rfl,rfl,rfl,by decide +kernel,rfl,by decide +kernel,by decide +kernel⟩
theorem ywt (T:Txt K mg a):we P w K mg base CX0 1 a.f_q14 a.d_q14 ["self"] (yco a.C_Even (xb (.int 0) (.int 0))):=by
 refine T.F_q14.ok yxa (fun vs H Q E h=>?_) (fun cdv A outer s H vs Q E hr h=>?_)
 ·obtain ⟨p,dx,rfl,_⟩:=h
  rfl
 ·obtain ⟨p,dx,rfl,hp,k⟩:=h
  refine ⟨_,(yk (vo (pv 0) yj rfl) (yi (vo (pv 0) yj rfl))),?_⟩
  try dsimp only [wc]
  refine yo (σ':=[some _]) rfl ?_
  walk_at "rd"
  exact k _ yd (But.upd.trans But.upd)
theorem yus:yn ["self"] ["self"] (ya yey):=⟨rfl,rfl,rfl,by decide +kernel,rfl,by decide +kernel,by decide +kernel⟩
theorem yva (T:Txt K mg a):we P w K mg base CX0 1 a.f_q15 a.d_q15 ["self"] (x6 (oS a) yzj):=by
 refine T.F_q15.ok yus (fun vs H Q E h=>?_) (fun cdv A outer s H vs Q E hr h=>?_)
 ·obtain ⟨p,dx,s,rfl,_⟩:=h
  rfl
 ·obtain ⟨p,dx,s',rfl,hg,hs,hp,k⟩:=h
  cases s' with
  | ev n o =>
   obtain ⟨h1,h2,h3⟩:=hs
   have hp:H p = some (.ins a.C_Even dx (xb (.int n) (.int o))):=hp
   refine ⟨_,(yi (yv (ym vk (ym wk (ym vw (ym wk yj (y6 (pv 0) rfl)) yj) (vq rfl T.c_ONE)) (ym vw (ym wk yj (ym vw (y6 (pv 0) rfl) (y6 (pv 0) rfl))) yj)))),?_⟩
   try dsimp only [wc]
   refine yo (σ':=[some _]) rfl ?_
   walk_at "rd"
   exact k
  | qk _=>exact hg.elim
  | rn _ _=>exact hg.elim
theorem yxm:yn ["self","bit"] ["self","bit"] (ya yd5):=⟨rfl,rfl,rfl,by decide +kernel,rfl,by decide +kernel,by decide +kernel⟩
theorem yv7 (T:Txt K mg a):we P w K mg base (CXe P w) 4 a.f_q16 a.d_q16 ["self","bit"] (zt K (oS a) yzj a.C_NB):=by
 refine T.F_q16.okE yxm (fun vs H Q E h=>?_) (fun cdv A outer s H vs Q E hr h=>?_)
 ·obtain ⟨p,dx,s,x,n,rfl,_⟩:=h
  rfl
 ·obtain ⟨p,dx,s',x,nm,rfl,hg,hs,hp,ty,k1,k2⟩:=h
  cases s' with
  | ev n o =>
   obtain ⟨h1,h2,h3⟩:=hs
   have hp:H p = some (.ins a.C_Even dx (xb (.int n) (.int o))):=hp
   refine ⟨_,(yk (vj (vv (ybd T) (hr.mono (by decide)) rfl T.m_q10 T.F_q10.kp T.B_q10 .nil v8 (yb (pv 1) yg (yc rfl)))) (yk (wd (y7 x4 (pv 1) yj (vg _)) (yi (vo (pv 0) (ym vw (y6 (pv 0) rfl) yj) rfl)) (yi (vo (pv 0) (ym vw (y6 (pv 0) rfl) yj) rfl))) (yi (wd (y7 ynk (ym vw (y6 (pv 0) rfl) (y6 (pv 0) rfl)) (vq rfl T.c_MOST_COUNTED) (vg _)) (yk (vo (pv 0) (ym vk (ym vw (y6 (pv 0) rfl) yj) yj) rfl) (yi (vo (pv 0) (ym vk (ym vw (y6 (pv 0) rfl) yj) yj) rfl))) ve)))),?_⟩
   try dsimp only [wc]
   refine yo (σ':=[some _,some _]) rfl ?_
   walk_at "rd"
   refine ⟨x,nm,rfl,ty,fun hx=>?_,k2⟩
   obtain ⟨b,rfl,b0,b1⟩:=yir hx
   have k:=k1 b rfl b0 b1
   unfold Slt.see at k
   dsimp only at k
   walk_at "rd"
   refine uw (fun hb=>?_) (fun hb=>?_)
   ·rw [if_pos hb] at k
    unfold yhu at k
    walk_at "rd"
    refine uw (fun hz=>?_) (fun hz=>?_)
    ·rw [if_pos hz] at k
     walk_at "rd"
     exact k _ yd ((But.upd.trans But.upd).trans But.upd)
    ·rw [if_neg hz] at k
     walk_at "rd"
     exact k _ yd But.upd
   ·rw [if_neg hb] at k
    unfold yhu at k
    walk_at "rd"
    refine uw (fun hz=>?_) (fun hz=>?_)
    ·rw [if_pos hz] at k
     walk_at "rd"
     exact k _ yd ((But.upd.trans But.upd).trans But.upd)
    ·rw [if_neg hz] at k
     walk_at "rd"
     exact k _ yd But.upd
  | qk _=>exact hg.elim
  | rn _ _=>exact hg.elim
theorem yu6:yn ["self"] ["self"] (ya ydq):=⟨rfl,rfl,rfl,by decide +kernel,rfl,by decide +kernel,by decide +kernel⟩
theorem yut (T:Txt K mg a):we P w K mg base CX0 1 a.f_q17 a.d_q17 ["self"] (yco a.C_Quick (xi (.int 8388608))):=by
 refine T.F_q17.ok yu6 (fun vs H Q E h=>?_) (fun cdv A outer s H vs Q E hr h=>?_)
 ·obtain ⟨p,dx,rfl,_⟩:=h
  rfl
 ·obtain ⟨p,dx,rfl,hp,k⟩:=h
  refine ⟨_,(yi (vo (pv 0) (ym vk (vq rfl T.c_ONE) yj) rfl)),?_⟩
  try dsimp only [wc]
  refine yo (σ':=[some _]) rfl ?_
  walk_at "rd"
  exact k _ yd But.upd
theorem yv1:yn ["self"] ["self"] (ya yel):=⟨rfl,rfl,rfl,by decide +kernel,rfl,by decide +kernel,by decide +kernel⟩
theorem ywe (T:Txt K mg a):we P w K mg base CX0 1 a.f_q18 a.d_q18 ["self"] (x6 (oS a) yzi):=by
 refine T.F_q18.ok yv1 (fun vs H Q E h=>?_) (fun cdv A outer s H vs Q E hr h=>?_)
 ·obtain ⟨p,dx,s,rfl,_⟩:=h
  rfl
 ·obtain ⟨p,dx,s',rfl,hg,hs,hp,k⟩:=h
  cases s' with
  | qk h0 =>
   have hp:H p = some (.ins a.C_Quick dx (xi (.int h0))):=hp
   refine ⟨_,(yi (yv (y6 (pv 0) rfl))),?_⟩
   try dsimp only [wc]
   refine yo (σ':=[some _]) rfl ?_
   walk_at "rd"
   exact k
  | ev _ _=>exact hg.elim
  | rn _ _=>exact hg.elim
theorem ymr:yn ["self","bit","moved"] ["self","bit"] (ya yep):=⟨rfl,rfl,rfl,by decide +kernel,rfl,by decide +kernel,by decide +kernel⟩
theorem yuy (T:Txt K mg a):we P w K mg base (CXe P w) 4 a.f_q19 a.d_q19 ["self","bit"] (zt K (oS a) yzi a.C_NB):=by
 refine T.F_q19.okE ymr (fun vs H Q E h=>?_) (fun cdv A outer s H vs Q E hr h=>?_)
 ·obtain ⟨p,dx,s,x,n,rfl,_⟩:=h
  rfl
 ·obtain ⟨p,dx,s',x,nm,rfl,hg,hs,hp,ty,k1,k2⟩:=h
  cases s' with
  | qk h0 =>
   obtain ⟨h1,h2⟩:=hs
   have hp:H p = some (.ins a.C_Quick dx (xi (.int h0))):=hp
   refine ⟨_,(yk (vj (vv (ybd T) (hr.mono (by decide)) rfl T.m_q10 T.F_q10.kp T.B_q10 .nil v8 (yb (pv 1) yg (yc rfl)))) (yk (wd (y7 x4 (pv 1) yj (vg _)) (yi (vd (i:=2) ymr.nd rfl (Or.inl rfl) (ym vw (y6 (pv 0) rfl) (ym vk (ym ue (vq rfl T.c_ONE) (y6 (pv 0) rfl)) yj)))) (yi (vd (i:=2) ymr.nd rfl (Or.inl rfl) (ym ue (y6 (pv 0) rfl) (ym vk (y6 (pv 0) rfl) yj))))) (yi (vo (pv 0) (yr (yf0 rfl) rfl T.z_min (by decide +kernel) (yb (yr (yfz rfl) rfl T.z_max (by decide +kernel) (yb (pv 2) (yb (vq rfl T.c_LEAST) yg (yc rfl)) (yc rfl))) (yb (ym ue (vq rfl T.c_ONE) (vq rfl T.c_LEAST)) yg (yc rfl)) (yc rfl))) rfl)))),?_⟩
   try dsimp only [wc]
   refine yo (σ':=[some _,some _,none]) rfl ?_
   walk_at "rd"
   refine ⟨x,nm,rfl,ty,fun hx=>?_,k2⟩
   obtain ⟨b,rfl,b0,b1⟩:=yir hx
   have k:=k1 b rfl b0 b1
   unfold Slt.see at k
   dsimp only at k
   walk_at "rd"
   refine uw (fun hb=>?_) (fun hb=>?_)
   ·rw [if_pos hb] at k
    walk_at "rd"
    refine ⟨_,_,rfl,?_⟩
    walk_at "rd"
    refine ⟨_,_,rfl,?_⟩
    walk_at "rd"
    exact k _ yd But.upd
   ·rw [if_neg hb] at k
    walk_at "rd"
    refine ⟨_,_,rfl,?_⟩
    walk_at "rd"
    refine ⟨_,_,rfl,?_⟩
    walk_at "rd"
    exact k _ yd But.upd
  | ev _ _=>exact hg.elim
  | rn _ _=>exact hg.elim
theorem yw1:yn ["self"] ["self"] (ya yew):=⟨rfl,rfl,rfl,by decide +kernel,rfl,by decide +kernel,by decide +kernel⟩
theorem yvt (T:Txt K mg a):we P w K mg base CX0 1 a.f_q20 a.d_q20 ["self"] (yco a.C_Run (uu (.int 1) (.int 0))):=by
 refine T.F_q20.ok yw1 (fun vs H Q E h=>?_) (fun cdv A outer s H vs Q E hr h=>?_)
 ·obtain ⟨p,dx,rfl,_⟩:=h
  rfl
 ·obtain ⟨p,dx,rfl,hp,k⟩:=h
  refine ⟨_,(yk (vo (pv 0) yj rfl) (yi (vo (pv 0) yj rfl))),?_⟩
  try dsimp only [wc]
  refine yo (σ':=[some _]) rfl ?_
  walk_at "rd"
  exact k _ yd (But.upd.trans But.upd)
theorem yq6:yn ["self","given"] ["self"] (ya ydj):=⟨rfl,rfl,rfl,by decide +kernel,rfl,by decide +kernel,by decide +kernel⟩
theorem yvn (T:Txt K mg a):we P w K mg base CX0 1 a.f_q21 a.d_q21 ["self"] (x6 (oS a) yzm):=by
 refine T.F_q21.ok yq6 (fun vs H Q E h=>?_) (fun cdv A outer s H vs Q E hr h=>?_)
 ·obtain ⟨p,dx,s,rfl,_⟩:=h
  rfl
 ·obtain ⟨p,dx,s',rfl,hg,hs,hp,k⟩:=h
  cases s' with
  | rn l n =>
   obtain ⟨h1,h2,h3,h4⟩:=hs
   have hp:H p = some (.ins a.C_Run dx (uu (.int l) (.int n))):=hp
   refine ⟨_,(yk (vd (i:=1) yq6.nd rfl (Or.inl rfl) (ym vk (ym wk (ym vw (ym wk yj (y6 (pv 0) rfl)) yj) (vq rfl T.c_ONE)) (ym vw (ym wk yj (y6 (pv 0) rfl)) yj))) (yi (yv (jr (y7 x4 (y6 (pv 0) rfl) yj (vg _)) (pv 1) (ym ue (vq rfl T.c_ONE) (pv 1)))))),?_⟩
   try dsimp only [wc]
   refine yo (σ':=[some _,none]) rfl ?_
   walk_at "rd"
   have k:Q (.int (if l = 1 then yaj n else 16777216 - yaj n)) H:=k
   refine uw (fun hb=>?_) (fun hb=>?_)
   ·rw [if_pos hb] at k
    walk_at "rd"
    exact k
   ·rw [if_neg hb] at k
    walk_at "rd"
    exact k
  | ev _ _=>exact hg.elim
  | qk _=>exact hg.elim
theorem yvv:yn ["self","bit"] ["self","bit"] (ya yea):=⟨rfl,rfl,rfl,by decide +kernel,rfl,by decide +kernel,by decide +kernel⟩
theorem yvz (T:Txt K mg a):we P w K mg base (CXe P w) 4 a.f_q22 a.d_q22 ["self","bit"] (zt K (oS a) yzm a.C_NB):=by
 refine T.F_q22.okE yvv (fun vs H Q E h=>?_) (fun cdv A outer s H vs Q E hr h=>?_)
 ·obtain ⟨p,dx,s,x,n,rfl,_⟩:=h
  rfl
 ·obtain ⟨p,dx,s',x,nm,rfl,hg,hs,hp,ty,k1,k2⟩:=h
  cases s' with
  | rn l n =>
   obtain ⟨h1,h2,h3,h4⟩:=hs
   have hp:H p = some (.ins a.C_Run dx (uu (.int l) (.int n))):=hp
   refine ⟨_,(yk (vj (vv (ybd T) (hr.mono (by decide)) rfl T.m_q10 T.F_q10.kp T.B_q10 .nil v8 (yb (pv 1) yg (yc rfl)))) (yi (wd (y7 x4 (pv 1) (y6 (pv 0) rfl) (vg _)) (yi (vo (pv 0) (yr (yf0 rfl) rfl T.z_min (by decide +kernel) (yb (ym vw (y6 (pv 0) rfl) yj) (yb (vq rfl T.c_MOST_COUNTED) yg (yc rfl)) (yc rfl))) rfl)) (yk (vo (pv 0) (pv 1) rfl) (yi (vo (pv 0) yj rfl)))))),?_⟩
   try dsimp only [wc]
   refine yo (σ':=[some _,some _]) rfl ?_
   walk_at "rd"
   refine ⟨x,nm,rfl,ty,fun hx=>?_,k2⟩
   obtain ⟨b,rfl,b0,b1⟩:=yir hx
   have k:=k1 b rfl b0 b1
   unfold Slt.see at k
   dsimp only at k
   walk_at "rd"
   refine uw (fun hb=>?_) (fun hb=>?_)
   ·rw [if_pos hb] at k
    walk_at "rd"
    refine ⟨_,_,rfl,?_⟩
    walk_at "rd"
    exact k _ yd But.upd
   ·rw [if_neg hb] at k
    walk_at "rd"
    exact k _ yd (But.upd.trans But.upd)
  | ev _ _=>exact hg.elim
  | qk _=>exact hg.elim
theorem yvd:yn ["kind"] ["kind"] (ya ydg):=⟨rfl,rfl,rfl,by decide +kernel,rfl,by decide +kernel,by decide +kernel⟩
def yjy (a:Ads):Sp:=fun vs H Q _=>∃ k:Fin 3,vs = [.str (kdS k)]/\∀ p dx H',H p = none->H' p = some (oS a dx (kd0 k))->vm H H'->Q (.ref p) H'
theorem yur (T:Txt K mg a):we P w K mg base CX0 3 a.f_q23 a.d_q23 ["kind"] (yjy a):=by
 refine T.F_q23.ok yvd (fun vs H Q E h=>?_) (fun cdv A outer s H vs Q E hr h=>?_)
 ·obtain ⟨k,rfl,_⟩:=h
  rfl
 ·obtain ⟨kk,rfl,k⟩:=h
  refine ⟨_,(yk (wd (y7 x4 (pv 0) xy (vg _)) (yi (yv (jv T.k_Even (ywt T) (hr.mono (by decide)) rfl T.m_Even T.B_q14 .nil vf))) ve) (yk (wd (y7 x4 (pv 0) xy (vg _)) (yi (yv (jv T.k_Quick (yut T) (hr.mono (by decide)) rfl T.m_Quick T.B_q17 .nil vf))) ve) (yk (wd (y7 x4 (pv 0) xy (vg _)) (yi (yv (jv T.k_Run (yvt T) (hr.mono (by decide)) rfl T.m_Run T.B_q20 .nil vf))) ve) (yi yct)))),?_⟩
  try dsimp only [wc]
  refine yo (σ':=[some _]) rfl ?_
  walk_at "rd"
  refine ⟨rfl,?_⟩
  match kk with
  | 0 =>
   refine ⟨_,rfl,yge rfl ?_⟩
   walk_at "rd"
   intro p dx np ndx ne
   refine ⟨p,dx,rfl,yd,fun H1 hp1 B1=>⟨rfl,?_⟩⟩
   exact k p dx H1 np hp1 fun b o e=>B1 b o (by rw [yu (ye e np),yu (ye e ndx)]; exact e) (ye e np)
  | 1 =>
   refine ⟨_,rfl,jy (by intro z; injection z with z; revert z; decide +kernel) ?_⟩
   walk_at "rd"
   refine ⟨rfl,?_⟩
   refine ⟨_,rfl,yge rfl ?_⟩
   walk_at "rd"
   intro p dx np ndx ne
   refine ⟨p,dx,rfl,yd,fun H1 hp1 B1=>⟨rfl,?_⟩⟩
   exact k p dx H1 np hp1 fun b o e=>B1 b o (by rw [yu (ye e np),yu (ye e ndx)]; exact e) (ye e np)
  | 2 =>
   refine ⟨_,rfl,jy (by intro z; injection z with z; revert z; decide +kernel) ?_⟩
   walk_at "rd"
   refine ⟨rfl,?_⟩
   refine ⟨_,rfl,jy (by intro z; injection z with z; revert z; decide +kernel) ?_⟩
   walk_at "rd"
   refine ⟨rfl,?_⟩
   refine ⟨_,rfl,yge rfl ?_⟩
   walk_at "rd"
   intro p dx np ndx ne
   refine ⟨p,dx,rfl,yd,fun H1 hp1 B1=>⟨rfl,?_⟩⟩
   exact k p dx H1 np hp1 fun b o e=>B1 b o (by rw [yu (ye e np),yu (ye e ndx)]; exact e) (ye e np)
theorem yum:yn ["thing"] ["thing"] (ya ydc):=⟨rfl,rfl,rfl,by decide +kernel,rfl,by decide +kernel,by decide +kernel⟩
def yj1 (K:W.Frag):Sp:=fun vs H Q _=>∃ x n,vs = [x]/\xz K H x (.type n)/\Q (.bl (ynj x)) H
theorem yx4 (T:Txt K mg a):we P w K mg base CX0 1 a.f_q24 a.d_q24 ["thing"] (yj1 K):=by
 refine T.F_q24.ok yum (fun vs H Q E h=>?_) (fun cdv A outer s H vs Q E hr h=>?_)
 ·obtain ⟨x,n,rfl,_⟩:=h
  rfl
 ·obtain ⟨x,n,rfl,ty,k⟩:=h
  refine ⟨_,(yi (yv (zl (yr vx rfl T.z_isinstance (by decide +kernel) (yb (pv 0) (yb (ur (T:="str") rfl T.z_str (by decide +kernel)) yg (yc rfl)) (yc rfl))) (yal (jd yf2 (pv 0) (yhg rfl T.m_KINDS) (by with_unfolding_all rfl)))))),?_⟩
  try dsimp only [wc]
  refine yo (σ':=[some _]) rfl ?_
  walk_at "rd"
  refine jz ty (yom ty) ?_
  walk_at "rd"
  by_cases hn:n = "str"
  ·obtain ⟨s',rfl⟩:∃ s',x = .str s':=by
    cases ty with
    | str s'=>exact ⟨s',rfl⟩
    | _=>exact absurd hn (by decide)
   rw [decide_eq_true hn]
   refine yps ?_
   walk_at "rd"
   exact ⟨a.W_KINDS,_,rfl,.inr (T.w_KINDS H),rfl,rfl,k⟩
  ·have e:ynj x = false:=by
    cases ty with
    | str s'=>exact absurd rfl hn
    | _=>rfl
   rw [decide_eq_false hn]
   rw [e] at k
   exact yno k
theorem ywl:yn ["thing"] ["thing"] (ya yd9):=⟨rfl,rfl,rfl,by decide +kernel,rfl,by decide +kernel,by decide +kernel⟩
def yg2 (K:W.Frag):Sp:=fun vs H Q _=>∃ x n,vs = [x]/\xz K H x (.type n)/\Q (.bl (plV x)) H
theorem yvs (T:Txt K mg a):we P w K mg base CX0 2 a.f_q25 a.d_q25 ["thing"] (yg2 K):=by
 refine T.F_q25.ok ywl (fun vs H Q E h=>?_) (fun cdv A outer s H vs Q E hr h=>?_)
 ·obtain ⟨x,n,rfl,_⟩:=h
  rfl
 ·obtain ⟨x,n,rfl,ty,k⟩:=h
  refine ⟨_,(yi (yv (zl (yz (ynl T) (hr.mono (by decide)) rfl T.m_q1 T.F_q1.kp T.B_q1 .nil vf (yb (pv 0) yg (yc rfl))) (yal (yap uv uv yj (pv 0) (vq rfl T.c_FARTHEST)))))),?_⟩
  try dsimp only [wc]
  refine yo (σ':=[some _]) rfl ?_
  walk_at "rd"
  refine ⟨x,n,rfl,ty,?_⟩
  walk_at "rd"
  cases hx:jx x with
  | false =>
   have e:plV x = false:=by
    cases x <;> first | rfl | cases hx
   rw [e] at k
   exact yno k
  | true =>
   obtain ⟨i,rfl⟩:=uk hx
   refine yps ?_
   walk_at "rd"
   refine uw (fun h0=>?_) (fun h0=>?_)
   ·walk_at "rd"
    have e:plV (.int i) = decide (i <= 8):=by simp [plV,h0]
    rw [e] at k
    exact k
   ·have e:plV (.int i) = false:=by simp [plV,h0]
    rw [e] at k
    exact k
theorem yuz:yn ["thing"] ["thing"] (ya yda):=⟨rfl,rfl,rfl,by decide +kernel,rfl,by decide +kernel,by decide +kernel⟩
def yce (K:W.Frag):Sp:=fun vs H Q _=>∃ x b,vs = [x]/\PlB K H x b/\∀ H',vm H H'->Q (.bl b) H'
theorem yw2 (T:Txt K mg a):we P w K mg base CX0 3 a.f_q26 a.d_q26 ["thing"] (yce K):=by
 refine T.F_q26.ok yuz (fun vs H Q E h=>?_) (fun cdv A outer s H vs Q E hr h=>?_)
 ·obtain ⟨x,b,rfl,_⟩:=h
  rfl
 ·obtain ⟨x,b,rfl,hb,k⟩:=h
  refine ⟨_,(yk (wd (PW.pt (yaf (xa (xj (yr vx rfl T.z_isinstance (by decide +kernel) (yb (pv 0) (yb (ur (T:="tuple") rfl T.z_tuple (by decide +kernel)) yg (yc rfl)) (yc rfl))))) (yaf (y7 ynk (yr yw rfl T.z_len (by decide +kernel) (yb (pv 0) yg (yc rfl))) (vq rfl T.c_MOST_PLACES) (vg _)) (ybb (xa (xj (yr (jo rfl) rfl T.z_all (by decide +kernel) (yb (u4 rfl (yio (pv 0)) (fun C s2 H2 fp=>(yz (yvs T) (hr.mono (by decide)) rfl T.m_q25 T.F_q25.kp T.B_q25 .nil vf (yb (pv 0) yg (yc rfl))))) yg (yc rfl))))))))) (yi (yv ybk)) ve) (yi (yv (yr (jo rfl) rfl T.z_all (by decide +kernel) (yb (yig (js:=[]) (ys:=[]) (xs:=["near","far"]) (g:=yul K 2 (z7 (w5 0) (z7 (w5 1) yp2))) rfl (ytc rfl T.z_zip (yb (pv 0) (yb (xo (ywd.or yth) (pv 0) (ug yj) uh) yg (yc rfl)) (yc rfl))) (fun C s2 H2 fp=>(jd ygg (pv 0) (pv 1) (vg _))) rfl (fun C s2 H2 fp=>ynh rfl (zw (w6 (i:=0) (show List.Nodup ((["near","far"]:List Str) ++ ([]:List Str)) by decide +kernel) rfl (Or.inl rfl)) (zw (w6 (i:=1) (show List.Nodup ((["near","far"]:List Str) ++ ([]:List Str)) by decide +kernel) rfl (Or.inl rfl)) yhi))) rfl (hyc:=v9) (hrel:=v9)) yg (yc rfl)))))),?_⟩
  try dsimp only [wc]
  refine yo (σ':=[some _]) rfl ?_
  rcases hb with ⟨n,ty,hn,rfl⟩ | ⟨t,xs,rfl,ht,hl,hy,rfl⟩
  ·walk_at "rd"
   refine jz ty (yas ty) ?_
   walk_at "rd"
   refine ypl hn ?_
   walk_at "rd"
   exact k _ (vm.refl _)
  ·walk_at "rd"
   refine jz (.tup ht) (yas (.tup ht)) ?_
   walk_at "rd"
   refine ynm rfl ?_
   walk_at "rd"
   refine yqg (SqT.of ht) ?_
   walk_at "rd"
   unfold zi at k
   refine uw (fun h4=>?_) (fun h4=>?_)
   ·rw [decide_eq_false (by omega),Bool.false_and,Bool.false_and] at k
    walk_at "rd"
    exact k _ (vm.refl _)
   ·rw [decide_eq_true (by omega),Bool.true_and] at k
    walk_at "rd"
    refine ⟨t,rfl,⟨_,SqT.of ht⟩,fun D hD=>?_⟩
    refine yk2 (xs:=xs) (fun v=>.bl (plV v)) (SqT.of ht) hD (fun i y H2 hy2 S2 hD2=>?_) (fun H2 S2 hD2=>?_)
    ·obtain ⟨n,tyy⟩:=hy y (List.mem_of_getElem? hy2)
     walk_at "rd"
     refine ⟨y,n,rfl,yba S2 tyy,?_⟩
     exact Mp.done hD (v7 (by omega)) hy2 S2 hD2 rfl
    have e:xs.map (fun v=>V.bl (plV v)) = (xs.map plV).map V.bl:=by rw [List.map_map]; rfl
    rw [e] at hD2
    walk_at "rd"
    refine ⟨D,_,rfl,SqL.of hD2,?_⟩
    rw [List.all_map]
    have ea:xs.all (id ∘ plV) = xs.all plV:=rfl
    rw [ea]
    have ht2:=S2 _ _ ht
    cases hp:xs.all plV with
    | false =>
     rw [hp,Bool.false_and] at k
     walk_at "rd"
     exact k _ S2
    | true =>
     rw [hp,Bool.true_and] at k
     have hint:∀ y ∈ xs,∃ i:Int,y = .int i:=fun y hm=>by
      have:=List.all_eq_true.mp hp y hm
      cases y with
      | int i=>exact ⟨i,rfl⟩
      | _=>cases this
     walk_at "rd"
     by_cases hx0:xs = []
     ·refine .inr ⟨t,xs,rfl,SqT.of ht2,?_,?_⟩
      ·subst hx0
       exact ⟨rfl,rfl⟩
      ·refine ⟨t,t,rfl,⟨_,_,SqT.of ht2,SqT.of ht2⟩,fun D2 hD2'=>?_⟩
       refine ymh (xs:=xs) hint (by omega) (SqT.of ht2) (by subst hx0; exact SqT.of ht2) hD2' (fun i j σ' H' Q' h=>?_) (fun H4 S4 hD4=>?_)
       ·walk_at "rd"
        exact h
       ·walk_at "rd"
        exact ⟨D2,_,rfl,SqL.of hD4,k _ (S2.trans S4)⟩
     ·refine .inl ⟨t,xs,rfl,SqT.of ht2,?_,fun u hu=>?_⟩
      ·rintro ⟨z,_⟩
       have e1:HT.sIx xs.length 0 (some 1) = min 1 xs.length:=by
        have:=HT.sIx_nat xs.length 0 1
        simpa using this
       rw [e1] at z
       cases xs with
       | nil=>exact hx0 rfl
       | cons x r=>simp at z
      ·rw [yse]
       have S3:=vn (o:=(HO.tup xs.tail)) hu
       have hu3:upd H2 u (HO.tup xs.tail) u = some (HO.tup xs.tail):=yd
       generalize upd H2 u (HO.tup xs.tail) = H3 at S3 hu3 ⊢
       refine ⟨t,u,rfl,⟨_,_,SqT.of (S3 _ _ ht2),SqT.of hu3⟩,fun D2 hD2'=>?_⟩
       refine ymh (xs:=xs) hint (by omega) (SqT.of (S3 _ _ ht2)) (SqT.of hu3) hD2' (fun i j σ' H' Q' h=>?_) (fun H4 S4 hD4=>?_)
       ·walk_at "rd"
        exact h
       ·walk_at "rd"
        exact ⟨D2,_,rfl,SqL.of hD4,k _ (S2.trans (S3.trans S4))⟩
theorem yw8:yn ["thing"] ["thing"] (ya yd7):=⟨rfl,rfl,rfl,by decide +kernel,rfl,by decide +kernel,by decide +kernel⟩
def yj3 (K:W.Frag):Sp:=fun vs H Q _=>∃ x b,vs = [x]/\LkB K H x b/\∀ H',vm H H'->Q (.bl b) H'
theorem yrb (T:Txt K mg a):we P w K mg base CX0 4 a.f_q27 a.d_q27 ["thing"] (yj3 K):=by
 refine T.F_q27.ok yw8 (fun vs H Q E h=>?_) (fun cdv A outer s H vs Q E hr h=>?_)
 ·obtain ⟨x,b,rfl,_⟩:=h
  rfl
 ·obtain ⟨x,b,rfl,hb,k⟩:=h
  refine ⟨_,(yi (yv (zl (yr vx rfl T.z_isinstance (by decide +kernel) (yb (pv 0) (yb (ur (T:="tuple") rfl T.z_tuple (by decide +kernel)) yg (yc rfl)) (yc rfl))) (zl (jd x4 (yr yw rfl T.z_len (by decide +kernel) (yb (pv 0) yg (yc rfl))) yj (vg _)) (zl (yz (yx4 T) (hr.mono (by decide)) rfl T.m_q24 T.F_q24.kp T.B_q24 .nil vf (yb (x5 zn (pv 0) yj (fun _ _=>rfl)) yg (yc rfl))) (yal (yz (yw2 T) (hr.mono (by decide)) rfl T.m_q26 T.F_q26.kp T.B_q26 .nil vf (yb (x5 zn (pv 0) yj (fun _ _=>rfl)) yg (yc rfl))))))))),?_⟩
  try dsimp only [wc]
  refine yo (σ':=[some _]) rfl ?_
  rcases hb with ⟨n,ty,hn,rfl⟩ | ⟨t,xs,rfl,ht,hb⟩
  ·walk_at "rd"
   refine jz ty (yas ty) ?_
   walk_at "rd"
   rw [decide_eq_false hn]
   exact yno (k _ (vm.refl _))
  ·walk_at "rd"
   refine jz (.tup ht) (yas (.tup ht)) ?_
   walk_at "rd"
   refine yge rfl ?_
   walk_at "rd"
   refine yqg (SqT.of ht) ?_
   walk_at "rd"
   rcases hb with ⟨h2,rfl⟩ | ⟨y,z,n,rfl,ty,hb⟩
   ·rw [decide_eq_false (show ¬ ((xs.length:Int) = 2) by omega)]
    exact yno (k _ (vm.refl _))
   ·refine yge rfl ?_
    walk_at "rd"
    refine z6 (SqT.of ht) (vz (j:=0) rfl) ?_
    walk_at "rd"
    refine ⟨y,n,rfl,ty,?_⟩
    rcases hb with ⟨hk,rfl⟩ | ⟨hk,hp⟩
    ·rw [hk]
     walk_at "rd"
     exact k _ (vm.refl _)
    ·rw [hk]
     walk_at "rd"
     refine z6 (SqT.of ht) (vz (j:=1) rfl) ?_
     walk_at "rd"
     exact ⟨z,b,rfl,hp,k⟩
theorem yyc:yn ["thing"] ["thing"] (ya ydi):=⟨rfl,rfl,rfl,by decide +kernel,rfl,by decide +kernel,by decide +kernel⟩
def ykm (K:W.Frag) (C:Addr):Sp:=fun vs H Q E=>(∃ x n,vs = [x]/\xz K H x (.type n)/\n ≠ "list"/\E (.ref C) none H) \/
 ∃ (l:Addr) (xs:List V) (bs:List Bool),vs = [.ref l]/\H l = some (.lst xs)/\xs.length <= 1000/\va3 K H xs bs /\
  ((1 <= xs.length/\xs.length <= 6/\bs.all id = true)->∀ r H',H r = none->H' r = some (.lst xs)->vm H H'->Q (.ref r) H') /\
  (¬ (1 <= xs.length/\xs.length <= 6/\bs.all id = true)->∀ H',vm H H'->E (.ref C) none H')
theorem yvy (T:Txt K mg a):we P w K mg base (CXe P w) 5 a.f_q28 a.d_q28 ["thing"] (ykm K a.C_NL):=by
 refine T.F_q28.okE yyc (fun vs H Q E h=>?_) (fun cdv A outer s H vs Q E hr h=>?_)
 ·rcases h with ⟨x,n,rfl,_⟩ | ⟨l,xs,f,rfl,_⟩
  ·rfl
  ·rfl
 ·rcases h with ⟨x,n,rfl,ty,hn,k⟩ | ⟨l,xs,bs,rfl,hl,hz,hy,k1,k2⟩
  ·refine ⟨_,(yk (wd (PW.pt (yaf (xa (xj (yr vx rfl T.z_isinstance (by decide +kernel) (yb (pv 0) (yb (ur (T:="list") rfl T.z_list (by decide +kernel)) yg (yc rfl)) (yc rfl))))) (yaf (xa (yar uv uv yj (yr yw rfl T.z_len (by decide +kernel) (yb (pv 0) yg (yc rfl))) (vq rfl T.c_MOST_LOOKS))) (ybb (xa (xj (yr (jo rfl) rfl T.z_all (by decide +kernel) (yb (u4 rfl (wt (pv 0)) (fun C s2 H2 fp=>(yz (yrb T) (hr.mono (by decide)) rfl T.m_q27 T.F_q27.kp T.B_q27 .nil vf (yb (pv 0) yg (yc rfl))))) yg (yc rfl))))))))) (yi (xp rfl T.m_NL T.r_NL (yb xy yg (yc rfl)))) ve) (yi (yv (x8 xt rfl T.z_list (by decide +kernel) (yb (pv 0) yg (yc rfl)))))),?_⟩
   refine yo (σ':=[some _]) rfl ?_
   walk_at "rd"
   refine jz ty (yic ty) ?_
   walk_at "rd"
   refine ypl hn ?_
   walk_at "rd"
   exact ⟨by walk_at "len",k⟩
  ·refine ⟨_,(yk (wd (PW.pt (yaf (xa (xj (yr vx rfl T.z_isinstance (by decide +kernel) (yb (pv 0) (yb (ur (T:="list") rfl T.z_list (by decide +kernel)) yg (yc rfl)) (yc rfl))))) (yaf (xa (yar uv uv yj (yr yw rfl T.z_len (by decide +kernel) (yb (pv 0) yg (yc rfl))) (vq rfl T.c_MOST_LOOKS))) (ybb (xa (xj (yr (jo rfl) rfl T.z_all (by decide +kernel) (yb (u4 rfl (wt (pv 0)) (fun C s2 H2 fp=>(yz (yrb T) (hr.mono (by decide)) rfl T.m_q27 T.F_q27.kp T.B_q27 .nil vf (yb (pv 0) yg (yc rfl))))) yg (yc rfl))))))))) (yi (xp rfl T.m_NL T.r_NL (yb xy yg (yc rfl)))) ve) (yi (yv (x8 xt rfl T.z_list (by decide +kernel) (yb (pv 0) yg (yc rfl)))))),?_⟩
   refine yo (σ':=[some _]) rfl ?_
   walk_at "rd"
   refine jz (.lst hl) (yic (.lst hl)) ?_
   walk_at "rd"
   refine ynm rfl ?_
   walk_at "rd"
   refine x3 (SqL.of hl) ?_
   walk_at "rd"
   refine uw (fun h1=>?_) (fun h1=>?_)
   ·walk_at "rd"
    refine vbf (fun h6=>?_) (fun h6=>?_)
    ·walk_at "rd"
     refine ⟨l,rfl,⟨_,SqL.of hl⟩,fun D hD=>?_⟩
     refine uo (K:=K) (xs:=xs) (Mp H D (fun i=>V.bl ((bs[i]?).getD false))) (Mp.zero hD) (fun _ _ _ p=>p.1.seq (SqL.of hl)) (fun i y H2 hy2 hi p=>?_) (fun H2 p=>?_)
     ·obtain ⟨S2,hD2⟩:=p
      have hib:i < bs.length:=by rw [<- hy.1]; exact hi
      walk_at "rd"
      refine ⟨y,bs[i],rfl,(hy.2 i y _ hy2 (List.getElem?_eq_getElem hib)).same S2,fun H3 S3=>?_⟩
      refine Mp.doneR hD (v7 (by omega)) hi (S2.trans S3) (S3 _ _ hD2) ?_
      rw [List.getElem?_eq_getElem hib]
      rfl
     obtain ⟨S2,hD2⟩:=p
     rw [ynw bs hy.1] at hD2
     walk_at "rd"
     refine ⟨D,_,rfl,SqL.of hD2,?_⟩
     have hl2:=S2 _ _ hl
     cases hp:bs.all id with
     | false =>
      walk_at "rd"
      exact ⟨by walk_at "len",k2 (by rw [hp]; rintro ⟨_,_,z⟩; cases z) _ S2⟩
     | true =>
      walk_at "rd"
      refine yid (SqL.of hl2) fun r hr0=>?_
      exact k1 ⟨by omega,by omega,hp⟩ r _ (S2.free hr0) yd (S2.trans (vn hr0))
    ·walk_at "rd"
     exact ⟨by walk_at "len",k2 (by omega) _ (vm.refl _)⟩
   ·walk_at "rd"
    exact ⟨by walk_at "len",k2 (by omega) _ (vm.refl _)⟩
theorem yws:yn ["signs","place"] ["signs","place"] (ya yek):=⟨rfl,rfl,rfl,by decide +kernel,rfl,by decide +kernel,by decide +kernel⟩
def yn6 (K:W.Frag):Sp:=fun vs H Q _=>∃ (l:Addr) (sg:List Int) (p:Int),vs = [.ref l,.int p]/\SqL K H l (sg.map V.int)/\1 <= p/\Q (.int (yrv sg p)) H
theorem ywo (T:Txt K mg a):we P w K mg base CX0 1 a.f_q29 a.d_q29 ["signs","place"] (yn6 K):=by
 refine T.F_q29.ok yws (fun vs H Q E h=>?_) (fun cdv A outer s H vs Q E hr h=>?_)
 ·obtain ⟨l,sg,p,rfl,_⟩:=h
  rfl
 ·obtain ⟨l,sg,p,rfl,hl,hp,k⟩:=h
  refine ⟨_,(yi (yv (jr (y7 uv (pv 1) (yr yw rfl T.z_len (by decide +kernel) (yb (pv 0) yg (yc rfl))) (vg _)) (x5 xm (pv 0) (yy1 yqa (pv 1)) (fun _ _=>rfl)) (vq rfl T.c_NO_SIGN)))),?_⟩
  try dsimp only [wc]
  refine yo (σ':=[some _,some _]) rfl ?_
  walk_at "rd"
  refine x3 hl ?_
  rw [List.length_map]
  walk_at "rd"
  unfold yrv at k
  refine uw (fun hb=>?_) (fun hb=>?_)
  ·rw [if_pos hb] at k
   obtain ⟨c,hc,_⟩:=ynx hp hb
   rw [hc] at k
   walk_at "rd"
   exact yae hl (by rw [ytp,hc]; rfl) k
  ·rw [if_neg hb] at k
   walk_at "rd"
   exact k
theorem yun:yn ["look","signs","node"] ["look","signs","node"] (ya yed):=⟨rfl,rfl,rfl,by decide +kernel,rfl,by decide +kernel,by decide +kernel⟩
def u8 (K:W.Frag) (H:Hp) (k:Addr) (x:V) (ps:List Int):Prop:=∃ t,SqT K H k [x,.ref t]/\SqT K H t (ps.map V.int)/\(∀ p ∈ ps,1 <= p/\p <= 8)/\ps.length <= 4
theorem u8.same {K:W.Frag} {H H':Hp} {k:Addr} {x:V} {ps:List Int} (S:vm H H') (h:u8 K H k x ps):u8 K H' k x ps:=by
 obtain ⟨t,h1,h2,h3,h4⟩:=h
 exact ⟨t,S.tup h1,S.tup h2,h3,h4⟩
def ctx (ps sg:List Int) (nd:Int):List Int:=ps.map (yrv sg) ++ [nd]
def bkV (sg:List Int):V->V
 | .int p=>.int (yrv sg p)
 | _=>.non
theorem yr7 (sg ps:List Int):(ps.map V.int).map (bkV sg) = (ps.map (yrv sg)).map V.int:=by
 rw [List.map_map,List.map_map]
 rfl
def yje (K:W.Frag):Sp:=fun vs H Q _=>∃ (k l:Addr) (x:V) (ps sg:List Int) (nd:Int),vs = [.ref k,.ref l,.int nd]/\u8 K H k x ps/\SqL K H l (sg.map V.int) /\
 ∀ r H',H r = none->H' r = some (.tup ((ctx ps sg nd).map V.int))->vm H H'->Q (.ref r) H'
theorem yux (T:Txt K mg a):we P w K mg base CX0 2 a.f_q30 a.d_q30 ["look","signs","node"] (yje K):=by
 refine T.F_q30.ok yun (fun vs H Q E h=>?_) (fun cdv A outer s H vs Q E hr h=>?_)
 ·obtain ⟨k,l,x,ps,sg,nd,rfl,_⟩:=h
  rfl
 ·obtain ⟨ka,l,x,ps,sg,nd,rfl,⟨t,hk,ht,hps,hpl⟩,hl,k⟩:=h
  refine ⟨_,(yi (yv (x8 ji rfl T.z_tuple (by decide +kernel) (yb (ym ybc (uz (js:=[1]) (ys:=["signs"]) rfl (yio (x5 zn (pv 0) yj (fun _ _=>rfl))) (fun C s2 H2 fp=>(yz (ywo T) (hr.mono (by decide)) rfl T.m_q29 T.F_q29.kp T.B_q29 .nil vf (yb (pv 1) (yb (pv 0) yg (yc rfl)) (yc rfl)))) rfl rfl (hyc:=(all_cons rfl v9)) (hrel:=(all_cons rfl v9))) (wx (yb (pv 2) yg (yc rfl)))) yg (yc rfl))))),?_⟩
  try dsimp only [wc]
  refine yo (σ':=[some _,some _,some _]) rfl ?_
  walk_at "rd"
  refine z6 hk (vz (j:=1) rfl) ?_
  refine ⟨t,rfl,⟨_,ht⟩,fun D hD=>?_⟩
  have hpz:(ps.map V.int).length < sizeLine:=v7 (by rw [List.length_map]; omega)
  refine ybt (xs:=ps.map V.int) (bkV sg) ht hD (fun i y H2 hy S2 hD2=>?_) (fun H2 S2 hD2=>?_)
  ·obtain ⟨p,rfl,hpm,_,_⟩:=uq hy
   walk_at "rd"
   refine ⟨l,sg,p,rfl,S2.seq hl,(hps p hpm).1,?_⟩
   exact Mp.done hD hpz hy S2 hD2 rfl
  ·rw [yr7] at hD2
   walk_at "rd"
   refine ⟨by walk_at "len",fun n hn=>?_⟩
   with_reducible first | refine yy hn fun H3 S3 hn3=>?_ | refine new_obj hn fun H3 S3 hn3=>?_
   refine ⟨D,n,_,_,rfl,rfl,S3 _ _ hD2,hn3,xx (by rw [List.length_map,List.length_map]; show _ + 1 <= _; omega),fun c hc=>?_⟩
   with_reducible first | refine yy hc fun H4 S4 hc4=>?_ | refine new_obj hc fun H4 S4 hc4=>?_
   refine ⟨c,_,rfl,.inl ⟨SqL.of hc4,fun r hr0=>?_⟩⟩
   have S:=S2.trans (S3.trans S4)
   refine k r _ (S.free hr0) (yd.trans ?_) (S.trans (vn hr0))
   unfold ctx
   rw [List.map_append]
   rfl
theorem yvc:yn ["self","look"] ["self","look"] (ya ydk):=⟨rfl,rfl,rfl,by decide +kernel,rfl,by decide +kernel,by decide +kernel⟩
def ykp (a:Ads):Sp:=fun vs H Q _=>∃ (p dx lk:Addr) (kd:Fin 3),vs = [.ref p,.ref lk]/\H p = some (.ins a.C_Book dx [])/\∀ d H',H d = none->yao a H' p dx lk d kd (fun _=>none) (fun b=>b = d) 0->But p H H'->Q .non H'
theorem ywk (T:Txt K mg a):we P w K mg base CX0 1 a.f_q31 a.d_q31 ["self","look"] (ykp a):=by
 refine T.F_q31.ok yvc (fun vs H Q E h=>?_) (fun cdv A outer s H vs Q E hr h=>?_)
 ·obtain ⟨p,dx,lk,kd,rfl,_⟩:=h
  rfl
 ·obtain ⟨p,dx,lk,kd,rfl,hp,k⟩:=h
  refine ⟨_,(yk (vo (pv 0) (pv 1) rfl) (yi (vo (pv 0) yog rfl))),?_⟩
  try dsimp only [wc]
  refine yo (σ':=[some _,some _]) rfl ?_
  walk_at "rd"
  intro d hd
  have hd0:H d = none:=by
   cases e:H d with
   | none=>rfl
   | some o =>
    by_cases z:d = p
    ·rw [z,yd] at hd; cases hd
    ·rw [yu z,e] at hd; cases hd
  have ndp:d ≠ p:=fun z=>by rw [z,hp] at hd0; cases hd0
  have hp2:=zk (o':=HO.dT []) hd (show upd H p (HO.ins a.C_Book dx ([("look",V.ref lk)]:List (Str × V))) p = some (HO.ins a.C_Book dx ([("look",V.ref lk)]:List (Str × V))) from yd)
  have hd2:upd (upd H p (HO.ins a.C_Book dx ([("look",V.ref lk)]:List (Str × V)))) d (.dT []) d = some (.dT []):=yd
  have B2:But p H (upd (upd H p (HO.ins a.C_Book dx ([("look",V.ref lk)]:List (Str × V)))) d (.dT [])):=fun b o e n=>by rw [yu (ye e hd0),yu n]; exact e
  generalize upd (upd H p (HO.ins a.C_Book dx ([("look",V.ref lk)]:List (Str × V)))) d (.dT []) = H2 at hp2 hd2 B2 ⊢
  walk_at "rd"
  refine k d _ hd0 ⟨yd,fun b hb=>⟨HO.dT [],by cases hb; exact yp ndp hd2,rfl⟩,fun z=>ndp z.symm,rfl,[],fun _=>(0,0),yp ndp hd2,Nat.le_refl _,fun _ _=>rfl,fun _ _ z=>(nomatch z),fun _ _ _ _ z=>(nomatch z)⟩ (B2.trans But.upd)
theorem yqz:yn ["self","signs","node","context"] ["self","signs","node"] (ya yd8):=⟨rfl,rfl,rfl,by decide +kernel,rfl,by decide +kernel,by decide +kernel⟩
def yle (K:W.Frag) (a:Ads):Sp:=fun vs H Q _=>∃ (p dx lk d sl:Addr) (kd:Fin 3) (f:List Int->Option Slt) (O:Addr->Prop) (m:Nat) (ps sg:List Int) (nd:Int),vs = [.ref p,.ref sl,.int nd]/\yao a H p dx lk d kd f O m/\m < 1000000/\u8 K H lk (.str (kdS kd)) ps/\SqL K H sl (sg.map V.int) /\
 ∀ (q:Addr) (O':Addr->Prop) (H':Hp),yao a H' p dx lk d kd (ye1 f (ctx ps sg nd) ((f (ctx ps sg nd)).getD (kd0 kd))) O' (m + 1)->(∀ kvs,H' d = some (.dT kvs)->yan kvs (kI (ctx ps sg nd)) = some (.ref q))->(∀ c,O' c->O c\/H c = none)->(∀ c,O c->O' c)->ypp O H H'->Q (.ref q) H'
theorem yyb (T:Txt K mg a):we P w K mg base CX0 4 a.f_q32 a.d_q32 ["self","signs","node"] (yle K a):=by
 refine T.F_q32.ok yqz (fun vs H Q E h=>?_) (fun cdv A outer s H vs Q E hr h=>?_)
 ·obtain ⟨p,dx,lk,d,sl,kd,f,O,m,ps,sg,nd,rfl,_⟩:=h
  rfl
 ·obtain ⟨p,dx,lk,d,sl,kd,f,O,m,ps,sg,nd,rfl,hb,hm,hl,hs,k⟩:=h
  have hme:=hb.me
  refine ⟨_,(yk (vd (i:=3) yqz.nd rfl (Or.inl rfl) (yz (yux T) (hr.mono (by decide)) rfl T.m_q30 T.F_q30.kp T.B_q30 .nil vf (yb (y6 (pv 0) rfl) (yb (pv 1) (yb (pv 2) yg (yc rfl)) (yc rfl)) (yc rfl)))) (yk (yf8 (wd (yvo (ylr (yt3 hr) (pv 3) (y6 (pv 0) rfl))) (yi (ytm (yt3 hr) (y6 (pv 0) rfl) (pv 3) (yz (yur T) (hr.mono (by decide)) rfl T.m_q23 T.F_q23.kp T.B_q23 .nil vf (yb (x5 zn (y6 (pv 0) rfl) yj (fun _ _=>rfl)) yg (yc rfl))) rfl)) ve)) (yi (yv (ysc (yt3 hr) (y6 (pv 0) rfl) (pv 3) (fun _ _=>rfl)))))),?_⟩
  try dsimp only [wc]
  refine yo (σ':=[some _,some _,some _,none]) rfl ?_
  walk_at "rd"
  refine ⟨lk,sl,_,ps,sg,nd,rfl,hl,hs,fun r H1 hr0 hr1 S1=>?_⟩
  have hr1':H1 r = some (.tup ((kI (ctx ps sg nd)).map kV)):=by rw [ywr]; exact hr1
  generalize ctx ps sg nd = key at hr1' k
  have hb1:=hb.same S1
  have hme1:=hb1.me
  walk_at "rd"
  refine yni (fun σ' H'=>σ' = [some (.ref p),some (.ref sl),some (.int nd),some (.ref r)]/\∃ O',yao a H' p dx lk d kd (ye1 f key ((f key).getD (kd0 kd))) O' (m + 1)/\(∀ c,O' c->O c\/H c = none)/\(∀ c,O c->O' c)/\ypp O H H'/\H' r = some (.tup ((kI key).map kV))) ?_ ?_
  ·obtain ⟨kvs,loc,h1,h2,h3,h4,h5⟩:=hb1.tb
   walk_at "rd"
   refine ⟨d,_,rfl,ynp.t h1 hr1',?_⟩
   cases hf:f key with
   | none =>
    rw [h3 key hf]
    walk_at "rd"
    refine yps ?_
    walk_at "rd"
    obtain ⟨t,ht1,ht2,_,_⟩:=hl
    refine z6 (S1.tup ht1) (vz (j:=0) rfl) ?_
    walk_at "rd"
    refine ⟨kd,rfl,fun q dq H2 hq0 hq2 S2=>?_⟩
    walk_at "rd"
    have hme2:=S2 _ _ hme1
    walk_at "rd"
    refine ⟨d,_,rfl,yuk.t (S2 _ _ h1) (S2 _ _ hr1') (v7 (by omega)),?_⟩
    have S12:=S1.trans S2
    have nqd:q ≠ d:=fun z=>by rw [z,h1] at hq0; cases hq0
    have ndp:p ≠ d:=fun z=>hb1.np (z ▸ hb1.dO)
    walk_at "rd"
    refine ⟨rfl,fun c=>O c\/c = q,⟨yp ndp hme2,fun c hc=>?_,fun z=>?_,.inl hb1.dO,ygj kvs (kI key) (.ref q),fun j=>if j = key then (q,dq) else loc j,yd,?_,fun j hj=>?_,fun j s' hj=>?_,fun j1 j2 s1 s2 e1 e2 el=>?_⟩,fun c hc=>?_,fun c hc=>.inl hc,fun c o e no=>?_,yp (xw (S2 _ _ hr1') (S2 _ _ h1) (by intro z; cases z)) (S2 _ _ hr1')⟩
    ·rcases hc with hc | rfl
     ·obtain ⟨o,ho,hi⟩:=hb1.own c hc
      by_cases z:c = d
      ·rw [z]
       exact ⟨_,yd,rfl⟩
      ·exact ⟨o,yp z (S2 _ _ ho),hi⟩
     ·obtain ⟨C,fs,eo⟩:=yf6 a dq (kd0 kd)
      exact ⟨_,yp nqd hq2,by rw [eo]; rfl⟩
    ·rcases z with z | z
     ·exact hb1.np z
     ·rw [z] at hme1
      rw [hme1] at hq0
      cases hq0
    ·rw [yo6 _ (h3 key hf),List.length_append]
     show _ + 1 <= m + 1
     omega
    ·unfold ye1 at hj
     split at hj
     ·cases hj
     ·rename_i hne
      rw [ycx,if_neg fun z=>hne (yqs z)]
      exact h3 j hj
    ·unfold ye1 at hj
     split at hj
     ·rename_i he
      subst he
      cases hj
      dsimp only
      rw [if_pos rfl,ycx,if_pos rfl]
      exact ⟨rfl,yp nqd hq2,yq7 kd,yoa kd,.inr rfl⟩
     ·rename_i hne
      obtain ⟨q1,q2,q3,q4,q5⟩:=h4 j s' hj
      dsimp only
      rw [if_neg hne,ycx,if_neg fun z=>hne (yqs z)]
      have nd2:(loc j).1 ≠ d:=by
       obtain ⟨C,fs,eo⟩:=yf6 a (loc j).2 s'
       rw [eo] at q2
       exact xw q2 h1 (by intro z; cases z)
      exact ⟨q1,yp nd2 (S2 _ _ q2),q3,q4,.inl q5⟩
    ·unfold ye1 at e1 e2
     dsimp only at el
     by_cases z1:j1 = key
     ·by_cases z2:j2 = key
      ·rw [z1,z2]
      ·rw [if_neg z2] at e2
       rw [if_pos z1,if_neg z2] at el
       obtain ⟨_,q2,_⟩:=h4 j2 s2 e2
       have el:q = (loc j2).1:=el
       rw [<- el,hq0] at q2
       cases q2
     ·rw [if_neg z1] at e1
      by_cases z2:j2 = key
      ·rw [if_neg z1,if_pos z2] at el
       obtain ⟨_,q2,_⟩:=h4 j1 s1 e1
       have el:(loc j1).1 = q:=el
       rw [el,hq0] at q2
       cases q2
      ·rw [if_neg z2] at e2
       rw [if_neg z1,if_neg z2] at el
       exact h5 j1 j2 s1 s2 e1 e2 el
    ·rcases hc with hc | rfl
     ·exact .inl hc
     ·exact .inr (S1.free hq0)
    ·exact yp (fun z=>no (z ▸ hb1.dO)) (S12 _ _ e)
   | some s' =>
    obtain ⟨q1,q2,q3,q4,q5⟩:=h4 key s' hf
    rw [q1]
    walk_at "rd"
    refine ⟨rfl,O,?_,fun c hc=>.inl hc,fun c hc=>hc,fun c o e _=>S1 _ _ e,hr1'⟩
    have ef:ye1 f key ((some s').getD (kd0 kd)) = f:=by
     funext j
     unfold ye1
     split
     ·rename_i z
      rw [z,hf]
      rfl
     ·rfl
    rw [ef]
    exact ⟨hb1.me,hb1.own,hb1.np,hb1.dO,kvs,loc,h1,Nat.le_succ_of_le h2,h3,h4,h5⟩
  ·rintro σ' H2 ⟨rfl,O',hb2,hO,hM,B2,hr2⟩
   have hme2:=hb2.me
   obtain ⟨kvs,loc,h1,h2,h3,h4,h5⟩:=id hb2.tb
   have hk0:ye1 f key ((f key).getD (kd0 kd)) key = some ((f key).getD (kd0 kd)):=by unfold ye1; rw [if_pos rfl]
   obtain ⟨q1,q2,q3,q4,q5⟩:=h4 key _ hk0
   walk_at "rd"
   refine ⟨d,_,rfl,by rw [<- q1]; exact ynp.t h1 hr2,?_⟩
   exact k (loc key).1 O' H2 hb2 (fun kvs' e=>by rw [h1] at e; cases e; exact q1) hO hM B2
theorem yuo:yn ["self","many"] ["self","many"] (ya yd3):=⟨rfl,rfl,rfl,by decide +kernel,rfl,by decide +kernel,by decide +kernel⟩
theorem ywy (T:Txt K mg a):we P w K mg base CX0 1 a.f_q33 a.d_q33 ["self","many"] (ypc a):=by
 refine T.F_q33.ok yuo (fun vs H Q E h=>?_) (fun cdv A outer s H vs Q E hr h=>?_)
 ·obtain ⟨p,dx,n,rfl,_⟩:=h
  rfl
 ·obtain ⟨p,dx,n,rfl,n1,n6,hp,k⟩:=h
  refine ⟨_,(yi (vo (pv 0) (ym yjb (wx (yb (vq rfl T.c_FIRST_WEIGHT) yg (yc rfl))) (pv 1)) rfl)),?_⟩
  try dsimp only [wc]
  refine yo (σ':=[some _,some _]) rfl ?_
  walk_at "rd"
  refine ⟨by walk_at "len",fun r hr0=>?_⟩
  with_reducible first | refine yy hr0 fun H1 S1 e1=>?_ | refine new_obj hr0 fun H1 S1 e1=>?_
  walk_at "rd"
  refine ⟨r,n,_,rfl,rfl,e1,by omega,by omega,xx (by show 1 * (n:Int).toNat <= 16000000; omega),fun l hl=>?_⟩
  rw [jk]
  with_reducible first | refine yy hl fun H2 S2 e2=>?_ | refine new_obj hl fun H2 S2 e2=>?_
  have S12:=S1.trans S2
  have hp2:=S12 _ _ hp
  walk_at "rd"
  have npl:l ≠ p:=fun z=>by rw [z,S1 _ _ hp] at hl; cases hl
  exact k l _ (S1.free hl) ⟨yd,yp npl e2⟩ ((But.of S12).trans But.upd)
theorem yvh:yn ["self","chances"] ["self","chances"] (ya yet):=⟨rfl,rfl,rfl,by decide +kernel,rfl,by decide +kernel,by decide +kernel⟩
theorem yv5 (T:Txt K mg a):we P w K mg base CX0 1 a.f_q34 a.d_q34 ["self","chances"] (yko K a):=by
 refine T.F_q34.ok yvh (fun vs H Q E h=>?_) (fun cdv A outer s H vs Q E hr h=>?_)
 ·obtain ⟨p,dx,l,c,ws,cs,n,rfl,_⟩:=h
  rfl
 ·obtain ⟨p,dx,l,c,ws,cs,n,rfl,n1,n6,hw,hc,⟨hp,hl⟩,hq,k⟩:=h
  refine ⟨_,(yi (yv (ym vk (yr (ju rfl) rfl T.z_sum (by decide +kernel) (yb (yig (js:=[]) (ys:=[]) (xs:=["weight","chance"]) (g:=yul K 2 (z7 (w5 0) (z7 (w5 1) yp2))) rfl (yq5 rfl T.z_zip (yb (y6 (pv 0) rfl) (yb (pv 1) yg (yc rfl)) (yc rfl))) (fun C s2 H2 fp=>(ym wk (pv 0) (pv 1))) rfl (fun C s2 H2 fp=>ynh rfl (zw (w6 (i:=0) (show List.Nodup ((["weight","chance"]:List Str) ++ ([]:List Str)) by decide +kernel) rfl (Or.inl rfl)) (zw (w6 (i:=1) (show List.Nodup ((["weight","chance"]:List Str) ++ ([]:List Str)) by decide +kernel) rfl (Or.inl rfl)) yhi))) rfl (hyc:=v9) (hrel:=v9)) yg (yc rfl))) (yr (ju rfl) rfl T.z_sum (by decide +kernel) (yb (y6 (pv 0) rfl) yg (yc rfl)))))),?_⟩
  try dsimp only [wc]
  refine yo (σ':=[some _,some _]) rfl ?_
  have hlen:cs.length = ws.length:=by rw [hw.len,hc.len]
  walk_at "rd"
  refine ⟨l,c,rfl,⟨_,_,SqL.of hl,hq⟩,fun D hD=>?_⟩
  refine ybm (fun i=>V.int ((ws[i]?).getD 0 * (cs[i]?).getD 0)) (SqL.of hl) hq (by rw [List.length_map,List.length_map,hlen]) hD (fun i x y H2 tt pre hx hy S2 hD2 htt hpre=>?_) (fun H2 S2 hD2=>?_)
  ·obtain ⟨v1,v2,rfl⟩:=ymy hpre
   obtain ⟨w,rfl,wm,wi,il⟩:=uq hx
   obtain ⟨u,rfl,um,ui,_⟩:=uq hy
   have w1:=hw.one w wm
   have w2:=hw.top w wm
   have S3:=S2.trans (vn (o:=HO.tup [V.int w,V.int u]) htt)
   have hD3:=zk (o':=HO.tup [V.int w,V.int u]) htt hD2
   have ht3:upd H2 tt (HO.tup [V.int w,V.int u]) tt = some (.tup [V.int w,V.int u]):=yd
   generalize upd H2 tt (HO.tup [V.int w,V.int u]) = H3 at S3 hD3 ht3
   refine yms (SqT.of ht3) rfl ?_
   show z7 (w5 0) (z7 (w5 1) yp2) [V.int w,V.int u] (v1 :: v2 :: wa [] [some (V.ref p),some (V.ref c)]) H3 _
   walk_at "rd"
   refine ⟨⟨[some (.int w),some (.int u)],rfl,rfl⟩,?_⟩
   walk_at "rd"
   refine Mp.doneR hD (v7 (by rw [List.length_map,hw.len]; omega)) (by rw [List.length_map]; exact il) S3 hD3 ?_
   rw [wi,ui]
   rfl
  ·have hD2:=yh3 hD2 (yrm (g:=fun w c=>w * c) hlen)
   have hp2:=S2 _ _ hp
   have hl2:=S2 _ _ hl
   have p1:=hw.pos n1
   have p2:=hw.small n6
   walk_at "rd"
   refine ⟨D,_,rfl,SqL.of hD2,?_⟩
   walk_at "rd"
   refine ⟨l,_,rfl,SqL.of hl2,?_⟩
   walk_at "rd"
   exact k _ S2
theorem ybx:yn ["self","chances","bit","shares","whole","own","grown","dropped"] ["self","chances","bit"] (ya ydf):=⟨rfl,rfl,rfl,by decide +kernel,rfl,by decide +kernel,by decide +kernel⟩
theorem yw0 (T:Txt K mg a):we P w K mg base (CXe P w) 5 a.f_q35 a.d_q35 ["self","chances","bit"] (ykq K a a.C_NB):=by
 refine T.F_q35.okE ybx (fun vs H Q E h=>?_) (fun cdv A outer s H vs Q E hr h=>?_)
 ·obtain ⟨p,dx,l,c,ws,cs,n,x,m,rfl,_⟩:=h
  rfl
 ·obtain ⟨p,dx,l,c,ws,cs,n,x,m,rfl,n1,n6,hw,hc,⟨hp,hl⟩,hq,ty,k1,k2⟩:=h
  refine yq (vj (vv (ybd T) (hr.mono (by decide)) rfl T.m_q10 T.F_q10.kp T.B_q10 .nil v8 (yb (pv 2) yg (yc rfl)))) ?_
  refine yq (yoc (i:=3) (js:=[2]) (ys:=["bit"]) (xs:=["weight","chance"]) (g:=yul K 2 (z7 (w5 0) (z7 (w5 1) yp2))) ybx.nd rfl rfl rfl (yq5 rfl T.z_zip (yb (y6 (pv 0) rfl) (yb (pv 1) yg (yc rfl)) (yc rfl))) (fun C s2 H2 fp=>(ym wk (pv 0) (vv (yx1 T) (hr.mono (by decide)) rfl T.m_q11 T.F_q11.kp T.B_q11 .nil w4 (yb (pv 1) (yb (pv 2) yg (yc rfl)) (yc rfl))))) rfl (fun C s2 H2 fp=>ynh rfl (zw (w6 (i:=0) (show List.Nodup ((["weight","chance"]:List Str) ++ (["bit"]:List Str)) by decide +kernel) rfl (Or.inl rfl)) (zw (w6 (i:=1) (show List.Nodup ((["weight","chance"]:List Str) ++ (["bit"]:List Str)) by decide +kernel) rfl (Or.inl rfl)) yhi))) rfl (hyc:=(all_cons rfl v9)) (hrel:=(all_cons rfl v9))) ?_
  refine yq (vd (i:=4) ybx.nd rfl (Or.inr rfl) (yr (ju rfl) rfl T.z_sum (by decide +kernel) (yb (pv 3) yg (yc rfl)))) ?_
  refine yq (vd (i:=5) ybx.nd rfl (Or.inr rfl) (ym wk (vq rfl T.c_OWN_PARTS) (yr yw rfl T.z_len (by decide +kernel) (yb (pv 3) yg (yc rfl))))) ?_
  refine yq (yn5 (i:=6) (js:=[4,5]) (ys:=["whole","own"]) ybx.nd rfl rfl rfl (wt (pv 3)) (fun C s2 H2 fp=>(ym vw (ym wk (pv 2) (pv 0)) (pv 1))) rfl rfl (hyc:=(all_cons rfl (all_cons rfl v9))) (hrel:=(all_cons rfl (all_cons rfl v9)))) ?_
  refine yq (vd (i:=7) ybx.nd rfl (Or.inr rfl) (yr (yfz rfl) rfl T.z_max (by decide +kernel) (yb (ym ue (yqq PySem.F.plainAttrs_int PySem.F.slot_int_bit_length PySem.F.type_int_bit_length ysv (yr (ju rfl) rfl T.z_sum (by decide +kernel) (yb (pv 6) yg (yc rfl)))) (vq rfl T.c_MOST_FIGURES)) (yb yj yg (yc rfl)) (yc rfl)))) ?_
  refine ⟨_,(yi (vo (pv 0) (uz (js:=[7]) (ys:=["dropped"]) rfl (wt (pv 6)) (fun C s2 H2 fp=>(ym yqd (pv 0) (pv 1))) rfl rfl (hyc:=(all_cons rfl v9)) (hrel:=(all_cons rfl v9))) rfl)),?_⟩
  try dsimp only [wc]
  refine yo (σ':=[some _,some _,some _,none,none,none,none,none]) rfl ?_
  have hlen:cs.length = ws.length:=by rw [hw.len,hc.len]
  walk_at "rd"
  refine ⟨x,m,rfl,ty,fun hx=>?_,k2⟩
  obtain ⟨b,rfl,b0,b1⟩:=yir hx
  have k:=k1 b rfl b0 b1
  walk_at "rd"
  refine ⟨l,c,rfl,⟨_,_,SqL.of hl,hq⟩,fun D hD=>?_⟩
  refine ybm (fun i=>V.int ((ws[i]?).getD 0 * giv ((cs[i]?).getD 0) b)) (SqL.of hl) hq (by rw [List.length_map,List.length_map,hlen]) hD (fun i x y H2 tt pre hx hy S2 hD2 htt hpre=>?_) (fun H2 S2 hD2=>?_)
  ·obtain ⟨v1,v2,rfl⟩:=ymy hpre
   obtain ⟨w,rfl,wm,wi,il⟩:=uq hx
   obtain ⟨u,rfl,um,ui,_⟩:=uq hy
   have w1:=hw.one w wm
   have w2:=hw.top w wm
   have hcu:=yiw (yx5 hc um)
   have hbu:=yhn b0 b1
   have S3:=S2.trans (vn (o:=HO.tup [V.int w,V.int u]) htt)
   have hD3:=zk (o':=HO.tup [V.int w,V.int u]) htt hD2
   have ht3:upd H2 tt (HO.tup [V.int w,V.int u]) tt = some (.tup [V.int w,V.int u]):=yd
   generalize upd H2 tt (HO.tup [V.int w,V.int u]) = H3 at S3 hD3 ht3
   refine yms (SqT.of ht3) rfl ?_
   show z7 (w5 0) (z7 (w5 1) yp2) [V.int w,V.int u] (v1 :: v2 :: wa [2] [some (V.ref p),some (V.ref c),some (V.int b),none,none,none,none,none]) H3 _
   walk_at "rd"
   refine ⟨⟨[some (.int w),some (.int u)],rfl,rfl⟩,?_⟩
   walk_at "rd"
   refine ⟨.int u,_,.int b,_,rfl,.int u,.int b,fun z=>(by rw [hcu] at z; cases z),fun _ z=>(by rw [hbu] at z; cases z),fun c' b' ec eb _ _=>?_⟩
   cases ec
   cases eb
   walk_at "rd"
   refine Mp.doneR hD (v7 (by rw [List.length_map,hw.len]; omega)) (by rw [List.length_map]; exact il) S3 hD3 ?_
   rw [wi,ui]
   rfl
  ·have hD2:H2 D = some (.lst ((shL ws cs b).map V.int)):=yh3 hD2 (yrm (g:=fun w c=>w * giv c b) hlen)
   have shl:(shL ws cs b).length = n:=by rw [yhh hlen.symm,hw.len]
   have hp2:=S2 _ _ hp
   have ek:lrn ws cs b = (grL (shL ws cs b)).map fun v=>v / 2 ^ tOf (grL (shL ws cs b)).sum:=rfl
   rw [ek] at k
   generalize shL ws cs b = sh at hD2 shl k
   have eg:grL sh = sh.map fun s=>31 * (n:Int) * s + sh.sum:=by rw [<- shl]; rfl
   walk_at "rd"
   refine ⟨D,_,rfl,SqL.of hD2,?_⟩
   walk_at "rd"
   refine x3 (SqL.of hD2) ?_
   rw [List.length_map,shl]
   walk_at "rd"
   refine ⟨D,rfl,⟨_,SqL.of hD2⟩,fun G hG=>?_⟩
   refine ya6 (onI fun s=>31 * (n:Int) * s + sh.sum) (SqL.of hD2) hG (fun i y H3 hy S3 hG3=>?_) (fun H3 S3 hG3=>?_)
   ·obtain ⟨s',rfl,_,_,il⟩:=uq hy
    show tOp _ _ _ (some (V.int s') :: wa [4,5] [some (V.ref p),some (V.ref c),some (V.int b),some (V.ref D),some (V.int sh.sum),some (V.int (31 * (n:Int))),none,none]) H3 _
    walk_at "rd"
    exact Mp.done hG (v7 (by rw [List.length_map,shl]; omega)) hy S3 hG3 rfl
   ·rw [yl0,<- eg] at hG3
    have grl:(grL sh).length = n:=by rw [yml,shl]
    generalize grL sh = gr at hG3 k grl
    have hp3:=S3 _ _ hp2
    walk_at "rd"
    refine ⟨G,_,rfl,SqL.of hG3,?_⟩
    walk_at "rd"
    refine ⟨_,_,rfl,?_⟩
    have et:(if (0:Int) > ((Builtin.Int.intBits gr.sum:Nat):Int) - 48 then (0:Int) else ((Builtin.Int.intBits gr.sum:Nat):Int) - 48) = ((tOf gr.sum:Nat):Int):=by
     show _ = (((ypk gr.sum) - 48:Nat):Int)
     have e:Builtin.Int.intBits gr.sum = ypk gr.sum:=rfl
     rw [e]
     split <;> omega
    rw [et]
    generalize tOf gr.sum = t at k
    walk_at "rd"
    refine ⟨G,rfl,⟨_,SqL.of hG3⟩,fun Z hZ=>?_⟩
    refine ya6 (onI fun v=>v / 2 ^ t) (SqL.of hG3) hZ (fun i y H4 hy S4 hZ4=>?_) (fun H4 S4 hZ4=>?_)
    ·obtain ⟨s',rfl,_,_,il⟩:=uq hy
     show tOp _ _ _ (some (V.int s') :: wa [7] [some (V.ref p),some (V.ref c),some (V.int b),some (V.ref D),some (V.int sh.sum),some (V.int (31 * (n:Int))),some (V.ref G),some (V.int (t:Int))]) H4 _
     walk_at "rd"
     refine i_I (Int.natCast_nonneg t) ?_
     exact Mp.done hZ (v7 (by rw [List.length_map,grl]; omega)) hy S4 hZ4 rfl
    ·rw [yl0] at hZ4
     have hp4:=S4 _ _ hp3
     walk_at "rd"
     have nz:Z ≠ p:=fun z=>by rw [z,hp3] at hZ; cases hZ
     have S24:=S2.trans (S3.trans S4)
     exact k Z _ ((S2.trans S3).free hZ) ⟨yd,yp nz hZ4⟩ ((But.of S24).trans But.upd)
theorem yv4:yn ["self"] ["self"] (ya yeu):=⟨rfl,rfl,rfl,by decide +kernel,rfl,by decide +kernel,by decide +kernel⟩
theorem yao.sqt {K:W.Frag} {a:Ads} {H H':Hp} {p dx lk d:Addr} {kd:Fin 3} {f:List Int->Option Slt} {O:Addr->Prop} {m:Nat} (h:yao a H p dx lk d kd f O m) (B:ypp O H H') {t:Addr} {xs:List V} (e:SqT K H t xs):SqT K H' t xs:=by
 have no:∀ o:HO,H t = some o->yzl o = false->H' t = some o:=fun o ho hi=>B _ _ ho fun z=>by
  obtain ⟨o',ho',hi'⟩:=h.own t z
  rw [ho] at ho'
  cases ho'
  rw [hi] at hi'
  cases hi'
 rcases e with (e | ⟨o,e⟩) | e
 ·exact .inl (.inl (no _ e rfl))
 ·exact .inl (.inr ⟨o,no _ e rfl⟩)
 ·exact .inr e
theorem yao.up {a:Ads} {H:Hp} {p dx lk d:Addr} {kd:Fin 3} {f:List Int->Option Slt} {O:Addr->Prop} {m m':Nat} (h:yao a H p dx lk d kd f O m) (hm:m <= m'):yao a H p dx lk d kd f O m':=by
 obtain ⟨kvs,loc,h1,h2,h3⟩:=h.tb
 exact ⟨h.me,h.own,h.np,h.dO,kvs,loc,h1,Nat.le_trans h2 hm,h3⟩
theorem u8.mvT {K:W.Frag} {H H':Hp} {k:Addr} {x:V} {ps:List Int} (h:u8 K H k x ps) (h1:∀ t xs,SqT K H t xs->SqT K H' t xs):u8 K H' k x ps:=by
 obtain ⟨t,q1,q2,q3,q4⟩:=h
 exact ⟨t,h1 _ _ q1,h1 _ _ q2,q3,q4⟩
def xl (g:Nat->Addr) (n:Nat):List V:=(List.range n).map fun i=>V.ref (g i)
theorem wj (g:Nat->Addr) (n:Nat):(xl g n).length = n:=by unfold xl; rw [List.length_map,List.length_range]
theorem zv {g:Nat->Addr} {n i:Nat} {x:V} (h:(xl g n)[i]? = some x):x = .ref (g i)/\i < n:=by
 have hi:i < n:=by
  have:=(List.getElem?_eq_some_iff.mp h).1
  rw [wj] at this
  exact this
 unfold xl at h
 rw [List.getElem?_map,List.getElem?_range hi] at h
 exact ⟨(Option.some.inj h).symm,hi⟩
theorem zh (g:Nat->Addr) (n:Nat):xl g (n + 1) = xl g n ++ [.ref (g n)]:=by
 unfold xl
 rw [List.range_succ,List.map_append]
 rfl
theorem ul {g h:Nat->Addr} {n:Nat} (e:∀ i,i < n->g i = h i):xl g n = xl h n:=by
 unfold xl
 exact List.map_congr_left fun i hi=>by rw [e i (List.mem_range.mp hi)]
structure Bks (K:W.Frag) (a:Ads) (H:Hp) (n:Nat) (bk dx lk dd:Nat->Addr) (kd:Nat->Fin 3) (ps:Nat->List Int) (f:Nat->List Int->Option Slt) (O:Nat->Addr->Prop) (m:Nat):Prop where
 look:∀ i,i < n->u8 K H (lk i) (.str (kdS (kd i))) (ps i)
 b:∀ i,i < n->yao a H (bk i) (dx i) (lk i) (dd i) (kd i) (f i) (O i) m
 dj:∀ i j c,i < n->j < n->i ≠ j->O i c->¬ O j c
 nb:∀ i j,i < n->j < n->¬ O i (bk j)
def AtS (H:Hp) (d:Addr) (k:List Int) (q:Addr):Prop:=∀ kvs,H d = some (.dT kvs)->yan kvs (kI k) = some (.ref q)
theorem yao.slot {a:Ads} {H:Hp} {p dx lk d q:Addr} {kd:Fin 3} {f:List Int->Option Slt} {O:Addr->Prop} {m:Nat} {k:List Int} {s:Slt} (h:yao a H p dx lk d kd f O m) (hf:f k = some s) (hq:AtS H d k q):∃ dq,H q = some (oS a dq s)/\s.ok/\s.kind = kd/\O q:=by
 obtain ⟨kvs,loc,h1,h2,h3,h4,h5⟩:=h.tb
 obtain ⟨q1,q2,q3,q4,q5⟩:=h4 k s hf
 have e:=hq kvs h1
 rw [q1] at e
 injection e with e
 injection e with e
 subst e
 exact ⟨_,q2,q3,q4,q5⟩
theorem yao.told {a:Ads} {H H':Hp} {p dx lk d q dq:Addr} {kd:Fin 3} {f:List Int->Option Slt} {O:Addr->Prop} {m:Nat} {k:List Int} {s:Slt} {b:Int} (h:yao a H p dx lk d kd f O m) (hf:f k = some s) (hq:AtS H d k q) (b0:0 <= b) (b1:b <= 1)
  (h3:H' q = some (oS a dq (s.see b))) (B:But q H H'):yao a H' p dx lk d kd (ye1 f k (s.see b)) O m:=by
 have hme:=h.me
 obtain ⟨kvs,loc,h1,h2,h3',h4,h5⟩:=id h.tb
 obtain ⟨q1,q2,q3,q4,q5⟩:=h4 k s hf
 have e:=hq kvs h1
 rw [q1] at e
 injection e with e
 injection e with e
 have npl:p ≠ q:=fun z=>h.np (by rw [z,<- e]; exact q5)
 have ndl:d ≠ q:=fun z=>by
  obtain ⟨C,fs,eo⟩:=yf6 a (loc k).2 s
  rw [e,<- z,h1,eo] at q2
  cases q2
 refine ⟨B _ _ hme npl,fun c hc=>?_,h.np,h.dO,kvs,fun j=>if j = k then (q,dq) else loc j,B _ _ h1 ndl,h2,fun j hj=>?_,fun j s' hj=>?_,fun j1 j2 s1 s2 e1 e2 el=>?_⟩
 ·obtain ⟨o,ho,hi⟩:=h.own c hc
  by_cases z:c = q
  ·rw [z]
   obtain ⟨C,fs,eo⟩:=yf6 a dq (s.see b)
   exact ⟨_,h3,by rw [eo]; rfl⟩
  ·exact ⟨o,B _ _ ho z,hi⟩
 ·refine h3' j ?_
  unfold ye1 at hj
  split at hj
  ·cases hj
  ·exact hj
 ·unfold ye1 at hj
  by_cases z:j = k
  ·rw [if_pos z] at hj
   cases hj
   subst z
   dsimp only
   rw [if_pos rfl]
   exact ⟨by rw [q1,e],h3,Slt.see_ok q3 b0 b1,(yn8 s b).trans q4,e ▸ q5⟩
  ·rw [if_neg z] at hj
   obtain ⟨p1,p2,p3,p4,p5⟩:=h4 j s' hj
   dsimp only
   rw [if_neg z]
   exact ⟨p1,B _ _ p2 (fun w=>z (h5 j k s' s hj hf (w.trans e.symm))),p3,p4,p5⟩
 ·have some_of:∀ j s',ye1 f k (s.see b) j = some s'->∃ t,f j = some t:=fun j s' h=>by
   unfold ye1 at h
   by_cases z:j = k
   ·exact ⟨s,by rw [z]; exact hf⟩
   ·rw [if_neg z] at h
    exact ⟨s',h⟩
  obtain ⟨t1,f1⟩:=some_of j1 s1 e1
  obtain ⟨t2,f2⟩:=some_of j2 s2 e2
  refine h5 j1 j2 t1 t2 f1 f2 ?_
  have yrv:∀ j,(if j = k then ((q,dq):Addr × Addr) else loc j).1 = (loc j).1:=fun j=>by
   by_cases z:j = k
   ·rw [if_pos z,z]
    exact e.symm
   ·rw [if_neg z]
  rw [<- yrv j1,<- yrv j2]
  exact el
theorem AtS.told {a:Ads} {H H':Hp} {p dx lk d q:Addr} {kd:Fin 3} {f:List Int->Option Slt} {O:Addr->Prop} {m:Nat} {k:List Int} (h:yao a H p dx lk d kd f O m) {r:Addr} (hd:d ≠ r) (B:But r H H') (hq:AtS H d k q):AtS H' d k q:=fun kvs e=>by
 obtain ⟨kvs0,loc,h1,_⟩:=h.tb
 rw [B _ _ h1 hd] at e
 cases e
 exact hq _ h1
section
variable {K:W.Frag} {a:Ads} {H H':Hp} {n m:Nat} {bk dx lk dd:Nat->Addr} {kd:Nat->Fin 3} {ps:Nat->List Int} {f:Nat->List Int->Option Slt} {O:Nat->Addr->Prop}
theorem Bks.frame (h:Bks K a H n bk dx lk dd kd ps f O m) {O2:Addr->Prop} (B:ypp O2 H H') (dj:∀ i b,i < n->O i b->¬ O2 b) (hp:∀ i,i < n->¬ O2 (bk i)) (ht:∀ t xs,SqT K H t xs->SqT K H' t xs):Bks K a H' n bk dx lk dd kd ps f O m :=
 ⟨fun i hi=>(h.look i hi).mvT ht,fun i hi=>(h.b i hi).frame B (fun b hb=>dj i b hi hb) (hp i hi),h.dj,h.nb⟩
theorem Bks.same (h:Bks K a H n bk dx lk dd kd ps f O m) (S:vm H H'):Bks K a H' n bk dx lk dd kd ps f O m :=
 h.frame (O2:=fun _=>False) (fun b o e _=>S b o e) (fun _ _ _ _ z=>z) (fun _ _ z=>z) fun _ _ e=>S.tup e
theorem Bks.move (h:Bks K a H n bk dx lk dd kd ps f O m) {j m':Nat} (hj:j < n) {f':List Int->Option Slt} {O':Addr->Prop} (hm:m <= m') (hb:yao a H' (bk j) (dx j) (lk j) (dd j) (kd j) f' O' m') (hO:∀ c,O' c->O j c\/H c = none) (B:ypp (O j) H H') :
  Bks K a H' n bk dx lk dd kd ps (fun i=>if i = j then f' else f i) (fun i=>if i = j then O' else O i) m':=by
 have hbj:=h.b j hj
 have live:∀ q c,q < n->q ≠ j->O q c->¬ O' c:=fun q c hq hqj w w'=>by
  rcases hO c w' with v | v
  ·exact h.dj q j c hq hj hqj w v
  ·obtain ⟨o,ho,_⟩:=(h.b q hq).own c w
   rw [v] at ho
   cases ho
 refine ⟨fun i hi=>(h.look i hi).mvT fun t xs e=>hbj.sqt B e,fun i hi=>?_,fun i l c hi hl hil e1 e2=>?_,fun i l hi hl e=>?_⟩
 ·try dsimp only
  by_cases z:i = j
  ·subst z
   rw [if_pos rfl,if_pos rfl]
   exact hb
  ·rw [if_neg z,if_neg z]
   exact ((h.b i hi).frame B (fun b hb'=>h.dj i j b hi hj z hb') (h.nb j i hj hi)).up hm
 ·try dsimp only at e1 e2
  by_cases z1:i = j
  ·rw [if_pos z1] at e1
   have z2:l ≠ j:=fun w=>hil (z1.trans w.symm)
   rw [if_neg z2] at e2
   exact live l c hl z2 e2 e1
  ·rw [if_neg z1] at e1
   by_cases z2:l = j
   ·rw [if_pos z2] at e2
    exact live i c hi z1 e1 e2
   ·rw [if_neg z2] at e2
    exact h.dj i l c hi hl hil e1 e2
 ·try dsimp only at e
  by_cases z:i = j
  ·rw [if_pos z] at e
   rcases hO _ e with v | v
   ·exact h.nb j l hj hl v
   ·rw [(h.b l hl).me] at v
    cases v
  ·rw [if_neg z] at e
   exact h.nb i l hi hl e
theorem AtS.move (h:Bks K a H n bk dx lk dd kd ps f O m) {i j:Nat} (hi:i < n) (hj:j < n) (hij:i ≠ j) (B:ypp (O j) H H') {k:List Int} {q:Addr} (hq:AtS H (dd i) k q):AtS H' (dd i) k q:=fun kvs e=>by
 obtain ⟨kvs0,loc,h1,_⟩:=(h.b i hi).tb
 rw [B _ _ h1 (h.dj i j _ hi hj hij (h.b i hi).dO)] at e
 cases e
 exact hq _ h1
theorem Bks.nlst (h:Bks K a H n bk dx lk dd kd ps f O m) {l:Addr} {xs:List V} (hl:H l = some (.lst xs)):∀ i,i < n->¬ O i l:=fun i hi z=>by
 obtain ⟨o,ho,hi'⟩:=(h.b i hi).own l z
 rw [hl] at ho
 cases ho
 cases hi'
end
def ypu (n:Nat) (kd:Nat->Fin 3) (f:Nat->List Int->Option Slt) (g:Nat->List Int->Slt):Prop:=∀ i,i < n->∀ k,(f i k).getD (kd0 (kd i)) = g i k
theorem ypu.put {n:Nat} {kd:Nat->Fin 3} {f:Nat->List Int->Option Slt} {g:Nat->List Int->Slt} (h:ypu n kd f g) (j:Nat) (hj:j < n) (k:List Int):ypu n kd (fun i=>if i = j then ye1 (f j) k ((f j k).getD (kd0 (kd j))) else f i) g:=fun i hi k'=>by
 dsimp only
 by_cases z:i = j
 ·subst z
  rw [if_pos rfl]
  unfold ye1
  by_cases w:k' = k
  ·rw [if_pos w,w]
   exact h i hi k
  ·rw [if_neg w]
   exact h i hi k'
 ·rw [if_neg z]
  exact h i hi k'
def yj4 (K:W.Frag) (a:Ads):Sp:=fun vs H Q _=>∃ (p dp ll bl mp el pl0:Addr) (nd:Int) (sg:List Int) (n m:Nat) (bk dx lk dd:Nat->Addr) (kd:Nat->Fin 3) (ps:Nat->List Int) (f:Nat->List Int->Option Slt) (O:Nat->Addr->Prop) (g:Nat->List Int->Slt),vs = [.ref p] /\
 H p = some (.ins a.C_Ft dp (xf (.ref ll) (.ref bl) (.ref mp) (.ref el) (.int nd) (.ref pl0)))/\H bl = some (.lst (xl bk n))/\H el = some (.lst (sg.map V.int))/\Bks K a H n bk dx lk dd kd ps f O m/\ypu n kd f g/\n <= 6/\m + 10 < 1000000/\(∀ i,i < n->¬ O i p) /\
 ∀ (pl:Addr) (sl:Nat->Addr) (f':Nat->List Int->Option Slt) (O':Nat->Addr->Prop) (H':Hp),H' p = some (.ins a.C_Ft dp (xf (.ref ll) (.ref bl) (.ref mp) (.ref el) (.int nd) (.ref pl)))->H' pl = some (.lst (xl sl n))->H pl = none ->
  Bks K a H' n bk dx lk dd kd ps f' O' (m + n)->ypu n kd f' g->(∀ j,j < n->(∃ s,f' j (ctx (ps j) sg nd) = some s)/\AtS H' (dd j) (ctx (ps j) sg nd) (sl j))->(∀ j c,j < n->O' j c->O j c\/H c = none) ->
  (∀ c o,H c = some o->c ≠ p->(∀ j,j < n->¬ O j c)->H' c = some o)->(∀ c o,H c = some o->∃ o',H' c = some o')->Q .non H'
theorem yqc (T:Txt K mg a):we P w K mg base CX0 5 a.f_q37 a.d_q37 ["self"] (yj4 K a):=by
 refine T.F_q37.ok yv4 (fun vs H Q E h=>?_) (fun cdv A outer s H vs Q E hr h=>?_)
 ·obtain ⟨p,dp,ll,bl,mp,el,pl0,nd,sg,n,m,bk,dx,lk,dd,kd,ps,f,O,g,rfl,_⟩:=h
  rfl
 ·obtain ⟨p,dp,ll,bl,mp,el,pl0,nd,sg,n,m,bk,dx,lk,dd,kd,ps,f,O,g,rfl,hp,hbl,hel,hB,hA,n6,hm,np,k⟩:=h
  refine ⟨_,(yi (vo (pv 0) (uz (js:=[0]) (ys:=["self"]) rfl (wt (y6 (pv 0) rfl)) (fun C s2 H2 fp=>(x9 (pv 0) T.cl_Book T.M_q32 (yyb T) (hr.mono (by decide)) T.B_q32 .nil vf (yb (yl5 (K:=K) rfl (pv 1) rfl) (yb (yl5 (K:=K) rfl (pv 1) rfl) yg (yc rfl)) (yc rfl)))) rfl rfl (hyc:=(all_cons rfl v9)) (hrel:=(all_cons rfl v9))) rfl)),?_⟩
  try dsimp only [wc]
  refine yo (σ':=[some _]) rfl ?_
  walk_at "rd"
  refine ⟨bl,rfl,⟨_,SqL.of hbl⟩,fun D hD=>?_⟩
  have nbl:=hB.nlst hbl
  have nel:=hB.nlst hel
  refine j6 (K:=K) (xs:=xl bk n) (fun i G=>∃ (sl:Nat->Addr) (f':Nat->List Int->Option Slt) (O':Nat->Addr->Prop),G D = some (.lst (xl sl i))/\Bks K a G n bk dx lk dd kd ps f' O' (m + i)/\ypu n kd f' g/\(∀ j,j < i->(∃ s,f' j (ctx (ps j) sg nd) = some s)/\AtS G (dd j) (ctx (ps j) sg nd) (sl j)) /\
   (∀ j c,j < n->O' j c->O j c\/H c = none)/\(∀ c o,H c = some o->(∀ j,j < n->¬ O j c)->G c = some o)/\(∀ c o,H c = some o->∃ o',G c = some o'))
   ⟨fun _=>0,f,O,yd,hB.same (vn hD),hA,fun j hj=>absurd hj (Nat.not_lt_zero j),fun j c _ z=>.inl z,fun c o e _=>zk hD e,fun c o e=>⟨o,zk hD e⟩⟩ (fun i G _ z=>?_) (fun i x G hx hi z=>?_) (fun G z=>?_)
  ·obtain ⟨_,_,_,_,_,_,_,_,w,_⟩:=z
   exact SqL.of (w _ _ hbl nbl)
  ·obtain ⟨sl,f',O',gD,gB,gA,gS,gO,gF,gL⟩:=z
   obtain ⟨rfl,hin⟩:=zv hx
   have hpG:=gF _ _ hp np
   have helG:=gF _ _ hel nel
   have hme:=(gB.b i hin).me
   show yht _ _ _ _ _ _ _ (some (V.ref (bk i)) :: wa [0] [some (V.ref p)]) G _
   walk_at "rd"
   refine ⟨bk i,dx i,lk i,dd i,el,kd i,f' i,O' i,m + i,ps i,sg,nd,rfl,gB.b i hin,by omega,gB.look i hin,SqL.of helG,fun q O2 G2 hb2 hv hO2 hM2 B2=>?_⟩
   have nD:=gB.nlst gD
   have gD2:G2 D = some (.lst (xl sl i)):=B2 _ _ gD (nD i hin)
   refine xu (n:=(xl bk n).length) gD2 (v7 (by rw [wj]; omega)) hi ?_
   have M2:=gB.move hin (Nat.le_succ (m + i)) hb2 hO2 B2
   have nD2:=M2.nlst gD2
   have SB:∀ c o,G2 c = some o->c ≠ D->upd G2 D (.lst (xl sl i ++ [V.ref q])) c = some o:=fun c o e ne=>yp ne e
   have M3:=M2.frame (O2:=fun c=>c = D) (fun c o e ne=>SB c o e ne) (fun j c hj w z=>nD2 j hj (z ▸ w)) (fun j hj z=>by
    have:=(M2.b j hj).me
    rw [z,gD2] at this
    cases this) (fun t xs e=>by
    rcases e with (e | ⟨o,e⟩) | e
    ·exact .inl (.inl (SB _ _ e (fun z=>by rw [z,gD2] at e; cases e)))
    ·exact .inl (.inr ⟨o,SB _ _ e (fun z=>by rw [z,gD2] at e; cases e)⟩)
    ·exact .inr e)
   have up:∀ j,j < n->AtS G2 (dd j) (ctx (ps j) sg nd) (if j = i then q else sl j)->AtS (upd G2 D (.lst (xl sl i ++ [V.ref q]))) (dd j) (ctx (ps j) sg nd) (if j = i then q else sl j):=fun j hj h =>
    h.told (M2.b j hj) (fun z=>nD2 j hj (by rw [<- z]; exact (M2.b j hj).dO)) (fun c o e ne=>SB c o e ne)
   refine ⟨fun j=>if j = i then q else sl j,_,_,?_,M3,gA.put i hin _,fun j hj=>?_,fun j c hj w=>?_,fun c o e no=>?_,fun c o e=>?_⟩
   ·rw [yd,zh,if_pos rfl]
    congr 3
    exact ul fun j hj=>(if_neg (by omega)).symm
   ·by_cases z:j = i
    ·subst z
     refine ⟨⟨(f' j (ctx (ps j) sg nd)).getD (kd0 (kd j)),?_⟩,up j hin ?_⟩
     ·try dsimp only
      rw [if_pos rfl]
      unfold ye1
      rw [if_pos rfl]
     ·rw [if_pos rfl]
      exact hv
    ·have hjn:j < n:=by omega
     obtain ⟨⟨s',hs'⟩,hat⟩:=gS j (by omega)
     refine ⟨⟨s',?_⟩,up j hjn ?_⟩
     ·try dsimp only
      rw [if_neg z]
      exact hs'
     ·rw [if_neg z]
      exact hat.move gB hjn hin z B2
   ·try dsimp only at w
    by_cases z:j = i
    ·subst z
     rw [if_pos rfl] at w
     rcases hO2 c w with v | v
     ·exact gO j c hj v
     ·refine .inr ?_
      cases e:H c with
      | none=>rfl
      | some o =>
       obtain ⟨o',w'⟩:=gL c o e
       rw [w'] at v
       cases v
    ·rw [if_neg z] at w
     exact gO j c hj w
   ·have hG:=gF c o e no
    have nc:¬ O' i c:=fun w=>by
     rcases gO i c hin w with v | v
     ·exact no i hin v
     ·rw [e] at v
      cases v
    refine SB _ _ (B2 _ _ hG nc) (fun z=>?_)
    rw [z,hD] at e
    cases e
   ·obtain ⟨o1,w1⟩:=gL c o e
    have ncD:c ≠ D:=fun z=>by rw [z,hD] at e; cases e
    by_cases w2:O' i c
    ·obtain ⟨o2,ho2,_⟩:=hb2.own c (hM2 c w2)
     exact ⟨o2,SB _ _ ho2 ncD⟩
    ·exact ⟨o1,SB _ _ (B2 _ _ w1 w2) ncD⟩
  ·obtain ⟨sl,f',O',gD,gB,gA,gS,gO,gF,gL⟩:=z
   rw [wj] at gD gB gS
   have hpG:=gF _ _ hp np
   walk_at "rd"
   have nDp:D ≠ p:=fun z=>by rw [z,hp] at hD; cases hD
   have BP:But p G (upd G p (.ins a.C_Ft dp (xf (.ref ll) (.ref bl) (.ref mp) (.ref el) (.int nd) (.ref D)))):=But.upd
   have np':∀ i,i < n->¬ O' i p:=fun i hi w=>by
    rcases gO i p hi w with v | v
    ·exact np i hi v
    ·rw [hp] at v; cases v
   have M3:=gB.frame (O2:=fun c=>c = p) (fun c o e ne=>BP c o e ne) (fun j c hj w z=>np' j hj (z ▸ w)) (fun j hj z=>by
    have:=(gB.b j hj).me
    rw [z,hpG] at this
    injection this with this
    injection this with _ _ e
    exact absurd (congrArg List.length e) (show ¬ (6 = 2) by decide)) (fun t xs e=>by
    rcases e with (e | ⟨o,e⟩) | e
    ·exact .inl (.inl (BP _ _ e (fun z=>by rw [z,hpG] at e; cases e)))
    ·exact .inl (.inr ⟨o,BP _ _ e (fun z=>by rw [z,hpG] at e; cases e)⟩)
    ·exact .inr e)
   refine k D sl f' O' _ yd (yp nDp gD) hD M3 gA (fun j hj=>⟨(gS j hj).1,(gS j hj).2.told (gB.b j hj) (fun z=>np' j hj (by rw [<- z]; exact (gB.b j hj).dO)) BP⟩) gO (fun c o e nc no=>BP _ _ (gF c o e no) nc) fun c o e=>?_
   by_cases zc:c = p
   ·rw [zc]
    exact ⟨_,yd⟩
   ·obtain ⟨o1,w1⟩:=gL c o e
    exact ⟨o1,BP _ _ w1 zc⟩
structure FA where
 dp:Addr
 ll:Addr
 bl:Addr
 mp:Addr
 mx:Addr
 ml:Addr
 el:Addr
 pl:Addr
 n:Nat
 bk:Nat->Addr
 dx:Nat->Addr
 lk:Nat->Addr
 dd:Nat->Addr
 sl:Nat->Addr
 kd:Nat->Fin 3
 ps:Nat->List Int
structure FX where
 g:Nat->List Int->Slt
 ws:List Int
 sg:List Int
 nd:Int
def FX.key (X:FX) (A:FA) (i:Nat):List Int:=ctx (A.ps i) X.sg X.nd
def FX.cs (X:FX) (A:FA):List Int:=(List.range A.n).map fun i=>(X.g i (X.key A i)).due
def ndN (nd b:Int):Int:=if 0 < nd then (if 256 <= 2 * nd + b then 0 else 2 * nd + b) else if b = 1 then 1 else nd
def sgN (sg:List Int) (nd b:Int):List Int:=if 0 < nd then (if 256 <= 2 * nd + b then sg ++ [2 * nd + b - 256] else sg) else if b = 1 then sg else []
def FX.see (X:FX) (A:FA) (b:Int):FX:={ g:=fun i k=>if k = X.key A i then (X.g i k).see b else X.g i k,ws:=lrn X.ws (X.cs A) b,sg:=sgN X.sg X.nd b,nd:=ndN X.nd b }
structure za (K:W.Frag) (a:Ads) (H:Hp) (p:Addr) (A:FA) (X:FX) (f:Nat->List Int->Option Slt) (O:Nat->Addr->Prop) (m:Nat):Prop where
 me:H p = some (.ins a.C_Ft A.dp (xf (.ref A.ll) (.ref A.bl) (.ref A.mp) (.ref A.el) (.int X.nd) (.ref A.pl)))
 bl:H A.bl = some (.lst (xl A.bk A.n))
 el:H A.el = some (.lst (X.sg.map V.int))
 mx:ypw a A.mp A.mx A.ml X.ws H
 wok:WOk A.n X.ws
 pl:H A.pl = some (.lst (xl A.sl A.n))
 B:Bks K a H A.n A.bk A.dx A.lk A.dd A.kd A.ps f O m
 ag:ypu A.n A.kd f X.g
 at':∀ j,j < A.n->(∃ s,f j (X.key A j) = some s)/\AtS H (A.dd j) (X.key A j) (A.sl j)
 np:∀ i,i < A.n->¬ O i p
 nm:∀ i,i < A.n->¬ O i A.mp
 n1:1 <= A.n
 n6:A.n <= 6
theorem za.same {K:W.Frag} {a:Ads} {H H':Hp} {p:Addr} {A:FA} {X:FX} {f:Nat->List Int->Option Slt} {O:Nat->Addr->Prop} {m:Nat} (h:za K a H p A X f O m) (S:vm H H'):za K a H' p A X f O m :=
 ⟨S _ _ h.me,S _ _ h.bl,S _ _ h.el,h.mx.same S,h.wok,S _ _ h.pl,h.B.same S,h.ag,fun j hj=>⟨(h.at' j hj).1,fun kvs e=>by
  obtain ⟨kvs0,loc,h1,_⟩:=(h.B.b j hj).tb
  rw [S _ _ h1] at e
  cases e
  exact (h.at' j hj).2 _ h1⟩,h.np,h.nm,h.n1,h.n6⟩
theorem za.slot {K:W.Frag} {a:Ads} {H:Hp} {p:Addr} {A:FA} {X:FX} {f:Nat->List Int->Option Slt} {O:Nat->Addr->Prop} {m:Nat} (h:za K a H p A X f O m) {j:Nat} (hj:j < A.n) :
  f j (X.key A j) = some (X.g j (X.key A j))/\(∃ dq,H (A.sl j) = some (oS a dq (X.g j (X.key A j))))/\(X.g j (X.key A j)).ok/\O j (A.sl j):=by
 obtain ⟨⟨s,hs⟩,hat⟩:=h.at' j hj
 have e:=h.ag j hj (X.key A j)
 rw [hs] at e
 have e:s = X.g j (X.key A j):=e
 rw [<- e]
 obtain ⟨dq,h1,h2,h3,h4⟩:=(h.B.b j hj).slot hs hat
 exact ⟨hs,⟨dq,h1⟩,h2,h4⟩
theorem za.cok {K:W.Frag} {a:Ads} {H:Hp} {p:Addr} {A:FA} {X:FX} {f:Nat->List Int->Option Slt} {O:Nat->Addr->Prop} {m:Nat} (h:za K a H p A X f O m):COk A.n (X.cs A):=by
 refine ⟨by unfold FX.cs; rw [List.length_map,List.length_range],fun c hc=>?_,fun c hc=>?_⟩
 ·obtain ⟨j,hj,rfl⟩:=List.mem_map.mp hc
  exact (yi5 (h.slot (List.mem_range.mp hj)).2.2.1).1
 ·obtain ⟨j,hj,rfl⟩:=List.mem_map.mp hc
  exact (yi5 (h.slot (List.mem_range.mp hj)).2.2.1).2
theorem LkG.at' {K:W.Frag} {H:Hp} {lk tp:Addr} {kd:Fin 3} {ps:List Int} (h:LkG H (.ref lk) kd tp ps):u8 K H lk (.str (kdS kd)) ps:=by
 obtain ⟨lk',e,h1,h2,h3⟩:=h
 cases e
 have h3:=h3
 unfold zi at h3
 rw [Bool.and_eq_true,Bool.and_eq_true,List.all_eq_true] at h3
 refine ⟨tp,SqT.of h1,SqT.of h2,fun p hp=>?_,by have:=of_decide_eq_true h3.1.1; rw [List.length_map] at this; exact this⟩
 have w:=h3.1.2 (.int p) (List.mem_map.mpr ⟨p,hp,rfl⟩)
 have w:(decide (1 <= p) && decide (p <= 8)) = true:=w
 rw [Bool.and_eq_true] at w
 exact ⟨of_decide_eq_true w.1,of_decide_eq_true w.2⟩
theorem Bks.snoc {K:W.Frag} {a:Ads} {H:Hp} {n m:Nat} {bk dx lk dd:Nat->Addr} {kd:Nat->Fin 3} {ps:Nat->List Int} {f:Nat->List Int->Option Slt} {O:Nat->Addr->Prop} (h:Bks K a H n bk dx lk dd kd ps f O m)
  (hl:u8 K H (lk n) (.str (kdS (kd n))) (ps n)) {q dq d:Addr} {f':List Int->Option Slt} {O':Addr->Prop} (hb:yao a H q dq (lk n) d (kd n) f' O' m) (dj:∀ j c,j < n->O j c->¬ O' c) (n1:∀ j,j < n->¬ O j q) (n2:∀ j,j < n->¬ O' (bk j)) :
  Bks K a H (n + 1) (upN bk n q) (upN dx n dq) lk (upN dd n d) kd ps (upN f n f') (upN O n O') m:=by
 refine ⟨fun i hi=>?_,fun i hi=>?_,fun i j c hi hj hij e1 e2=>?_,fun i j hi hj e=>?_⟩
 ·by_cases z:i = n
  ·rw [z]
   exact hl
  ·exact h.look i (by omega)
 ·by_cases z:i = n
  ·subst z
   rw [wv,wv,wv,wv,wv]
   exact hb
  ·have hin:i < n:=by omega
   rw [wq hin,wq hin,wq hin,wq hin,wq hin]
   exact h.b i hin
 ·by_cases z:i = n
  ·subst z
   have hjn:j < i:=by omega
   rw [wv] at e1
   rw [wq hjn] at e2
   exact dj j c hjn e2 e1
  ·have hin:i < n:=by omega
   rw [wq hin] at e1
   by_cases w:j = n
   ·subst w
    rw [wv] at e2
    exact dj i c hin e1 e2
   ·have hjn:j < n:=by omega
    rw [wq hjn] at e2
    exact h.dj i j c hin hjn hij e1 e2
 ·by_cases z:i = n
  ·subst z
   rw [wv] at e
   by_cases w:j = i
   ·subst w
    rw [wv] at e
    exact hb.np e
   ·have hjn:j < i:=by omega
    rw [wq hjn] at e
    exact n2 j hjn e
  ·have hin:i < n:=by omega
   rw [wq hin] at e
   by_cases w:j = n
   ·subst w
    rw [wv] at e
    exact n1 i hin e
   ·have hjn:j < n:=by omega
    rw [wq hjn] at e
    exact h.nb i j hin hjn e
def yp0 (K:W.Frag) (a:Ads) (H G:Hp) (n:Nat) (bk dx lk dd:Nat->Addr) (kd:Nat->Fin 3) (ps:Nat->List Int) (f:Nat->List Int->Option Slt) (O:Nat->Addr->Prop):Prop :=
 Bks K a G n bk dx lk dd kd ps f O 0/\(∀ j k,j < n->f j k = none)/\(∀ j c,j < n->O j c->H c = none)/\(∀ j,j < n->H (bk j) = none)
theorem yp0.zero {K:W.Frag} {a:Ads} {H G:Hp} {bk dx lk dd:Nat->Addr} {kd:Nat->Fin 3} {ps:Nat->List Int} {f:Nat->List Int->Option Slt} {O:Nat->Addr->Prop}:yp0 K a H G 0 bk dx lk dd kd ps f O :=
 ⟨⟨fun i hi=>absurd hi (Nat.not_lt_zero i),fun i hi=>absurd hi (Nat.not_lt_zero i),fun i _ _ hi=>absurd hi (Nat.not_lt_zero i),fun i _ hi=>absurd hi (Nat.not_lt_zero i)⟩,fun i _ hi=>absurd hi (Nat.not_lt_zero i),fun i _ hi=>absurd hi (Nat.not_lt_zero i),fun i hi=>absurd hi (Nat.not_lt_zero i)⟩
theorem yp0.next {K:W.Frag} {a:Ads} {H G G2:Hp} {n:Nat} {bk dx lk dd:Nat->Addr} {kd:Nat->Fin 3} {ps:Nat->List Int} {f:Nat->List Int->Option Slt} {O:Nat->Addr->Prop} (h:yp0 K a H G n bk dx lk dd kd ps f O) (hl:u8 K G (lk n) (.str (kdS (kd n))) (ps n))
  (S:vm H G) {q dq d D:Addr} {xs ys:List V} (hq:G q = none) (hd:G d = none) (S2:vm G G2) (hb:yao a G2 q dq (lk n) d (kd n) (fun _=>none) (fun b=>b = d) 0) (hD:G D = some (.lst xs)) :
  yp0 K a H (upd G2 D (.lst ys)) (n + 1) (upN bk n q) (upN dx n dq) lk (upN dd n d) kd ps (upN f n fun _=>none) (upN O n fun b=>b = d):=by
 obtain ⟨hB,h1,h2,h3⟩:=h
 have live:∀ j c,j < n->O j c->∃ o,G c = some o:=fun j c hj w=>let ⟨o,ho,_⟩:=(hB.b j hj).own c w; ⟨o,ho⟩
 have M:=(hB.same S2).snoc (hl.same S2) hb (fun j c hj w z=>by
  obtain ⟨o,ho⟩:=live j c hj w
  rw [show c = d from z,hd] at ho
  cases ho) (fun j hj w=>by
  obtain ⟨o,ho⟩:=live j q hj w
  rw [hq] at ho
  cases ho) (fun j hj z=>by
  have e:=(hB.b j hj).me
  rw [show bk j = d from z,hd] at e
  cases e)
 have hD2:=S2 _ _ hD
 have nD:=M.nlst hD2
 have SB:∀ c o,G2 c = some o->c ≠ D->upd G2 D (.lst ys) c = some o:=fun c o e ne=>yp ne e
 refine ⟨M.frame (O2:=fun c=>c = D) (fun c o e ne=>SB c o e ne) (fun j c hj w z=>nD j hj (z ▸ w)) (fun j hj z=>?_) (fun t xs e=>?_),fun j k hj=>?_,fun j c hj w=>?_,fun j hj=>?_⟩
 ·have e:=(M.b j hj).me
  rw [z,hD2] at e
  cases e
 ·rcases e with (e | ⟨o,e⟩) | e
  ·exact .inl (.inl (SB _ _ e (fun z=>by rw [z,hD2] at e; cases e)))
  ·exact .inl (.inr ⟨o,SB _ _ e (fun z=>by rw [z,hD2] at e; cases e)⟩)
  ·exact .inr e
 ·by_cases z:j = n
  ·rw [z,wv]
  ·rw [wq (by omega)]
   exact h1 j k (by omega)
 ·by_cases z:j = n
  ·rw [z,wv] at w
   rw [show c = d from w]
   exact S.free hd
  ·rw [wq (by omega)] at w
   exact h2 j c (by omega) w
 ·by_cases z:j = n
  ·rw [z,wv]
   exact S.free hq
  ·rw [wq (by omega)]
   exact h3 j (by omega)
theorem yp0.ag {K:W.Frag} {a:Ads} {H G:Hp} {n:Nat} {bk dx lk dd:Nat->Addr} {kd:Nat->Fin 3} {ps:Nat->List Int} {f:Nat->List Int->Option Slt} {O:Nat->Addr->Prop} (h:yp0 K a H G n bk dx lk dd kd ps f O):ypu n kd f (fun i _=>kd0 (kd i)):=fun i hi k=>by
 rw [h.2.1 i k hi]
 rfl
def FX0 (n:Nat) (kd:Nat->Fin 3):FX:={ g:=fun i _=>kd0 (kd i),ws:=List.replicate n 1099511627776,sg:=[],nd:=0 }
theorem yov {g:Nat->Addr} {n:Nat} {x:V} (h:x ∈ xl g n):∃ i,i < n/\x = .ref (g i):=by
 unfold xl at h
 obtain ⟨i,hi,e⟩:=List.mem_map.mp h
 exact ⟨i,List.mem_range.mp hi,e.symm⟩
theorem ybg.lks {H:Hp} {n:Nat} {lk:Nat->Addr} {kd:Nat->Fin 3} {tp:Nat->Addr} {ps:Nat->List Int} (h:ybg H n lk kd tp ps):Lks H (xl lk n):=fun y hy=>by
 obtain ⟨i,hi,rfl⟩:=yov hy
 exact ⟨_,_,_,h i hi⟩
theorem za.frame {K:W.Frag} {a:Ads} {H H':Hp} {p:Addr} {A:FA} {X:FX} {f:Nat->List Int->Option Slt} {O:Nat->Addr->Prop} {m:Nat} (h:za K a H p A X f O m) {O2:Addr->Prop} (B:ypp O2 H H') (hp:¬ O2 p) (hm:¬ O2 A.mp) (hb:∀ i,i < A.n->¬ O2 (A.bk i))
  (dj:∀ i c,i < A.n->O i c->¬ O2 c) (hl:∀ l xs,(l = A.bl\/l = A.el\/l = A.ml\/l = A.pl)->H l = some (.lst xs)->H' l = some (.lst xs)) (ht:∀ t xs,SqT K H t xs->SqT K H' t xs):za K a H' p A X f O m :=
 ⟨B _ _ h.me hp,hl _ _ (.inl rfl) h.bl,hl _ _ (.inr (.inl rfl)) h.el,⟨B _ _ h.mx.o hm,hl _ _ (.inr (.inr (.inl rfl))) h.mx.l⟩,h.wok,hl _ _ (.inr (.inr (.inr rfl))) h.pl,h.B.frame B (fun i c hi w=>dj i c hi w) hb ht,h.ag,fun j hj=>⟨(h.at' j hj).1,fun kvs e=>by
  obtain ⟨kvs0,loc,h1,_⟩:=(h.B.b j hj).tb
  rw [B _ _ h1 (dj j _ hj (h.B.b j hj).dO)] at e
  cases e
  exact (h.at' j hj).2 _ h1⟩,h.np,h.nm,h.n1,h.n6⟩
theorem yr9 {K:W.Frag} {G:Hp} {t c:Addr} {xs ys zs:List V} (hc:G c = some (.lst ys)) (e:SqT K G t xs):SqT K (upd G c (.lst zs)) t xs:=by
 rcases e with (e | ⟨o,e⟩) | e
 ·exact .inl (.inl (yp (xw e hc (by intro z; cases z)) e))
 ·exact .inl (.inr ⟨o,yp (xw e hc (by intro z; cases z)) e⟩)
 ·exact .inr e
theorem za.app {K:W.Frag} {a:Ads} {H:Hp} {p R:Addr} {A:FA} {X:FX} {f:Nat->List Int->Option Slt} {O:Nat->Addr->Prop} {m:Nat} {xs ys:List V} (h:za K a H p A X f O m) (hR:H R = some (.lst xs)) (hq:∀ q,(q = A.bl\/q = A.el\/q = A.ml\/q = A.pl)->q ≠ R):za K a (upd H R (.lst ys)) p A X f O m:=by
 refine h.frame (O2:=fun c=>c = R) (fun c o e ne=>yp ne e) (fun z=>?_) (fun z=>?_) (fun i hi z=>?_) (fun i c hi w z=>h.B.nlst hR i hi (z ▸ w)) (fun l xs w e=>yp (hq l w) e) (fun t xs e=>yr9 hR e)
 ·have e:=h.me
  rw [z,hR] at e
  cases e
 ·have e:=h.mx.o
  rw [z,hR] at e
  cases e
 ·have e:=(h.B.b i hi).me
  rw [z,hR] at e
  cases e
theorem yyn (n:Nat) (n1:1 <= n) (n6:n <= 6):WOk n (List.replicate n 1099511627776):=by
 refine ⟨List.length_replicate,fun w h=>?_,fun w h=>?_⟩ <;> (rw [List.eq_of_mem_replicate h]; decide)
theorem yv0:yn ["self","looks"] ["self","looks"] (ya yc5):=⟨rfl,rfl,rfl,by decide +kernel,rfl,by decide +kernel,by decide +kernel⟩
structure vbw (K:W.Frag) (a:Ads) (H H':Hp) (p:Addr) (n:Nat) (lk:Nat->Addr) (kd:Nat->Fin 3) (ps:Nat->List Int) (A:FA) (f:Nat->List Int->Option Slt) (O:Nat->Addr->Prop):Prop where
 ft:za K a H' p A (FX0 n kd) f O 6
 en:A.n = n
 elk:A.lk = lk
 ekd:A.kd = kd
 eps:A.ps = ps
 oO:∀ j c,j < n->O j c->H c = none
 oB:∀ j,j < n->H (A.bk j) = none
 oM:H A.mp = none
 oL:∀ l,(l = A.bl\/l = A.el\/l = A.ml\/l = A.pl)->H l = none
def yon (K:W.Frag) (a:Ads):Sp:=fun vs H Q E=>∃ (p dp:Addr) (x:V),vs = [.ref p,x]/\H p = some (.ins a.C_Ft dp []) /\
 ((vb3 K H x/\∀ H',vm H H'->E (.ref a.C_NL) none H')\/∃ (l:Addr) (n:Nat) (lk:Nat->Addr) (kd:Nat->Fin 3) (tp:Nat->Addr) (ps:Nat->List Int),x = .ref l/\H l = some (.lst (xl lk n))/\1 <= n/\n <= 6/\ybg H n lk kd tp ps /\
  ∀ A f O H',vbw K a H H' p n lk kd ps A f O->But p H H'->Q .non H')
theorem yp5 (T:Txt K mg a):we P w K mg base (CXe P w) 6 a.f_q36 a.d_q36 ["self","looks"] (yon K a):=by
 refine T.F_q36.okE yv0 (fun vs H Q E h=>?_) (fun cdv A outer s H vs Q E hr h=>?_)
 ·obtain ⟨p,dp,x,rfl,_⟩:=h
  rfl
 ·obtain ⟨p,dp,x,rfl,hp,h⟩:=h
  refine yq (vo (pv 0) (vv (yvy T) (hr.mono (by decide)) rfl T.m_q28 T.F_q28.kp T.B_q28 .nil v8 (yb (pv 1) yg (yc rfl))) rfl) ?_
  refine yq (vo (pv 0) (u4 rfl (wt (y6 (pv 0) rfl)) (fun C s2 H2 fp=>(ymj T.k_Book (ywk T) (hr.mono (by decide)) rfl T.m_Book T.B_q31 .nil vf (yb (pv 0) yg (yc rfl))))) rfl) ?_
  refine yq (vo (pv 0) (ymj T.k_Mx (ywy T) (hr.mono (by decide)) rfl T.m_Mx T.B_q33 .nil vf (yb (yr yw rfl T.z_len (by decide +kernel) (yb (y6 (pv 0) rfl) yg (yc rfl))) yg (yc rfl))) rfl) ?_
  refine yq (vo (pv 0) (wx yg) rfl) ?_
  refine yq (vo (pv 0) yj rfl) ?_
  refine yq (vo (pv 0) (wx yg) rfl) ?_
  refine ⟨_,(yi (vj (wu (pv 0) T.cl_Ft T.M_q37 (yqc T) (hr.mono (by decide)) T.B_q37 .nil vf))),?_⟩
  try dsimp only [wc]
  refine yo (σ':=[some _,some _]) rfl ?_
  walk_at "rd"
  rcases h with ⟨hb,k⟩ | ⟨l,n,lk,kd,tp,ps,rfl,hl,n1,n6,hlk,k⟩
  ·rcases hb with ⟨nm,ty,hn⟩ | ⟨l,xs,bs,rfl,hl,hz,hbs,no⟩
   ·exact .inl ⟨x,nm,rfl,ty,hn,k _ (vm.refl _)⟩
   ·exact .inr ⟨l,xs,bs,rfl,hl,hz,hbs,fun z=>absurd z no,fun _ H' S=>k _ S⟩
  ·refine .inr ⟨l,xl lk n,List.replicate (xl lk n).length true,rfl,hl,by rw [wj]; omega,hlk.lks.bs,fun _ ll H1 hll0 hll1 S1=>?_,fun no=>absurd ⟨by rw [wj]; exact n1,by rw [wj]; exact n6,ysk _⟩ no⟩
   have hp1:=S1 _ _ hp
   have hlk1:=hlk.same S1
   walk_at "rd"
   have hpA:upd H1 p (HO.ins a.C_Ft dp ([("looks",V.ref ll)]:List (Str × V))) p = some (HO.ins a.C_Ft dp ([("looks",V.ref ll)]:List (Str × V))):=yd
   have BA:But p H1 (upd H1 p (HO.ins a.C_Ft dp ([("looks",V.ref ll)]:List (Str × V)))):=But.upd
   have nlp:ll ≠ p:=(ye hp hll0).symm
   have hllA:upd H1 p (HO.ins a.C_Ft dp ([("looks",V.ref ll)]:List (Str × V))) ll = some (.lst (xl lk n)):=yp nlp hll1
   generalize upd H1 p (HO.ins a.C_Ft dp ([("looks",V.ref ll)]:List (Str × V))) = HA at hpA BA hllA ⊢
   have B0A:But p H HA:=(But.of S1).trans BA
   have hRA:ybg HA n lk kd tp ps:=fun i hi=>by
    obtain ⟨q,e,h1,h2,h3⟩:=hlk i hi
    exact ⟨q,e,B0A _ _ h1 (xw h1 hp (by intro z; cases z)),B0A _ _ h2 (xw h2 hp (by intro z; cases z)),h3⟩
   refine ⟨p,_,dp,_,_,rfl,hpA,T.cl_Ft,T.n_Ft_looks,rfl,?_⟩
   refine ⟨ll,rfl,⟨_,SqL.of hllA⟩,fun bl hbl0=>?_⟩
   refine uo (K:=K) (xs:=xl lk n) (fun i G=>∃ (bk dx dd:Nat->Addr) (f2:Nat->List Int->Option Slt) (O2:Nat->Addr->Prop),G bl = some (.lst (xl bk i))/\yp0 K a HA G i bk dx lk dd kd ps f2 O2/\vm HA G)
    ⟨fun _=>0,fun _=>0,fun _=>0,fun _ _=>none,fun _ _=>False,yd,yp0.zero,vn hbl0⟩ (fun i G _ z=>?_) (fun i y G hy hi z=>?_) (fun G z=>?_)
   ·obtain ⟨_,_,_,_,_,_,_,SG⟩:=z
    exact SqL.of (SG _ _ hllA)
   ·obtain ⟨bk,dx,dd,f2,O2,gbl,gN,SG⟩:=z
    obtain ⟨rfl,hin⟩:=zv hy
    walk_at "rd"
    intro q dq nq ndq neq
    have SQ:vm G (upd (upd G dq (.own q)) q (.ins a.C_Book dq [])):=fun b o e=>by rw [yu (ye e nq),yu (ye e ndq)]; exact e
    refine ⟨q,dq,lk i,kd i,rfl,yd,fun d G2 hd0 hb2 B2=>⟨rfl,?_⟩⟩
    have S2':vm G G2:=fun b o e=>B2 b o (SQ b o e) (ye e nq)
    refine xu (n:=(xl lk n).length) (S2' _ _ gbl) (v7 (by rw [wj]; omega)) hi ?_
    refine ⟨_,_,_,_,_,?_,gN.next ((hRA i hin).same SG).at' SG nq (SQ.free hd0) S2' hb2 gbl,fun b o e=>yp (ye e hbl0) (S2' _ _ (SG b o e))⟩
    rw [yd,zh,wv]
    congr 3
    exact ul fun j hj=>(wq hj).symm
   obtain ⟨bk,dx,dd,f2,O2,gbl,gN,SG⟩:=z
   rw [wj] at gbl gN
   have hpG:=SG _ _ hpA
   walk_at "rd"
   have SAG:∀ c o,HA c = some o->c ≠ p->upd G p (HO.ins a.C_Ft dp ([("looks",V.ref ll),("books",V.ref bl)]:List (Str × V))) c = some o:=fun c o e ne=>yp ne (SG _ _ e)
   have hpB:upd G p (HO.ins a.C_Ft dp ([("looks",V.ref ll),("books",V.ref bl)]:List (Str × V))) p = some (HO.ins a.C_Ft dp ([("looks",V.ref ll),("books",V.ref bl)]:List (Str × V))):=yd
   have nbp:bl ≠ p:=(ye hpA hbl0).symm
   have hblB:upd G p (HO.ins a.C_Ft dp ([("looks",V.ref ll),("books",V.ref bl)]:List (Str × V))) bl = some (.lst (xl bk n)):=yp nbp gbl
   have BP:∀ {fs:List (Str × V)},But p G (upd G p (HO.ins a.C_Ft dp fs)):=But.upd
   have npO:∀ j,j < n->¬ O2 j p:=fun j hj w=>by
    have e:=gN.2.2.1 j p hj w
    rw [hpA] at e
    cases e
   have bkB:∀ {G':Hp},But p G G'->Bks K a G' n bk dx lk dd kd ps f2 O2 0:=fun {G'} B=>gN.1.frame (O2:=fun c=>c = p) (fun c o e ne=>B c o e ne) (fun j c hj w z=>npO j hj (z ▸ w)) (fun j hj z=>by
    have e:=gN.2.2.2 j hj
    rw [z,hpA] at e
    cases e) (fun t xs e=>by
    rcases e with (e | ⟨o,e⟩) | e
    ·exact .inl (.inl (B _ _ e (fun z=>by rw [z,hpG] at e; cases e)))
    ·exact .inl (.inr ⟨o,B _ _ e (fun z=>by rw [z,hpG] at e; cases e)⟩)
    ·exact .inr e)
   have BB:But p G (upd G p (HO.ins a.C_Ft dp ([("looks",V.ref ll),("books",V.ref bl)]:List (Str × V)))):=But.upd
   generalize upd G p (HO.ins a.C_Ft dp ([("looks",V.ref ll),("books",V.ref bl)]:List (Str × V))) = HB at SAG hpB hblB BB ⊢
   refine ⟨p,_,dp,_,_,rfl,hpB,T.cl_Ft,T.n_Ft_looks,rfl,?_⟩
   refine x3 (SqL.of (SAG _ _ hllA nlp)) ?_
   rw [wj]
   walk_at "rd"
   intro mp mx nmp nmx nem
   have SM:vm HB (upd (upd HB mx (.own mp)) mp (.ins a.C_Mx mx [])):=fun b o e=>by rw [yu (ye e nmp),yu (ye e nmx)]; exact e
   refine ⟨mp,mx,n,rfl,n1,n6,yd,fun ml HC hml0 MC BC=>⟨rfl,?_⟩⟩
   have SC:vm HB HC:=fun b o e=>BC b o (SM b o e) (ye e nmp)
   have hpC:=SC _ _ hpB
   have hblC:=SC _ _ hblB
   have hml0':HB ml = none:=SM.free hml0
   have nmpp:mp ≠ p:=(ye hpB nmp).symm
   have nmlp:ml ≠ p:=(ye hpB hml0').symm
   walk_at "rd"
   refine ⟨by walk_at "len",fun el hel0=>?_⟩
   have nel:el ≠ p:=fun z=>by rw [z,yd] at hel0; cases hel0
   have hel0':HC el = none:=by rw [yu nel] at hel0; exact hel0
   have hpD:upd (upd HC p (HO.ins a.C_Ft dp ([("looks",V.ref ll),("books",V.ref bl),("mixer",V.ref mp)]:List (Str × V)))) el (.lst []) p = some (HO.ins a.C_Ft dp ([("looks",V.ref ll),("books",V.ref bl),("mixer",V.ref mp)]:List (Str × V))):=yp nel.symm yd
   have helD:upd (upd HC p (HO.ins a.C_Ft dp ([("looks",V.ref ll),("books",V.ref bl),("mixer",V.ref mp)]:List (Str × V)))) el (.lst []) el = some (.lst []):=yd
   have BD:But p HC (upd (upd HC p (HO.ins a.C_Ft dp ([("looks",V.ref ll),("books",V.ref bl),("mixer",V.ref mp)]:List (Str × V)))) el (.lst [])):=fun b o e ne=>yp (ye e hel0') (yp ne e)
   generalize upd (upd HC p (HO.ins a.C_Ft dp ([("looks",V.ref ll),("books",V.ref bl),("mixer",V.ref mp)]:List (Str × V)))) el (.lst []) = HD at hpD helD BD ⊢
   walk_at "rd"
   refine ⟨by walk_at "len",fun pl0 hpl0=>?_⟩
   have npl:pl0 ≠ p:=fun z=>by rw [z,yd] at hpl0; cases hpl0
   have hpl0':HD pl0 = none:=by rw [yu npl,yu npl] at hpl0; exact hpl0
   have hpE:upd (upd (upd HD p (HO.ins a.C_Ft dp ([("looks",V.ref ll),("books",V.ref bl),("mixer",V.ref mp),("ended",V.ref el)]:List (Str × V)))) p (HO.ins a.C_Ft dp ([("looks",V.ref ll),("books",V.ref bl),("mixer",V.ref mp),("ended",V.ref el),("place",V.int 0)]:List (Str × V)))) pl0 (.lst []) p = some (HO.ins a.C_Ft dp ([("looks",V.ref ll),("books",V.ref bl),("mixer",V.ref mp),("ended",V.ref el),("place",V.int 0)]:List (Str × V))):=yp npl.symm yd
   have BE:But p HD (upd (upd (upd HD p (HO.ins a.C_Ft dp ([("looks",V.ref ll),("books",V.ref bl),("mixer",V.ref mp),("ended",V.ref el)]:List (Str × V)))) p (HO.ins a.C_Ft dp ([("looks",V.ref ll),("books",V.ref bl),("mixer",V.ref mp),("ended",V.ref el),("place",V.int 0)]:List (Str × V)))) pl0 (.lst [])):=fun b o e ne=>yp (ye e hpl0') (yp ne (yp ne e))
   generalize upd (upd (upd HD p (HO.ins a.C_Ft dp ([("looks",V.ref ll),("books",V.ref bl),("mixer",V.ref mp),("ended",V.ref el)]:List (Str × V)))) p (HO.ins a.C_Ft dp ([("looks",V.ref ll),("books",V.ref bl),("mixer",V.ref mp),("ended",V.ref el),("place",V.int 0)]:List (Str × V)))) pl0 (.lst []) = HE at hpE BE ⊢
   walk_at "rd"
   have BF:But p HE (upd HE p (.ins a.C_Ft dp (xf (.ref ll) (.ref bl) (.ref mp) (.ref el) (.int 0) (.ref pl0)))):=But.upd
   have hpF:upd HE p (.ins a.C_Ft dp (xf (.ref ll) (.ref bl) (.ref mp) (.ref el) (.int 0) (.ref pl0))) p = some (.ins a.C_Ft dp (xf (.ref ll) (.ref bl) (.ref mp) (.ref el) (.int 0) (.ref pl0))):=yd
   generalize upd HE p (.ins a.C_Ft dp (xf (.ref ll) (.ref bl) (.ref mp) (.ref el) (.int 0) (.ref pl0))) = HF at hpF BF ⊢
   have BCF:But p HC HF:=(BD.trans BE).trans BF
   have BGF:But p G HF:=fun b o e ne=>BCF b o (SC _ _ (BB b o e ne)) ne
   have moF:=BCF _ _ MC.o nmpp
   have mlF:=BCF _ _ MC.l nmlp
   have blF:=BCF _ _ hblC nbp
   have elF:=BF _ _ (BE _ _ helD nel) nel
   refine ⟨p,dp,ll,bl,mp,el,pl0,0,[],n,0,bk,dx,lk,dd,kd,ps,f2,O2,fun i _=>kd0 (kd i),rfl,hpF,blF,elF,bkB BGF,gN.ag,n6,by omega,npO,fun pl sl f' O' H' me' pl' hpl' B' ag' at' hO' F' L'=>?_⟩
   have freeG:∀ {c:Addr},c ≠ p->HF c = none->G c = none:=fun {c} ne h=>by
    cases e:G c with
    | none=>rfl
    | some o=>rw [BGF _ _ e ne] at h; cases h
   have live2:∀ j c,j < n->O2 j c->∃ o,G c = some o:=fun j c hj w=>let ⟨o,ho,_⟩:=(gN.1.b j hj).own c w; ⟨o,ho⟩
   have nO:∀ {c:Addr} {o:HO},HF c = some o->yzl o = false->∀ j,j < n->¬ O2 j c:=fun {c o} e hi j hj w=>by
    obtain ⟨o',ho',hi'⟩:=((bkB BGF).b j hj).own c w
    rw [e] at ho'
    cases ho'
    rw [hi] at hi'
    cases hi'
   have nOm:∀ j,j < n->¬ O2 j mp:=fun j hj w=>by
    obtain ⟨o,ho⟩:=live2 j mp hj w
    have e:=BB _ _ ho nmpp
    rw [nmp] at e
    cases e
   have toH:∀ {c:Addr},c ≠ p->HA c = none->H c = none:=fun {c} ne h=>by
    cases e:H c with
    | none=>rfl
    | some o=>rw [B0A _ _ e ne] at h; cases h
   have GtoA:∀ {c:Addr},G c = none->HA c = none:=fun {c} h=>SG.free h
   have BtoG:∀ {c:Addr},c ≠ p->HB c = none->G c = none:=fun {c} ne h=>by
    cases e:G c with
    | none=>rfl
    | some o=>rw [BB _ _ e ne] at h; cases h
   have CtoB:∀ {c:Addr},HC c = none->HB c = none:=fun {c} h=>SC.free h
   refine k ⟨dp,ll,bl,mp,mx,ml,el,pl,n,bk,dx,lk,dd,sl,kd,ps⟩ f' O' H' ⟨⟨me',F' _ _ blF nbp (nO blF rfl),F' _ _ elF nel (nO elF rfl),⟨F' _ _ moF nmpp nOm,F' _ _ mlF nmlp (nO mlF rfl)⟩,?_,pl',⟨B'.look,fun i hi=>(B'.b i hi).up (by omega),B'.dj,B'.nb⟩,ag',at',fun j hj w=>?_,fun j hj w=>?_,n1,n6⟩,rfl,rfl,rfl,rfl,fun j c hj w=>?_,fun j hj=>?_,?_,fun c hc=>?_⟩ ?_
   ·exact yyn n n1 n6
   ·rcases hO' j p hj w with v | v
    ·exact npO j hj v
    ·rw [hpF] at v; cases v
   ·rcases hO' j mp hj w with v | v
    ·exact nOm j hj v
    ·rw [moF] at v; cases v
   ·have ncp:c ≠ p:=fun z=>by
     rw [z] at w
     rcases hO' j p hj w with v | v
     ·exact npO j hj v
     ·rw [hpF] at v; cases v
    rcases hO' j c hj w with v | v
    ·exact toH ncp (gN.2.2.1 j c hj v)
    ·exact toH ncp (GtoA (freeG ncp v))
   ·have nbk:bk j ≠ p:=fun z=>by
     have e:=gN.2.2.2 j hj
     rw [z,hpA] at e
     cases e
    exact toH nbk (gN.2.2.2 j hj)
   ·exact toH nmpp (GtoA (BtoG nmpp nmp))
   ·rcases hc with z | z | z | z
    ·rw [z]
     exact toH nbp hbl0
    ·rw [z]
     exact toH nel (GtoA (BtoG nel (CtoB hel0')))
    ·rw [z]
     exact toH nmlp (GtoA (BtoG nmlp hml0'))
    ·rw [z]
     have nplp:pl ≠ p:=(ye hpF hpl').symm
     exact toH nplp (GtoA (freeG nplp hpl'))
   ·intro c o e ne
    refine F' c o (BGF _ _ (SG _ _ (B0A c o e ne)) ne) ne fun j hj w=>?_
    have e2:=gN.2.2.1 j c hj w
    rw [B0A c o e ne] at e2
    cases e2
theorem yhl:∀ (ts:List Int) (q j:Nat) (s:Int),ts[q]? = some s->j <= 8->(dec ts)[9 * q + j]? = (1 :: b8 s)[j]?
 | [],_,_,_,h,_=>by simp at h
 | t :: r,0,j,s,h,hj=>by
  have e:t = s:=by simpa using h
  subst e
  show ((1 :: b8 t) ++ dec r)[9 * 0 + j]? = _
  rw [Nat.mul_zero,Nat.zero_add,List.getElem?_append_left (by rw [List.length_cons,yp7]; omega)]
 | t :: r,q + 1,j,s,h,hj=>by
  have h':r[q]? = some s:=by simpa using h
  show ((1 :: b8 t) ++ dec r)[9 * (q + 1) + j]? = _
  have l9:(1 :: b8 t).length = 9:=rfl
  rw [List.getElem?_append_right (by rw [l9]; omega),l9,show 9 * (q + 1) + j - 9 = 9 * q + j by omega]
  exact yhl r q j s h' hj
theorem ysy (ts:List Int):(dec ts)[9 * ts.length]? = some 0:=by
 rw [ypm,List.getElem?_append_right (by rw [zy]; exact Nat.le_refl _),zy,Nat.sub_self]
 rfl
def yhv (ts:List Int) (k:Nat) (sg:List Int) (nd:Int):Prop:=∃ q j:Nat,k = 9 * q + j/\j <= 8/\sg = ts.take q/\((j = 0/\nd = 0/\q <= ts.length)\/(1 <= j/\∃ s,ts[q]? = some s/\nd = (256 + s) / 2 ^ (9 - j)))
theorem yhv.zero (ts:List Int):yhv ts 0 [] 0:=⟨0,0,rfl,by omega,by simp,.inl ⟨rfl,rfl,Nat.zero_le _⟩⟩
theorem yhv.nd {ts:List Int} {k:Nat} {sg:List Int} {nd:Int} (h:yhv ts k sg nd) (hs:Sgs ts):0 <= nd/\nd < 256:=by
 obtain ⟨q,j,_,hj,_,h⟩:=h
 rcases h with ⟨_,h,_⟩ | ⟨h1,s,hs',h⟩
 ·omega
 ·have:=hs s (List.mem_of_getElem? hs')
  obtain rfl | rfl | rfl | rfl | rfl | rfl | rfl | rfl:j = 1\/j = 2\/j = 3\/j = 4\/j = 5\/j = 6\/j = 7\/j = 8:=by omega
  all_goals (simp only [Nat.reduceSub,Int.reducePow] at h; omega)
theorem yhv.len {ts:List Int} {k:Nat} {sg:List Int} {nd:Int} (h:yhv ts k sg nd):sg.length <= ts.length:=by
 obtain ⟨q,j,_,_,hsg,_⟩:=h
 rw [hsg,List.length_take]
 omega
theorem yhv.next {ts:List Int} {k:Nat} {sg:List Int} {nd b:Int} (h:yhv ts k sg nd) (hs:Sgs ts) (hb:(dec ts)[k]? = some b) :
  (k < 9 * ts.length/\yhv ts (k + 1) (sgN sg nd b) (ndN nd b))\/(k = 9 * ts.length/\sgN sg nd b = []/\ndN nd b = 0):=by
 obtain ⟨q,j,hk,hj,hsg,h⟩:=h
 rcases h with ⟨h0,hn,hq⟩ | ⟨h1,s,hs',hn⟩
 ·subst h0
  rcases Nat.lt_or_ge q ts.length with hl | hl
  ·refine .inl ⟨by omega,?_⟩
   have e:=yhl ts q 0 ts[q] (List.getElem?_eq_getElem hl) (by omega)
   rw [<- hk,hb] at e
   have e:b = 1:=by simpa using e
   have:=hs ts[q] (List.getElem_mem hl)
   unfold sgN ndN
   rw [if_neg (by omega),if_pos e,if_neg (by omega),if_pos e]
   refine ⟨q,1,by omega,by omega,hsg,.inr ⟨by omega,ts[q],List.getElem?_eq_getElem hl,?_⟩⟩
   simp only [Nat.reduceSub,Int.reducePow]
   omega
  ·have hq':q = ts.length:=by omega
   have e:=ysy ts
   rw [<- hq',show 9 * q = k by omega,hb] at e
   have e:b = 0:=by simpa using e
   refine .inr ⟨by omega,?_,?_⟩
   ·unfold sgN
    rw [if_neg (by omega),if_neg (by omega)]
   ·unfold ndN
    rw [if_neg (by omega),if_neg (by omega)]
    exact hn
 ·have hsg':=hs s (List.mem_of_getElem? hs')
  have hl:q < ts.length:=(List.getElem?_eq_some_iff.mp hs').1
  have e:=yhl ts q j s hs' hj
  rw [<- hk,hb] at e
  have eb:some b = (b8 s)[j - 1]?:=by
   obtain ⟨i,rfl⟩:∃ i,j = i + 1:=⟨j - 1,by omega⟩
   simpa using e
  refine .inl ⟨by omega,?_⟩
  by_cases h8:j = 8
  ·subst h8
   have eb:b = s / 1 % 2:=Option.some.inj eb
   simp only [Nat.reduceSub,Int.reducePow] at hn
   have e1:2 * nd + b = 256 + s:=by omega
   unfold sgN ndN
   rw [if_pos (by omega),if_pos (by omega),if_pos (by omega),if_pos (by omega)]
   refine ⟨q + 1,0,by omega,by omega,?_,.inl ⟨rfl,rfl,by omega⟩⟩
   rw [hsg,show 2 * nd + b - 256 = s by omega,uj hs']
  ·have main:0 < nd/\2 * nd + b < 256/\2 * nd + b = (256 + s) / 2 ^ (9 - (j + 1)):=by
    obtain rfl | rfl | rfl | rfl | rfl | rfl | rfl:j = 1\/j = 2\/j = 3\/j = 4\/j = 5\/j = 6\/j = 7:=by omega
    ·have eb:b = s / 128 % 2:=Option.some.inj eb
     simp only [Nat.reduceSub,Nat.reduceAdd,Int.reducePow] at hn ⊢
     omega
    ·have eb:b = s / 64 % 2:=Option.some.inj eb
     simp only [Nat.reduceSub,Nat.reduceAdd,Int.reducePow] at hn ⊢
     omega
    ·have eb:b = s / 32 % 2:=Option.some.inj eb
     simp only [Nat.reduceSub,Nat.reduceAdd,Int.reducePow] at hn ⊢
     omega
    ·have eb:b = s / 16 % 2:=Option.some.inj eb
     simp only [Nat.reduceSub,Nat.reduceAdd,Int.reducePow] at hn ⊢
     omega
    ·have eb:b = s / 8 % 2:=Option.some.inj eb
     simp only [Nat.reduceSub,Nat.reduceAdd,Int.reducePow] at hn ⊢
     omega
    ·have eb:b = s / 4 % 2:=Option.some.inj eb
     simp only [Nat.reduceSub,Nat.reduceAdd,Int.reducePow] at hn ⊢
     omega
    ·have eb:b = s / 2 % 2:=Option.some.inj eb
     simp only [Nat.reduceSub,Nat.reduceAdd,Int.reducePow] at hn ⊢
     omega
   obtain ⟨m1,m2,m3⟩:=main
   unfold sgN ndN
   rw [if_pos m1,if_neg (by omega),if_pos m1,if_neg (by omega)]
   exact ⟨q,j + 1,by omega,by omega,hsg,.inr ⟨by omega,s,hs',m3⟩⟩
theorem za.up {K:W.Frag} {a:Ads} {H:Hp} {p:Addr} {A:FA} {X:FX} {f:Nat->List Int->Option Slt} {O:Nat->Addr->Prop} {m m':Nat} (h:za K a H p A X f O m) (hm:m <= m'):za K a H p A X f O m' :=
 ⟨h.me,h.bl,h.el,h.mx,h.wok,h.pl,⟨h.B.look,fun i hi=>(h.B.b i hi).up hm,h.B.dj,h.B.nb⟩,h.ag,h.at',h.np,h.nm,h.n1,h.n6⟩
structure Lw (K:W.Frag) (a:Ads) (H:Hp) (p:Addr) (A:FA) (X:FX) (f:Nat->List Int->Option Slt) (O:Nat->Addr->Prop) (m:Nat) (bk dx dd:Nat->Addr) (f2:Nat->List Int->Option Slt) (O2:Nat->Addr->Prop) (mp mx ml:Addr) (ws:List Int):Prop where
 ft:za K a H p A X f O m
 bs:Bks K a H A.n bk dx A.lk dd A.kd A.ps f2 O2 m
 mx:ypw a mp mx ml ws H
 dj:∀ i j c,i < A.n->j < A.n->O i c->¬ O2 j c
 n1:∀ i j,i < A.n->j < A.n->¬ O i (bk j)
 n2:∀ i j,i < A.n->j < A.n->¬ O2 i (A.bk j)
 n3:∀ i,i < A.n->¬ O2 i p/\¬ O2 i A.mp/\¬ O2 i mp/\¬ O i mp
 n4:mp ≠ A.mp
 n5:ml ≠ A.el
section
variable {K:W.Frag} {a:Ads} {H H':Hp} {p:Addr} {A:FA} {X:FX} {f:Nat->List Int->Option Slt} {O:Nat->Addr->Prop} {m:Nat} {bk dx dd:Nat->Addr} {f2:Nat->List Int->Option Slt} {O2:Nat->Addr->Prop} {mp mx ml:Addr} {ws:List Int}
theorem ua {C D d e p q:Addr} {fs gs:List (Str × V)} (hp:H p = some (.ins C d fs)) (hq:H q = some (.ins D e gs)) (hl:fs.length ≠ gs.length):p ≠ q:=fun z=>by
 rw [z,hq] at hp
 injection hp with hp
 injection hp with _ _ e
 exact hl (congrArg List.length e).symm
end
def KpA (B G:Hp) (e0 e:Addr):Prop:=∀ c o,B c = some o->yzl o = false->c ≠ e0->c ≠ e/\G c = some o
theorem KpA.lst {B G:Hp} {e0 e c:Addr} {xs:List V} (h:KpA B G e0 e) (hc:B c = some (.lst xs)) (ne:c ≠ e0):G c = some (.lst xs):=(h c _ hc rfl ne).2
def TxE (ts:List Int) (k:Nat) (sg:List Int) (nd:Int):Prop:=(k <= 9 * ts.length/\yhv ts k sg nd)\/(k = 9 * ts.length + 1/\sg = []/\nd = 0)
theorem TxE.next {ts:List Int} {k:Nat} {sg:List Int} {nd b:Int} (h:TxE ts k sg nd) (hs:Sgs ts) (hb:(dec ts)[k]? = some b):yhv ts k sg nd/\TxE ts (k + 1) (sgN sg nd b) (ndN nd b):=by
 rcases h with ⟨hk,h⟩ | ⟨hk,_⟩
 ·refine ⟨h,?_⟩
  rcases h.next hs hb with ⟨h1,h2⟩ | ⟨h1,h2,h3⟩
  ·exact .inl ⟨by omega,h2⟩
  ·exact .inr ⟨by omega,h2,h3⟩
 ·rw [hk,List.getElem?_eq_none (by rw [u0]; exact Nat.le_refl _)] at hb
  cases hb
theorem yuw:yn ["self"] ["self"] (ya ydt):=⟨rfl,rfl,rfl,by decide +kernel,rfl,by decide +kernel,by decide +kernel⟩
def yhd (K:W.Frag) (a:Ads):Sp:=fun vs H Q _=>∃ (p:Addr) (A:FA) (X:FX) (f:Nat->List Int->Option Slt) (O:Nat->Addr->Prop) (m:Nat),vs = [.ref p]/\za K a H p A X f O m/\∀ r H',H r = none->H' r = some (.lst ((X.cs A).map V.int))->vm H H'->Q (.ref r) H'
theorem yqr (T:Txt K mg a):we P w K mg base CX0 2 a.f_q38 a.d_q38 ["self"] (yhd K a):=by
 refine T.F_q38.ok yuw (fun vs H Q E h=>?_) (fun cdv A outer s H vs Q E hr h=>?_)
 ·obtain ⟨p,A,X,f,O,m,rfl,_⟩:=h
  rfl
 ·obtain ⟨p,A',X,f,O,m,rfl,h,k⟩:=h
  have hp:=h.me
  have n6:=h.n6
  refine ⟨_,(yi (yv (u4 rfl (wt (y6 (pv 0) rfl)) (fun C s2 H2 fp=>(yi4 (wu (pv 0) T.cl_Even T.M_q15 (yva T) (hr.mono (by decide)) T.B_q15 .nil vf) (yi4 (wu (pv 0) T.cl_Quick T.M_q18 (ywe T) (hr.mono (by decide)) T.B_q18 .nil vf) (wu (pv 0) T.cl_Run T.M_q21 (yvn T) (hr.mono (by decide)) T.B_q21 .nil vf))))))),?_⟩
  try dsimp only [wc]
  refine yo (σ':=[some _]) rfl ?_
  walk_at "rd"
  refine ⟨A'.pl,rfl,⟨_,SqL.of h.pl⟩,fun D hD=>?_⟩
  refine uo (K:=K) (xs:=xl A'.sl A'.n) (Mp H D (fun i=>V.int (X.g i (X.key A' i)).due)) (Mp.zero hD) (fun _ _ _ q=>q.1.seq (SqL.of h.pl)) (fun i y H2 hy hi q=>?_) (fun H2 q=>?_)
  ·obtain ⟨S2,hD2⟩:=q
   obtain ⟨rfl,hin⟩:=zv hy
   obtain ⟨_,⟨dq,hs⟩,ok,_⟩:=h.slot hin
   refine ylu (fun Q' h=>yyq rfl h) (S2 _ _ hs) ok ?_
   exact Mp.doneR hD (v7 (by rw [wj]; omega)) hi S2 hD2 rfl
  ·obtain ⟨S2,hD2⟩:=q
   rw [wj] at hD2
   refine k D _ hD ?_ S2
   rw [hD2]
   unfold FX.cs
   rw [List.map_map]
   rfl
theorem yxv:yn ["self"] ["self"] (ya ydu):=⟨rfl,rfl,rfl,by decide +kernel,rfl,by decide +kernel,by decide +kernel⟩
def yj0 (K:W.Frag) (a:Ads):Sp:=fun vs H Q _=>∃ (p:Addr) (A:FA) (X:FX) (f:Nat->List Int->Option Slt) (O:Nat->Addr->Prop) (m:Nat),vs = [.ref p]/\za K a H p A X f O m/\∀ H',vm H H'->Q (.int (yrw X.ws (X.cs A))) H'
theorem yrg (T:Txt K mg a):we P w K mg base CX0 3 a.f_q39 a.d_q39 ["self"] (yj0 K a):=by
 refine T.F_q39.ok yxv (fun vs H Q E h=>?_) (fun cdv A outer s H vs Q E hr h=>?_)
 ·obtain ⟨p,A,X,f,O,m,rfl,_⟩:=h
  rfl
 ·obtain ⟨p,A',X,f,O,m,rfl,h,k⟩:=h
  have hp:=h.me
  have hmo:=h.mx.o
  refine ⟨_,(yi (yv (x9 (y6 (pv 0) rfl) T.cl_Mx T.M_q34 (yv5 T) (hr.mono (by decide)) T.B_q34 .nil vf (yb (wu (pv 0) T.cl_Ft T.M_q38 (yqr T) (hr.mono (by decide)) T.B_q38 .nil vf) yg (yc rfl))))),?_⟩
  try dsimp only [wc]
  refine yo (σ':=[some _]) rfl ?_
  walk_at "rd"
  refine ⟨p,A',X,f,O,m,rfl,h,fun r H1 hr0 hr1 S1=>?_⟩
  walk_at "rd"
  exact ⟨A'.mp,A'.mx,A'.ml,r,X.ws,X.cs A',A'.n,rfl,h.n1,h.n6,h.wok,h.cok,h.mx.same S1,SqL.of hr1,fun H2 S2=>k _ (S1.trans S2)⟩
theorem yxu:yn ["self","bit"] ["self","bit"] (ya yeb):=⟨rfl,rfl,rfl,by decide +kernel,rfl,by decide +kernel,by decide +kernel⟩
def ytk (a:Ads):Sp:=fun vs H Q _=>∃ (p dp ll bl mp el pl:Addr) (nd b:Int) (sg:List Int),vs = [.ref p,.int b]/\H p = some (.ins a.C_Ft dp (xf (.ref ll) (.ref bl) (.ref mp) (.ref el) (.int nd) (.ref pl)))/\H el = some (.lst (sg.map V.int))/\sg.length <= 100000/\0 < nd /\
 ∀ H',H' p = some (.ins a.C_Ft dp (xf (.ref ll) (.ref bl) (.ref mp) (.ref el) (.int (ndN nd b)) (.ref pl)))->H' el = some (.lst ((sgN sg nd b).map V.int))->(∀ c o,H c = some o->c ≠ p->c ≠ el->H' c = some o)->Q .non H'
theorem yu7 (T:Txt K mg a):we P w K mg base CX0 1 a.f_q42 a.d_q42 ["self","bit"] (ytk a):=by
 refine T.F_q42.ok yxu (fun vs H Q E h=>?_) (fun cdv A outer s H vs Q E hr h=>?_)
 ·obtain ⟨p,dp,ll,bl,mp,el,pl,nd,b,sg,rfl,_⟩:=h
  rfl
 ·obtain ⟨p,dp,ll,bl,mp,el,pl,nd,b,sg,rfl,hp,he,hz,h0,k⟩:=h
  refine ⟨_,(yk (vo (pv 0) (ym vw (ym wk yj (y6 (pv 0) rfl)) (pv 1)) rfl) (yi (wd (y7 yyl (y6 (pv 0) rfl) (vq rfl T.c_NODES_END) (vg _)) (yk (vj (yen PySem.F.plainAttrs_list PySem.F.slot_list_append PySem.F.type_list_append wo (y6 (pv 0) rfl) (yb (ym ue (y6 (pv 0) rfl) (vq rfl T.c_NODES_END)) yg (yc rfl)))) (yi (vo (pv 0) yj rfl))) ve))),?_⟩
  try dsimp only [wc]
  refine yo (σ':=[some _,some _]) rfl ?_
  unfold ndN sgN at k
  rw [if_pos h0,if_pos h0] at k
  have nep:el ≠ p:=xw he hp (by intro z; cases z)
  walk_at "rd"
  have hp1:upd H p (.ins a.C_Ft dp (xf (.ref ll) (.ref bl) (.ref mp) (.ref el) (.int (2 * nd + b)) (.ref pl))) p = some (.ins a.C_Ft dp (xf (.ref ll) (.ref bl) (.ref mp) (.ref el) (.int (2 * nd + b)) (.ref pl))):=yd
  have he1:=yp (o':=HO.ins a.C_Ft dp (xf (.ref ll) (.ref bl) (.ref mp) (.ref el) (.int (2 * nd + b)) (.ref pl))) nep he
  have B1:But p H (upd H p (.ins a.C_Ft dp (xf (.ref ll) (.ref bl) (.ref mp) (.ref el) (.int (2 * nd + b)) (.ref pl)))):=But.upd
  generalize upd H p (.ins a.C_Ft dp (xf (.ref ll) (.ref bl) (.ref mp) (.ref el) (.int (2 * nd + b)) (.ref pl))) = H1 at hp1 he1 B1 ⊢
  walk_at "rd"
  refine uw (fun hb=>?_) (fun hb=>?_)
  ·rw [if_pos hb,if_pos hb] at k
   walk_at "rd"
   refine ybj he1 ?_
   walk_at "rd"
   refine uc he1 (v7 (by rw [List.length_map]; omega)) ?_
   have hp2:=yp (o':=HO.lst (List.map V.int sg ++ [V.int (2 * nd + b - 256)])) (Ne.symm nep) hp1
   walk_at "rd"
   refine k _ yd ?_ fun c o e n1 n2=>yp n1 (yp n2 (B1 _ _ e n1))
   rw [yu nep,yd,List.map_append]
   rfl
  ·rw [if_neg hb,if_neg hb] at k
   walk_at "rd"
   exact k _ hp1 he1 fun c o e n1 n2=>B1 _ _ e n1
theorem yxc:yn ["self","bit"] ["self","bit"] (ya yeg):=⟨rfl,rfl,rfl,by decide +kernel,rfl,by decide +kernel,by decide +kernel⟩
def yoj (a:Ads):Sp:=fun vs H Q _=>∃ (p dp ll bl mp el pl:Addr) (nd b:Int) (sg:List Int),vs = [.ref p,.int b]/\H p = some (.ins a.C_Ft dp (xf (.ref ll) (.ref bl) (.ref mp) (.ref el) (.int nd) (.ref pl)))/\H el = some (.lst (sg.map V.int))/\sg.length <= 100000/\0 <= nd /\
 ∀ (el':Addr) H',(el' = el\/H el' = none)->H' p = some (.ins a.C_Ft dp (xf (.ref ll) (.ref bl) (.ref mp) (.ref el') (.int (ndN nd b)) (.ref pl)))->H' el' = some (.lst ((sgN sg nd b).map V.int))->(∀ c o,H c = some o->c ≠ p->c ≠ el->H' c = some o)->(∃ o,H' el = some o)->Q .non H'
theorem yvm (T:Txt K mg a):we P w K mg base CX0 2 a.f_q41 a.d_q41 ["self","bit"] (yoj a):=by
 refine T.F_q41.ok yxc (fun vs H Q E h=>?_) (fun cdv A outer s H vs Q E hr h=>?_)
 ·obtain ⟨p,dp,ll,bl,mp,el,pl,nd,b,sg,rfl,_⟩:=h
  rfl
 ·obtain ⟨p,dp,ll,bl,mp,el,pl,nd,b,sg,rfl,hp,he,hz,h0,k⟩:=h
  refine ⟨_,(yi (wd (y7 ynk (y6 (pv 0) rfl) yj (vg _)) (yi (vj (x9 (pv 0) T.cl_Ft T.M_q42 (yu7 T) (hr.mono (by decide)) T.B_q42 .nil vf (yb (pv 1) yg (yc rfl))))) (yi (wd (y7 x4 (pv 1) yj (vg _)) (yi (vo (pv 0) yj rfl)) (yi (vo (pv 0) (wx yg) rfl)))))),?_⟩
  try dsimp only [wc]
  refine yo (σ':=[some _,some _]) rfl ?_
  have nep:el ≠ p:=xw he hp (by intro z; cases z)
  walk_at "rd"
  refine uw (fun hn=>?_) (fun hn=>?_)
  ·walk_at "rd"
   exact ⟨p,dp,ll,bl,mp,el,pl,nd,b,sg,rfl,hp,he,hz,hn,fun H' h1 h2 h3=>k el H' (.inl rfl) h1 h2 h3 ⟨_,h2⟩⟩
  ·unfold ndN sgN at k
   rw [if_neg hn,if_neg hn] at k
   walk_at "rd"
   refine uw (fun hb=>?_) (fun hb=>?_)
   ·rw [if_pos hb,if_pos hb] at k
    walk_at "rd"
    exact k el _ (.inl rfl) yd (yp nep he) (fun c o e n1 _=>yp n1 e) ⟨_,yp nep he⟩
   ·rw [if_neg hb,if_neg hb] at k
    walk_at "rd"
    refine ⟨by walk_at "len",fun r hr0=>?_⟩
    with_reducible first | refine yy hr0 fun H1 S1 e1=>?_ | refine new_obj hr0 fun H1 S1 e1=>?_
    have hp1:=S1 _ _ hp
    walk_at "rd"
    have nrp:r ≠ p:=fun z=>by rw [z,hp] at hr0; cases hr0
    exact k r _ (.inr hr0) yd (yp nrp e1) (fun c o e n1 _=>yp n1 (S1 _ _ e)) ⟨_,yp nep (S1 _ _ he)⟩
theorem yrr:yn ["self","bit","slot"] ["self","bit"] (ya yez):=⟨rfl,rfl,rfl,by decide +kernel,rfl,by decide +kernel,by decide +kernel⟩
def yt1 (K:W.Frag) (a:Ads):Sp:=fun vs H Q _=>∃ (p:Addr) (A:FA) (X:FX) (f:Nat->List Int->Option Slt) (O:Nat->Addr->Prop) (m:Nat) (b:Int),vs = [.ref p,.int b]/\za K a H p A X f O m/\0 <= b/\b <= 1/\m + 20 < 1000000/\0 <= X.nd/\X.sg.length <= 100000 /\
 ∀ (ml el pl:Addr) (sl:Nat->Addr) (f':Nat->List Int->Option Slt) (O':Nat->Addr->Prop) (H':Hp),(el = A.el\/H el = none)->za K a H' p { A with ml:=ml,el:=el,pl:=pl,sl:=sl } (X.see A b) f' O' (m + A.n)->(∀ j c,j < A.n->O' j c->O j c\/H c = none) ->
  (∀ c o,H c = some o->c ≠ p->c ≠ A.mp->c ≠ A.el->(∀ j,j < A.n->¬ O j c)->H' c = some o)->(∀ c o,H c = some o->∃ o',H' c = some o')->H ml = none->Q .non H'
theorem ym8 (T:Txt K mg a):we P w K mg base CX0 6 a.f_q40 a.d_q40 ["self","bit"] (yt1 K a):=by
 refine T.F_q40.ok yrr (fun vs H Q E h=>?_) (fun cdv A outer s H vs Q E hr h=>?_)
 ·obtain ⟨p,A,X,f,O,m,b,rfl,_⟩:=h
  rfl
 ·obtain ⟨p,A',X,f,O,m,b,rfl,h,b0,b1,hm,hnd,hsg,k⟩:=h
  have hp:=h.me
  have hmo:=h.mx.o
  have n6:=h.n6
  have hbit:=yxz b0 b1
  refine yq (vj (vv (ybd T) (hr.mono (by decide)) rfl T.m_q10 T.F_q10.kp T.B_q10 .nil w4 (yb (pv 1) yg (yc rfl)))) ?_
  refine yq (vj (ux (y6 (pv 0) rfl) T.cl_Mx T.M_q35 (yw0 T) (hr.mono (by decide)) T.B_q35 .nil w4 (yb (wu (pv 0) T.cl_Ft T.M_q38 (yqr T) (hr.mono (by decide)) T.B_q38 .nil vf) (yb (pv 1) yg (yc rfl)) (yc rfl)))) ?_
  refine yq (z8 PassesOwn.never rfl (wt (y6 (pv 0) rfl)) (w6 (i:=2) yrr.nd rfl (Or.inl rfl)) (yi (vj (yi4 (ux (pv 2) T.cl_Even T.M_q16 (yv7 T) (hr.mono (by decide)) T.B_q16 .nil w4 (yb (pv 1) yg (yc rfl))) (yi4 (ux (pv 2) T.cl_Quick T.M_q19 (yuy T) (hr.mono (by decide)) T.B_q19 .nil w4 (yb (pv 1) yg (yc rfl))) (ux (pv 2) T.cl_Run T.M_q22 (yvz T) (hr.mono (by decide)) T.B_q22 .nil w4 (yb (pv 1) yg (yc rfl)))))))) ?_
  refine yq (vj (x9 (pv 0) T.cl_Ft T.M_q41 (yvm T) (hr.mono (by decide)) T.B_q41 .nil vf (yb (pv 1) yg (yc rfl)))) ?_
  refine ⟨_,(yi (vj (wu (pv 0) T.cl_Ft T.M_q37 (yqc T) (hr.mono (by decide)) T.B_q37 .nil vf))),?_⟩
  try dsimp only [wc]
  refine yo (σ':=[some _,some _,none]) rfl ?_
  walk_at "rd"
  refine ⟨.int b,_,rfl,.int b,fun _=>?_,fun z=>(by rw [hbit] at z; cases z)⟩
  walk_at "rd"
  refine ⟨p,A',X,f,O,m,rfl,h,fun r H1 hr0 hr1 S1=>?_⟩
  have hmo1:=S1 _ _ hmo
  walk_at "rd"
  refine ⟨A'.mp,A'.mx,A'.ml,r,X.ws,X.cs A',A'.n,.int b,_,rfl,h.n1,n6,h.wok,h.cok,h.mx.same S1,SqL.of hr1,.int b,fun b' e _ _ ml H2 hml0 M2 B2=>?_,fun z=>(by rw [hbit] at z; cases z)⟩
  cases e
  have h1:=h.same S1
  have npm:p ≠ A'.mp:=fun z=>by
   have:=h.me
   rw [z,hmo] at this
   injection this with this
   injection this with _ _ e
   exact absurd (congrArg List.length e) (show ¬ (1 = 6) by decide)
  have hp2:=B2 _ _ h1.me npm
  have nl2:∀ {l:Addr} {xs:List V},H1 l = some (.lst xs)->l ≠ A'.mp:=fun {l xs} e z=>by rw [z,hmo1] at e; cases e
  have hbl2:=B2 _ _ h1.bl (nl2 h1.bl)
  have hel2:=B2 _ _ h1.el (nl2 h1.el)
  have hpl2:=B2 _ _ h1.pl (nl2 h1.pl)
  have Bk2:=h1.B.frame (O2:=fun c=>c = A'.mp) (fun c o e ne=>B2 c o e ne) (fun j c hj w z=>h.nm j hj (z ▸ w)) (fun j hj z=>by
   have:=(h1.B.b j hj).me
   rw [z,hmo1] at this
   injection this with this
   injection this with _ _ e
   exact absurd (congrArg List.length e) (show ¬ (1 = 2) by decide)) (fun t xs e=>by
   rcases e with (e | ⟨o,e⟩) | e
   ·exact .inl (.inl (B2 _ _ e (fun z=>by rw [z,hmo1] at e; cases e)))
   ·exact .inl (.inr ⟨o,B2 _ _ e (fun z=>by rw [z,hmo1] at e; cases e)⟩)
   ·exact .inr e)
  have at2:∀ j,j < A'.n->(∃ s,f j (X.key A' j) = some s)/\AtS H2 (A'.dd j) (X.key A' j) (A'.sl j):=fun j hj=>⟨(h1.at' j hj).1,(h1.at' j hj).2.told (h1.B.b j hj) (fun z=>h.nm j hj (by rw [<- z]; exact (h1.B.b j hj).dO)) B2⟩
  walk_at "rd"
  refine ⟨A'.pl,rfl,⟨_,SqL.of hpl2⟩,zu (K:=K) (a:=A'.pl) (xs:=xl A'.sl A'.n) (fun i σ2 G=>∃ (v:Option V) (f':Nat->List Int->Option Slt),σ2 = [some (.ref p),some (.int b),v]/\Bks K a G A'.n A'.bk A'.dx A'.lk A'.dd A'.kd A'.ps f' O m /\
    (∀ j,j < A'.n->∀ k,(f' j k).getD (kd0 (A'.kd j)) = if j < i/\k = X.key A' j then (X.g j k).see b else X.g j k)/\(∀ j,j < A'.n->(∃ s,f' j (X.key A' j) = some s)/\AtS G (A'.dd j) (X.key A' j) (A'.sl j))/\(∀ c o,H2 c = some o->(∀ j,j < A'.n->¬ O j c)->G c = some o))
   ⟨_,f,rfl,Bk2,fun j hj k'=>by rw [if_neg (fun z=>absurd z.1 (Nat.not_lt_zero j))]; exact h.ag j hj k',at2,fun c o e _=>e⟩ (fun i σ2 G _ ⟨_,_,_,_,_,_,w⟩=>SqL.of (w _ _ hpl2 (Bk2.nlst hpl2))) ?_ ?_⟩
  ·rintro i y σ2 G hy ⟨v,f',rfl,gB,gA,gS,gF⟩
   obtain ⟨rfl,hin⟩:=zv hy
   obtain ⟨⟨s',hs'⟩,hat⟩:=gS i hin
   have es:s' = X.g i (X.key A' i):=by
    have:=gA i hin (X.key A' i)
    rw [hs',if_neg (fun z=>absurd z.1 (Nat.lt_irrefl i))] at this
    exact this
   obtain ⟨dq,hq,ok,hkd,hOq⟩:=(gB.b i hin).slot hs' hat
   walk_at "rd"
   refine yr6 (x:=.int b) (fun Q' h=>?_) (fun Q' h=>?_) hq ok (.int b) (fun b' e _ _ G3 h3 B3=>?_) (fun z=>by rw [hbit] at z; cases z) (fun z=>by rw [hbit] at z; cases z) (fun z=>by rw [hbit] at z; cases z)
   ·walk_at "rd"
    exact h
   ·walk_at "rd"
    exact h
   cases e
   have hb3:=(gB.b i hin).told hs' hat b0 b1 h3 B3
   have BO:ypp (O i) G G3:=fun c o e no=>B3 _ _ e fun z=>no (by rw [z]; exact hOq)
   have M3:=gB.move hin (Nat.le_refl m) hb3 (fun c w=>.inl w) BO
   have eO:(fun j=>if j = i then O i else O j) = O:=by
    funext j
    by_cases z:j = i
    ·rw [if_pos z,z]
    ·rw [if_neg z]
   rw [eO] at M3
   have ndq:A'.dd i ≠ A'.sl i:=fun z=>by
    obtain ⟨kvs,loc,w1,_⟩:=(gB.b i hin).tb
    obtain ⟨C,fs,eo⟩:=yf6 a dq s'
    rw [z,hq,eo] at w1
    cases w1
   walk_at "rd"
   refine ⟨_,_,rfl,M3,fun j hj k'=>?_,fun j hj=>?_,fun c o e no=>?_⟩
   ·try dsimp only
    by_cases z:j = i
    ·subst z
     rw [if_pos rfl]
     unfold ye1
     by_cases w:k' = X.key A' j
     ·rw [if_pos w,if_pos ⟨Nat.lt_succ_self j,w⟩,w,<- es]
      rfl
     ·rw [if_neg w,if_neg (fun z=>w z.2)]
      have:=gA j hj k'
      rw [if_neg (fun z=>w z.2)] at this
      exact this
    ·rw [if_neg z,gA j hj k']
     have:(j < i/\k' = X.key A' j) ↔ (j < i + 1/\k' = X.key A' j):=by constructor <;> (rintro ⟨u,v⟩; exact ⟨by omega,v⟩)
     by_cases w:j < i/\k' = X.key A' j
     ·rw [if_pos w,if_pos (this.mp w)]
     ·rw [if_neg w,if_neg (fun z=>w (this.mpr z))]
   ·try dsimp only
    by_cases z:j = i
    ·subst z
     rw [if_pos rfl]
     refine ⟨⟨s'.see b,?_⟩,hat.told (gB.b j hin) ndq B3⟩
     unfold ye1
     rw [if_pos rfl]
    ·rw [if_neg z]
     exact ⟨(gS j hj).1,(gS j hj).2.move gB hj hin z BO⟩
   ·exact BO _ _ (gF c o e no) (no i hin)
  ·rintro σ2 G ⟨v,f',rfl,gB,gA,gS,gF⟩
   rw [wj] at gA
   have gp:=gF _ _ hp2 h.np
   have gel:=gF _ _ hel2 (Bk2.nlst hel2)
   have gbl:=gF _ _ hbl2 (Bk2.nlst hbl2)
   have gmo:=gF _ _ M2.o h.nm
   have gml:=gF _ _ M2.l (Bk2.nlst M2.l)
   walk_at "rd"
   refine ⟨p,A'.dp,A'.ll,A'.bl,A'.mp,A'.el,A'.pl,X.nd,b,X.sg,rfl,gp,gel,hsg,hnd,fun el H4 hel' me4 el4 F4 L4=>?_⟩
   have nlp:∀ {l:Addr} {xs:List V},G l = some (.lst xs)->l ≠ p:=fun {l xs} e z=>by rw [z,gp] at e; cases e
   have npO:∀ j,j < A'.n->¬ O j p:=h.np
   have nelO:=gB.nlst gel
   have Bk4:=gB.frame (O2:=fun c=>c = p\/c = A'.el) (fun c o e ne=>F4 c o e (fun z=>ne (.inl z)) (fun z=>ne (.inr z))) (fun j c hj w z=>by
    rcases z with z | z
    ·exact npO j hj (z ▸ w)
    ·exact nelO j hj (z ▸ w)) (fun j hj z=>by
    have:=(gB.b j hj).me
    rcases z with z | z
    ·rw [z,gp] at this
     injection this with this
     injection this with _ _ e
     exact absurd (congrArg List.length e) (show ¬ (6 = 2) by decide)
    ·rw [z,gel] at this
     cases this) (fun t xs e=>by
    rcases e with (e | ⟨o,e⟩) | e
    ·exact .inl (.inl (F4 _ _ e (fun z=>by rw [z,gp] at e; cases e) (fun z=>by rw [z,gel] at e; cases e)))
    ·exact .inl (.inr ⟨o,F4 _ _ e (fun z=>by rw [z,gp] at e; cases e) (fun z=>by rw [z,gel] at e; cases e)⟩)
    ·exact .inr e)
   have nbe:A'.bl ≠ A'.el:=fun z=>by
    have e:=h.bl
    rw [z,h.el] at e
    injection e with e
    injection e with e
    have e0:=congrArg (fun l:List V=>l[0]?) e
    have r0:(xl A'.bk A'.n)[0]? = some (.ref (A'.bk 0)):=by
     unfold xl
     rw [List.getElem?_map,List.getElem?_range h.n1]
     rfl
    try dsimp only at e0
    rw [r0,List.getElem?_map] at e0
    cases hs:X.sg[0]? with
    | none=>rw [hs] at e0; cases e0
    | some c=>rw [hs] at e0; cases e0
   have nme:ml ≠ A'.el:=(ye h1.el hml0).symm
   have bl4:=F4 _ _ gbl (nlp gbl) nbe
   have mo4:=F4 _ _ gmo (Ne.symm npm) (fun z=>by rw [z,gel] at gmo; cases gmo)
   have ml4:=F4 _ _ gml (nlp gml) nme
   have live4:∀ c o,H c = some o->∃ o',H4 c = some o':=fun c o e=>by
    by_cases zp:c = p
    ·exact ⟨_,zp ▸ me4⟩
    by_cases ze:c = A'.el
    ·rw [ze]
     exact L4
    have gc:∃ o',G c = some o':=by
     by_cases zm:c = A'.mp
     ·exact ⟨_,zm ▸ gmo⟩
     by_cases zo:∀ j,j < A'.n->¬ O j c
     ·exact ⟨o,gF _ _ (B2 _ _ (S1 _ _ e) zm) zo⟩
     ·have:∃ j,j < A'.n/\O j c:=Classical.byContradiction fun w=>zo fun j hj w'=>w ⟨j,hj,w'⟩
      obtain ⟨j,hj,w⟩:=this
      obtain ⟨o',ho',_⟩:=(gB.b j hj).own c w
      exact ⟨o',ho'⟩
    obtain ⟨o',ho'⟩:=gc
    exact ⟨o',F4 _ _ ho' zp ze⟩
   have ag4:ypu A'.n A'.kd f' (X.see A' b).g:=fun j hj k'=>by
    rw [gA j hj k']
    show _ = if k' = X.key A' j then (X.g j k').see b else X.g j k'
    by_cases w:k' = X.key A' j
    ·rw [if_pos ⟨hj,w⟩,if_pos w]
    ·rw [if_neg (fun z=>w z.2),if_neg w]
   walk_at "rd"
   refine ⟨p,A'.dp,A'.ll,A'.bl,A'.mp,el,A'.pl,ndN X.nd b,sgN X.sg X.nd b,A'.n,m,A'.bk,A'.dx,A'.lk,A'.dd,A'.kd,A'.ps,f',O,(X.see A' b).g,rfl,me4,bl4,el4,Bk4,ag4,n6,by omega,h.np,fun pl sl f2 O2 H5 me5 pl5 hpl0 B5 ag5 at5 hO5 F5 L5=>?_⟩
   have nlO4:∀ {l:Addr} {xs:List V},H4 l = some (.lst xs)->l ≠ p:=fun {l xs} e z=>by rw [z,me4] at e; cases e
   have n2:∀ j c,j < A'.n->O2 j c->O j c\/H c = none:=fun j c hj w=>by
    rcases hO5 j c hj w with v | v
    ·exact .inl v
    ·refine .inr ?_
     cases e:H c with
     | none=>rfl
     | some o =>
      obtain ⟨o',ho'⟩:=live4 c o e
      rw [ho'] at v
      cases v
   refine k ml el pl sl f2 O2 H5 ?_ ⟨me5,F5 _ _ bl4 (nlO4 bl4) (Bk4.nlst bl4),F5 _ _ el4 (nlO4 el4) (Bk4.nlst el4),⟨F5 _ _ mo4 (Ne.symm npm) h.nm,F5 _ _ ml4 (nlO4 ml4) (Bk4.nlst ml4)⟩,yra h.n1 n6 h.wok h.cok,pl5,B5,ag5,at5,fun j hj w=>?_,fun j hj w=>?_,h.n1,n6⟩ n2 (fun c o e c1 c2 c3 no=>F5 _ _ (F4 _ _ (gF _ _ (B2 _ _ (S1 _ _ e) c2) no) c1 c3) c1 no) (fun c o e=>let ⟨o',w⟩:=live4 c o e; L5 c o' w) (S1.free hml0)
   ·rcases hel' with z | z
    ·exact .inl z
    ·refine .inr ?_
     cases e:H el with
     | none=>rfl
     | some o =>
      exfalso
      by_cases zp:el = p
      ·rw [zp,gp] at z; cases z
      by_cases zm:el = A'.mp
      ·rw [zm,gmo] at z; cases z
      by_cases zo:∀ j,j < A'.n->¬ O j el
      ·rw [gF _ _ (B2 _ _ (S1 _ _ e) zm) zo] at z; cases z
      ·have:∃ j,j < A'.n/\O j el:=Classical.byContradiction fun w=>zo fun j hj w'=>w ⟨j,hj,w'⟩
       obtain ⟨j,hj,w⟩:=this
       obtain ⟨o',ho',_⟩:=(gB.b j hj).own el w
       rw [ho'] at z
       cases z
   ·rcases n2 j p hj w with v | v
    ·exact h.np j hj v
    ·rw [hp] at v; cases v
   ·rcases n2 j A'.mp hj w with v | v
    ·exact h.nm j hj v
    ·rw [hmo] at v; cases v
theorem ym4:yn ["number","size","places"] ["number","size"] (ya yec):=⟨rfl,rfl,rfl,by decide +kernel,rfl,by decide +kernel,by decide +kernel⟩
def yj6:Sp:=fun vs H Q _=>∃ (n:Int) (k:Nat),vs = [.int n,.int k]/\k <= 100000/\∀ t H',H t = none->H' t = some (.lst ((wr k n).map V.int))->vm H H'->Q (.ref t) H'
theorem yxx (T:Txt K mg a):we P w K mg base CX0 1 a.f_q43 a.d_q43 ["number","size"] yj6:=by
 refine T.F_q43.ok ym4 (fun vs H Q E h=>?_) (fun cdv A outer s H vs Q E hr h=>?_)
 ·obtain ⟨n,k',rfl,_⟩:=h
  rfl
 ·obtain ⟨n,k',rfl,hk,k⟩:=h
  refine ⟨_,(yk (vd (i:=2) ym4.nd rfl (Or.inl rfl) (wx yg)) (yk (jt PassesOwn.never (y7 ygg (yr yw rfl T.z_len (by decide +kernel) (yb (pv 2) yg (yc rfl))) (pv 1) (vg _)) (yk (vj (yen PySem.F.plainAttrs_list PySem.F.slot_list_append PySem.F.type_list_append wo (pv 2) (yb (ym vt (pv 0) yj) yg (yc rfl)))) (yi (vd (i:=0) ym4.nd rfl (Or.inl rfl) (ym vk (pv 0) yj))))) (yk (vj (yqq PySem.F.plainAttrs_list PySem.F.slot_list_reverse PySem.F.type_list_reverse yjt (pv 2))) (yi (yv (pv 2)))))),?_⟩
  try dsimp only [wc]
  refine yo (σ':=[some _,some _,none]) rfl ?_
  walk_at "rd"
  refine ⟨by walk_at "len",fun t ht=>?_⟩
  walk_at "rd"
  refine ⟨fun m σ' H1=>∃ (n':Int) (xs:List Int),σ' = [some (.int n'),some (.int k'),some (.ref t)]/\H1 t = some (.lst (xs.map V.int))/\vm H H1/\xs ++ lo (k' - xs.length) n' = lo k' n/\xs.length <= k'/\m = k' - xs.length,⟨_,n,[],rfl,yd,vn ht,rfl,Nat.zero_le _,rfl⟩,?_⟩
  rintro m σ2 H2 ⟨n',xs,rfl,h2,S2,e2,l2,rfl⟩
  walk_at "rd"
  refine x3 (SqL.of h2) ?_
  rw [List.length_map]
  walk_at "rd"
  refine uw (fun hb=>?_) (fun hb=>?_)
  ·refine yf9 ?_
   walk_at "rd"
   refine ybj h2 ?_
   walk_at "rd"
   refine uc h2 (by rw [List.length_map]; exact v7 (by omega)) ?_
   walk_at "rd"
   refine ⟨_,?_,n' / 256,xs ++ [n' % 256],rfl,(yd.trans (by rw [yof])),fun b o e=>?_,?_,?_,rfl⟩
   ·rw [List.length_append]
    show k' - (xs.length + 1) < k' - xs.length
    omega
   ·rw [yu (ye e ht)]
    exact S2 b o e
   ·have el:k' - xs.length = k' - (xs ++ [n' % 256]).length + 1:=by
     rw [List.length_append]
     show k' - xs.length = k' - (xs.length + 1) + 1
     omega
    rw [el] at e2
    rw [<- e2,List.append_assoc]
    rfl
   ·rw [List.length_append]
    show xs.length + 1 <= k'
    omega
  ·walk_at "rd"
   have el:k' - xs.length = 0:=by omega
   rw [el] at e2
   have e3:xs = lo k' n:=by rw [<- e2]; simp [lo]
   refine ybj h2 ?_
   refine ylv h2 ?_
   walk_at "rd"
   refine k t _ ht ?_ fun b o e=>?_
   ·rw [yd,ytt,e3]
    rfl
   ·rw [yu (ye e ht)]
    exact S2 b o e
theorem ywh:yn ["low","unit"] ["low","unit"] (ya ydo):=⟨rfl,rfl,rfl,by decide +kernel,rfl,by decide +kernel,by decide +kernel⟩
def ybh:Sp:=fun vs H Q _=>∃ l e:Int,vs = [.int l,.int e]/\0 < e/\e < 2 ^ 63/\Q (.int (blk l e)) H
theorem yrp (T:Txt K mg a):we P w K mg base CX0 1 a.f_q44 a.d_q44 ["low","unit"] ybh:=by
 refine T.F_q44.ok ywh (fun vs H Q E h=>?_) (fun cdv A outer s H vs Q E hr h=>?_)
 ·obtain ⟨l,e,rfl,_⟩:=h
  rfl
 ·obtain ⟨l,e,rfl,h1,h2,k⟩:=h
  refine ⟨_,(yi (yv (ym vk (ym ue (ym vw (pv 0) (pv 1)) yj) (pv 1)))),?_⟩
  try dsimp only [wc]
  refine yo (σ':=[some _,some _]) rfl ?_
  walk_at "rd"
  exact k
theorem yx7:yn ["self"] ["self"] (ya yem):=⟨rfl,rfl,rfl,by decide +kernel,rfl,by decide +kernel,by decide +kernel⟩
def yso (C:Addr):Sp:=fun vs H Q _=>∃ (p dx:Addr),vs = [.ref p]/\H p = some (.ins C dx [])/\∀ H',H' p = some (.ins C dx (zr s0))->But p H H'->Q .non H'
theorem yro (T:Txt K mg a):we P w K mg base CX0 1 a.f_q45 a.d_q45 ["self"] (yso a.C_Span):=by
 refine T.F_q45.ok yx7 (fun vs H Q E h=>?_) (fun cdv A outer s H vs Q E hr h=>?_)
 ·obtain ⟨p,dx,rfl,_⟩:=h
  rfl
 ·obtain ⟨p,dx,rfl,hp,k⟩:=h
  refine ⟨_,(yk (vo (pv 0) yj rfl) (yk (vo (pv 0) (vq rfl T.c_FIRST_WIDTH) rfl) (yi (vo (pv 0) (vq rfl T.c_FIRST_SIZE) rfl)))),?_⟩
  try dsimp only [wc]
  refine yo (σ':=[some _]) rfl ?_
  walk_at "rd"
  refine ⟨p,_,dx,_,rfl,hp,T.cl_Span,T.n_Span_low,by show 0 < 1000; decide,?_⟩
  walk_at "rd"
  refine ⟨p,_,dx,_,rfl,yd,T.cl_Span,T.n_Span_width,by show 1 < 1000; decide,?_⟩
  walk_at "rd"
  refine ⟨p,_,dx,_,rfl,yd,T.cl_Span,T.n_Span_size,by show 2 < 1000; decide,?_⟩
  have e:wb "size" (.int 5) (wb "width" (.int 1099511627776) (wb "low" (.int 0) [])) = zr s0:=by
   rw [w9,vy nLW w9,vy nLS (vy nWS w9)]
   rfl
  refine k _ (yd.trans (congrArg (fun l=>some (HO.ins a.C_Span dx l)) e)) fun b o h n=>?_
  rw [yu n,yu n,yu n]
  exact h
theorem yxr:yn ["self","chance"] ["self","chance"] (ya ydm):=⟨rfl,rfl,rfl,by decide +kernel,rfl,by decide +kernel,by decide +kernel⟩
def yxg (C:Addr):Sp:=fun vs H Q _=>∃ (p dx:Addr) (x:Sn) (c:Int),vs = [.ref p,.int c]/\H p = some (.ins C dx (zr x))/\Ch c/\Q (.int (cut x.2.1 c)) H
theorem yrk (T:Txt K mg a):we P w K mg base CX0 1 a.f_q46 a.d_q46 ["self","chance"] (yxg a.C_Span):=by
 refine T.F_q46.ok yxr (fun vs H Q E h=>?_) (fun cdv A outer s H vs Q E hr h=>?_)
 ·obtain ⟨p,dx,x,c,rfl,_⟩:=h
  rfl
 ·obtain ⟨p,dx,x,c,rfl,hp,⟨c1,c2⟩,k⟩:=h
  refine ⟨_,(yi (yv (ym vk (ym wk (y6 (pv 0) rfl) (pv 1)) (vq rfl T.c_ONE)))),?_⟩
  try dsimp only [wc]
  refine yo (σ':=[some _,some _]) rfl ?_
  walk_at "rd"
  exact k
theorem yq4:yn ["self","chance","bit","cut"] ["self","chance","bit"] (ya yeo):=⟨rfl,rfl,rfl,by decide +kernel,rfl,by decide +kernel,by decide +kernel⟩
def ylw (K:W.Frag) (C Nc Nb:Addr):Sp:=fun vs H Q E=>∃ (p dx:Addr) (x:Sn) (vc vb:V) (n m:String),vs = [.ref p,vc,vb]/\H p = some (.ins C dx (zr x))/\Ok x/\xz K H vc (.type n)/\xz K H vb (.type m) /\
 (chV vc = false->E (.ref Nc) none H)/\(chV vc = true->yam vb = false->E (.ref Nb) none H) /\
 ∀ c b:Int,vc = .int c->vb = .int b->Ch c->0 <= b->b <= 1->∀ H',H' p = some (.ins C dx (zr (nar x c b)))->But p H H'->Q .non H'
theorem yrj (T:Txt K mg a):we P w K mg base (CXe P w) 4 a.f_q47 a.d_q47 ["self","chance","bit"] (ylw K a.C_Span a.C_NC a.C_NB):=by
 refine T.F_q47.okE yq4 (fun vs H Q E h=>?_) (fun cdv A outer s H vs Q E hr h=>?_)
 ·obtain ⟨p,dx,x,vc,vb,n,m,rfl,_⟩:=h
  rfl
 ·obtain ⟨p,dx,x,vc,vb,n,m,rfl,hp,hx,tc,tb,k1,k2,k⟩:=h
  refine ⟨_,(yk (vj (vv (yt4 T) (hr.mono (by decide)) rfl T.m_q9 T.F_q9.kp T.B_q9 .nil v8 (yb (pv 1) yg (yc rfl)))) (yk (vj (vv (ybd T) (hr.mono (by decide)) rfl T.m_q10 T.F_q10.kp T.B_q10 .nil v8 (yb (pv 2) yg (yc rfl)))) (yk (vd (i:=3) yq4.nd rfl (Or.inl rfl) (x9 (pv 0) T.cl_Span T.M_q46 (yrk T) (hr.mono (by decide)) T.B_q46 .nil vf (yb (pv 1) yg (yc rfl)))) (yk (yf8 (wd (y7 x4 (pv 2) yj (vg _)) (yi (vo (pv 0) (pv 3) rfl)) (yk (vo (pv 0) (ym vw (y6 (pv 0) rfl) (pv 3)) rfl) (yi (vo (pv 0) (ym ue (y6 (pv 0) rfl) (pv 3)) rfl))))) (yi (PS.nox (jt PassesOwn.never (y7 ygg (y6 (pv 0) rfl) (vq rfl T.c_LEAST_WIDTH) (vg _)) (yk (vo (pv 0) (ym wk (y6 (pv 0) rfl) yj) rfl) (yk (vo (pv 0) (ym wk (y6 (pv 0) rfl) yj) rfl) (yi (vo (pv 0) (ym vw (y6 (pv 0) rfl) yj) rfl))))))))))),?_⟩
  try dsimp only [wc]
  refine yo (σ':=[some _,some _,some _,none]) rfl ?_
  have hw0:=hx.w0
  have hw1:=hx.w1
  walk_at "rd"
  refine ⟨vc,n,rfl,tc,fun hvc=>?_,k1⟩
  walk_at "rd"
  refine ⟨vb,m,rfl,tb,fun hvb=>?_,k2 hvc⟩
  obtain ⟨c,rfl,c1,c2⟩:=yhp hvc
  obtain ⟨b,rfl,b0,b1⟩:=yik hvb
  have hc:Ch c:=⟨c1,c2⟩
  have k:=k c b rfl rfl hc b0 b1
  walk_at "rd"
  refine ⟨p,dx,_,rfl,hp,lkN _ (by decide +kernel) (by decide +kernel) (by decide +kernel),?_⟩
  walk_at "rd"
  refine ⟨p,dx,x,c,rfl,hp,hc,?_⟩
  walk_at "rd"
  obtain ⟨a1,a2,a3⟩:=yf7 hw0 hw1 hc
  refine yni (fun σ' H'=>∃ y:Sn,σ' = [some (.ref p),some (.int c),some (.int b),some (.int (cut x.2.1 c))]/\H' p = some (.ins a.C_Span dx (zr y))/\8388608 <= y.2.1/\y.2.1 <= 1099511627776/\ren y.1 y.2.1 y.2.2 = nar x c b/\But p H H') ?_ ?_
  ·walk_at "rd"
   refine uw (fun hb=>?_) (fun hb=>?_)
   ·walk_at "rd"
    refine ⟨_,rfl,yd,a1,Int.le_of_lt a3,?_,But.upd⟩
    unfold nar
    (rw [if_pos hb]) <;> rfl
   ·walk_at "rd"
    refine ⟨_,rfl,yd,a2,?_,?_,But.upd.trans But.upd⟩
    ·show x.2.1 - cut x.2.1 c <= _
     omega
    ·unfold nar
     (rw [if_neg hb]) <;> rfl
  ·rintro σ' H' ⟨y,rfl,hp',y1,y2,y3,y4⟩
   refine ⟨fun m σ' H'=>∃ y:Sn,σ' = [some (.ref p),some (.int c),some (.int b),some (.int (cut x.2.1 c))]/\H' p = some (.ins a.C_Span dx (zr y))/\8388608 <= y.2.1/\y.2.1 <= 1099511627776/\ren y.1 y.2.1 y.2.2 = nar x c b/\But p H H'/\m = (4294967296 - y.2.1).toNat,⟨_,y,rfl,hp',y1,y2,y3,y4,rfl⟩,?_⟩
   rintro m σ2 H2 ⟨z,rfl,hz,z1,z2,z3,z4,rfl⟩
   walk_at "rd"
   refine uw (fun hb=>?_) (fun hb=>?_)
   ·refine yf9 ?_
    walk_at "rd"
    refine ⟨_,?_,(z.1 * 256,z.2.1 * 256,z.2.2 + 1),rfl,yd,?_,?_,(yo1 hb z1).trans z3,((z4.trans But.upd).trans But.upd).trans But.upd,rfl⟩
    ·show (4294967296 - z.2.1 * 256).toNat < (4294967296 - z.2.1).toNat
     omega
    ·show 8388608 <= z.2.1 * 256
     omega
    ·show z.2.1 * 256 <= 1099511627776
     omega
   ·rw [ys7 hb] at z3
    refine k _ ?_ z4
    rw [<- z3]
    exact hz
theorem yw9:yn ["self","unit"] ["self","unit"] (ya yee):=⟨rfl,rfl,rfl,by decide +kernel,rfl,by decide +kernel,by decide +kernel⟩
def yn1 (C:Addr):Sp:=fun vs H Q _=>∃ (p dx:Addr) (x:Sn) (j:Nat),vs = [.ref p,.int (pw j)]/\H p = some (.ins C dx (zr x))/\j <= 6/\Q (.bl (decide (ykh x.1 x.2.1 j))) H
theorem yx6 (T:Txt K mg a):we P w K mg base CX0 2 a.f_q48 a.d_q48 ["self","unit"] (yn1 a.C_Span):=by
 refine T.F_q48.ok yw9 (fun vs H Q E h=>?_) (fun cdv A outer s H vs Q E hr h=>?_)
 ·obtain ⟨p,dx,x,j,rfl,_⟩:=h
  rfl
 ·obtain ⟨p,dx,x,j,rfl,hp,hj,k⟩:=h
  refine ⟨_,(yi (yv (jd uv (ym wk (ym vw (yz (yrp T) (hr.mono (by decide)) rfl T.m_q44 T.F_q44.kp T.B_q44 .nil vf (yb (y6 (pv 0) rfl) (yb (pv 1) yg (yc rfl)) (yc rfl))) yj) (pv 1)) (ym vw (y6 (pv 0) rfl) (y6 (pv 0) rfl)) (vg _)))),?_⟩
  try dsimp only [wc]
  refine yo (σ':=[some _,some _]) rfl ?_
  have q1:=yin hj
  have q2:=uf j
  walk_at "rd"
  refine ⟨_,_,rfl,q2,by omega,?_⟩
  walk_at "rd"
  exact k
theorem ygb:yn ["self","unit","size"] ["self"] (ya yej):=⟨rfl,rfl,rfl,by decide +kernel,rfl,by decide +kernel,by decide +kernel⟩
def ysw (C:Addr):Sp:=fun vs H Q _=>∃ (p dx:Addr) (x:Sn),vs = [.ref p]/\H p = some (.ins C dx (zr x))/\OkS x/\sz x <= 100000/\∀ t H',H t = none->H' t = some (.lst ((tL x).map V.int))->vm H H'->Q (.ref t) H'
theorem yrc (T:Txt K mg a):we P w K mg base CX0 3 a.f_q49 a.d_q49 ["self"] (ysw a.C_Span):=by
 refine T.F_q49.ok ygb (fun vs H Q E h=>?_) (fun cdv A outer s H vs Q E hr h=>?_)
 ·obtain ⟨p,dx,x,rfl,_⟩:=h
  rfl
 ·obtain ⟨p,dx,x,rfl,hp,hx,hz,k⟩:=h
  refine ⟨_,(yk (vd (i:=1) ygb.nd rfl (Or.inl rfl) yj) (yk (vd (i:=2) ygb.nd rfl (Or.inl rfl) (y6 (pv 0) rfl)) (yk (jt PassesOwn.never (xj (x9 (pv 0) T.cl_Span T.M_q48 (yx6 T) (hr.mono (by decide)) T.B_q48 .nil vf (yb (ym wk (pv 1) yj) yg (yc rfl)))) (yk (vd (i:=1) ygb.nd rfl (Or.inl rfl) (ym wk (pv 1) yj)) (yi (vd (i:=2) ygb.nd rfl (Or.inl rfl) (ym ue (pv 2) yj))))) (yi (yv (yz (yxx T) (hr.mono (by decide)) rfl T.m_q43 T.F_q43.kp T.B_q43 .nil vf (yb (yz (yrp T) (hr.mono (by decide)) rfl T.m_q44 T.F_q44.kp T.B_q44 .nil vf (yb (y6 (pv 0) rfl) (yb (pv 1) yg (yc rfl)) (yc rfl))) (yb (pv 2) yg (yc rfl)) (yc rfl)))))))),?_⟩
  try dsimp only [wc]
  refine yo (σ':=[some _,none,none]) rfl ?_
  walk_at "rd"
  refine ⟨fun m σ' H1=>H1 = H/\∃ j:Nat,σ' = [some (.ref p),some (.int (pw j)),some (.int (x.2.2 - j))]/\j <= 5/\tel x.1 x.2.1 (5 - j) j = tK x/\m = 6 - j,⟨_,rfl,0,by simp [pw],by decide,rfl,rfl⟩,?_⟩
  rintro m σ2 H2 ⟨rfl,j,rfl,hj,ej,rfl⟩
  have q1:=yin (show j <= 6 by omega)
  have q2:=uf j
  walk_at "rd"
  refine ⟨p,dx,_,rfl,hp,lkN _ (by decide +kernel) (by decide +kernel) (by decide +kernel),?_⟩
  walk_at "rd"
  refine ⟨p,dx,x,j + 1,rfl,hp,by omega,?_⟩
  walk_at "rd"
  refine uw (fun hb=>?_) (fun hb=>?_)
  ·refine yf9 ?_
   walk_at "rd"
   have h5:=yqy hx.ok.w1 hb
   refine ⟨_,?_,rfl,j + 1,?_,h5,?_,rfl⟩
   ·show 6 - (j + 1) < 6 - j
    omega
   ·have e1:x.2.2 - (j:Int) - 1 = x.2.2 - ((j + 1:Nat):Int):=by omega
    rw [e1]
    rfl
   ·rw [yo0 hb,<- ej]
    congr 1
    omega
  ·have ej':j = tK x:=by rw [<- ej,ys3 hb]
   subst ej'
   walk_at "rd"
   refine ⟨_,_,rfl,q2,by omega,?_⟩
   walk_at "rd"
   have hs:=hx.sz
   have ht:=(yt2 hx).2
   have e1:x.2.2 - (tK x:Int) = ((sz x - tK x:Nat):Int):=by omega
   rw [e1]
   exact ⟨_,_,rfl,by omega,k⟩
theorem yxi:yn ["self","place"] ["self","place"] (ya ydn):=⟨rfl,rfl,rfl,by decide +kernel,rfl,by decide +kernel,by decide +kernel⟩
def yjw (C:Addr):Sp:=fun vs H Q _=>∃ (p dx pd:Addr) (v1 v2 v3:V) (d:List Int) (k:Nat),vs = [.ref p,.int k]/\H p = some (.ins C dx (zq (.ref pd) v1 v2 v3))/\H pd = some (.lst (d.map V.int))/\Q (.int ((d[k]?).getD 0)) H
theorem yxb (T:Txt K mg a):we P w K mg base CX0 1 a.f_q52 a.d_q52 ["self","place"] (yjw a.C_Sk):=by
 refine T.F_q52.ok yxi (fun vs H Q E h=>?_) (fun cdv A outer s H vs Q E hr h=>?_)
 ·obtain ⟨p,dx,pd,v1,v2,v3,d,k,rfl,_⟩:=h
  rfl
 ·obtain ⟨p,dx,pd,v1,v2,v3,d,k',rfl,hp,hd,k⟩:=h
  refine ⟨_,(yi (yv (jr (y7 ygg (pv 1) (yr yw rfl T.z_len (by decide +kernel) (yb (y6 (pv 0) rfl) yg (yc rfl))) (vg _)) (x5 xm (y6 (pv 0) rfl) (pv 1) (fun _ _=>rfl)) yj))),?_⟩
  try dsimp only [wc]
  refine yo (σ':=[some _,some _]) rfl ?_
  walk_at "rd"
  refine x3 (SqL.of hd) ?_
  rw [List.length_map]
  walk_at "rd"
  refine uw (fun hb=>?_) (fun hb=>?_)
  ·have hk:k' < d.length:=by omega
   rw [List.getElem?_eq_getElem hk] at k
   walk_at "rd"
   exact yae (SqL.of hd) (vz (by rw [List.getElem?_map,List.getElem?_eq_getElem hk]; rfl)) k
  ·rw [List.getElem?_eq_none (by omega)] at k
   walk_at "rd"
   exact k
theorem ywi:yn ["self"] ["self"] (ya ydl):=⟨rfl,rfl,rfl,by decide +kernel,rfl,by decide +kernel,by decide +kernel⟩
def ylp (C D:Addr):Sp:=fun vs H Q _=>∃ (p dx pd ps ds:Addr) (d:List Int) (x:Sn) (r:Nat),vs = [.ref p]/\H p = some (.ins C dx (zq (.ref pd) (.ref ps) (.int (rn d r)) (.int r)))/\H pd = some (.lst (d.map V.int))/\H ps = some (.ins D ds (zr x))/\p ≠ ps/\OkS x/\r <= sz x /\
 ∀ H',H' p = some (.ins C dx (zq (.ref pd) (.ref ps) (.int (rn d (sz x))) (.int x.2.2)))->But p H H'->Q .non H'
theorem yri (T:Txt K mg a):we P w K mg base CX0 2 a.f_q51 a.d_q51 ["self"] (ylp a.C_Sk a.C_Span):=by
 refine T.F_q51.ok ywi (fun vs H Q E h=>?_) (fun cdv A outer s H vs Q E hr h=>?_)
 ·obtain ⟨p,dx,pd,ps,ds,d,x,r,rfl,_⟩:=h
  rfl
 ·obtain ⟨p,dx,pd,ps,ds,d,x,r,rfl,hp,hd,hs,nps,hx,hr',k⟩:=h
  refine ⟨_,(yi (jt PassesOwn.never (y7 ygg (y6 (pv 0) rfl) (y6 (y6 (pv 0) rfl) rfl) (vg _)) (yk (vo (pv 0) (ym vw (ym wk (y6 (pv 0) rfl) yj) (x9 (pv 0) T.cl_Sk T.M_q52 (yxb T) (hr.mono (by decide)) T.B_q52 .nil vf (yb (y6 (pv 0) rfl) yg (yc rfl)))) rfl) (yi (vo (pv 0) (ym vw (y6 (pv 0) rfl) yj) rfl))))),?_⟩
  try dsimp only [wc]
  refine yo (σ':=[some _]) rfl ?_
  have hz:=hx.sz
  refine ⟨fun m σ' H1=>∃ r:Nat,σ' = [some (.ref p)]/\H1 p = some (.ins a.C_Sk dx (zq (.ref pd) (.ref ps) (.int (rn d r)) (.int r)))/\r <= sz x/\But p H H1/\m = sz x - r,⟨_,r,rfl,hp,hr',But.refl,rfl⟩,?_⟩
  rintro m σ2 H2 ⟨r,rfl,hp2,hr2,B2,rfl⟩
  have hs2:H2 ps = some (.ins a.C_Span ds (zr x)):=B2 _ _ hs nps.symm
  have hd2:=B2.lst hp hd
  walk_at "rd"
  refine uw (fun hb=>?_) (fun hb=>?_)
  ·refine yf9 ?_
   walk_at "rd"
   refine ⟨p,dx,pd,_,_,_,d,r,rfl,hp2,hd2,?_⟩
   walk_at "rd"
   refine ⟨_,?_,r + 1,rfl,?_,by omega,(B2.trans But.upd).trans But.upd,rfl⟩
   ·omega
   ·rw [yd]
    rfl
  ·have er:r = sz x:=by omega
   subst er
   walk_at "rd"
   refine k _ ?_ B2
   rw [<- hz]
   exact hp2
theorem ywq:yn ["self","data"] ["self","data"] (ya ydx):=⟨rfl,rfl,rfl,by decide +kernel,rfl,by decide +kernel,by decide +kernel⟩
def ykv (K:W.Frag) (a:Ads):Sp:=fun vs H Q E=>∃ (p dx:Addr) (v:V) (n:String),vs = [.ref p,v]/\H p = some (.ins a.C_Sk dx [])/\xz K H v (.type n) /\
 ((Bad K H v n 12000/\∀ H',vm H H'->E (.ref a.C_NY) none H')\/∃ d:List Int,yzg K H v (d.map V.int) 12000/\∀ pd ps ds H',H pd = none->H ps = none->ykj a H' p dx pd ps ds d s0->But p H H'->Q .non H')
theorem yvj (T:Txt K mg a):we P w K mg base (CXe P w) 5 a.f_q50 a.d_q50 ["self","data"] (ykv K a):=by
 refine T.F_q50.okE ywq (fun vs H Q E h=>?_) (fun cdv A outer s H vs Q E hr h=>?_)
 ·obtain ⟨p,dx,v,n,rfl,_⟩:=h
  rfl
 ·obtain ⟨p,dx,v,n,rfl,hp,ty,h⟩:=h
  refine ⟨_,(yk (vo (pv 0) (vv (yy6 T) (hr.mono (by decide)) rfl T.m_q7 T.F_q7.kp T.B_q7 .nil v8 (yb (pv 1) yg (yc rfl))) rfl) (yk (vo (pv 0) (jv T.k_Span (yro T) (hr.mono (by decide)) rfl T.m_Span T.B_q45 .nil vf) rfl) (yk (vo (pv 0) yj rfl) (yk (vo (pv 0) yj rfl) (yi (vj (wu (pv 0) T.cl_Sk T.M_q51 (yri T) (hr.mono (by decide)) T.B_q51 .nil vf))))))),?_⟩
  try dsimp only [wc]
  refine yo (σ':=[some _,some _]) rfl ?_
  walk_at "rd"
  refine ⟨v,n,rfl,ty,?_⟩
  rcases h with ⟨hb,k⟩ | ⟨d,hg,k⟩
  ·exact .inl ⟨hb,k⟩
  ·refine .inr ⟨d.map V.int,hg,fun pd H1 hd0 hd1 S1=>?_⟩
   have hp1:=S1 _ _ hp
   have npd:pd ≠ p:=fun z=>by rw [z,hp] at hd0; cases hd0
   walk_at "rd"
   have B2:But p H (upd H1 p (.ins a.C_Sk dx ([("data",V.ref pd)]:List (Str × V)))):=(But.of S1).trans But.upd
   have hp2:upd H1 p (.ins a.C_Sk dx ([("data",V.ref pd)]:List (Str × V))) p = some (.ins a.C_Sk dx ([("data",V.ref pd)]:List (Str × V))):=yd
   have hd2:upd H1 p (.ins a.C_Sk dx ([("data",V.ref pd)]:List (Str × V))) pd = some (.lst (d.map V.int)):=yp npd hd1
   generalize upd H1 p (.ins a.C_Sk dx ([("data",V.ref pd)]:List (Str × V))) = H2 at B2 hp2 hd2 ⊢
   intro ps ds nps nds ne
   refine ⟨ps,ds,rfl,yd,fun H3 hs3 B3=>⟨rfl,?_⟩⟩
   have S3:vm H2 H3:=fun b o e=>B3 b o (by rw [yu (ye e nps),yu (ye e nds)]; exact e) (ye e nps)
   have hp3:=S3 _ _ hp2
   have hd3:=S3 _ _ hd2
   have nsp:p ≠ ps:=ye hp2 nps
   have hs0:H ps = none:=by
    cases e:H ps with
    | none=>rfl
    | some o=>exact absurd (B2 _ _ e nsp.symm) (by rw [nps]; exact fun z=>nomatch z)
   walk_at "rd"
   refine ⟨p,dx,pd,ps,ds,d,s0,0,rfl,yd,?_,?_,nsp,vav,Nat.zero_le _,fun H4 hp4 B4=>?_⟩
   ·exact yp npd (yp npd (yp npd hd3))
   ·exact yp nsp.symm (yp nsp.symm (yp nsp.symm hs3))
   ·walk_at "rd"
    have B34:But p H3 H4:=((But.upd.trans But.upd).trans But.upd).trans B4
    exact k pd ps ds H4 hd0 hs0 ⟨hp4,B34 _ _ hd3 npd,B34 _ _ hs3 nsp.symm,nsp⟩ ((B2.trans (But.of S3)).trans B34)
theorem yrf:yn ["self","chance","bit"] ["self","chance"] (ya yeh):=⟨rfl,rfl,rfl,by decide +kernel,rfl,by decide +kernel,by decide +kernel⟩
def yoh (K:W.Frag) (a:Ads):Sp:=fun vs H Q E=>∃ (p dx pd ps ds:Addr) (d:List Int) (x:Sn) (v:V) (n:String),vs = [.ref p,v]/\ykj a H p dx pd ps ds d x/\OkS x/\xz K H v (.type n)/\(chV v = false->E (.ref a.C_NC) none H) /\
 ∀ c:Int,v = .int c->Ch c->∀ H',ykj a H' p dx pd ps ds d (nar x c (j3 d x c))->yns p ps H H'->Q (.int (j3 d x c)) H'
theorem yyg {x:Sn} {c b:Int} (h:Ok x) (hc:Ch c):sz x <= sz (nar x c b):=by
 obtain ⟨r,e⟩:=yzb (if b = 1 then x.1 else x.1 + cut x.2.1 c) (if b = 1 then cut x.2.1 c else x.2.1 - cut x.2.1 c) x.2.2
 have e2:nar x c b = ren (if b = 1 then x.1 else x.1 + cut x.2.1 c) (if b = 1 then cut x.2.1 c else x.2.1 - cut x.2.1 c) x.2.2:=by
  unfold nar
  split <;> rfl
 rw [e2,e]
 unfold sz
 dsimp only
 omega
theorem yup (T:Txt K mg a):we P w K mg base (CXe P w) 5 a.f_q53 a.d_q53 ["self","chance"] (yoh K a):=by
 refine T.F_q53.okE yrf (fun vs H Q E h=>?_) (fun cdv A outer s H vs Q E hr h=>?_)
 ·obtain ⟨p,dx,pd,ps,ds,d,x,v,n,rfl,_⟩:=h
  rfl
 ·obtain ⟨p,dx,pd,ps,ds,d,x,v,n,rfl,hk,hx,ty,k1,k⟩:=h
  refine ⟨_,(yk (vj (vv (yt4 T) (hr.mono (by decide)) rfl T.m_q9 T.F_q9.kp T.B_q9 .nil v8 (yb (pv 1) yg (yc rfl)))) (yk (yf8 (vd (i:=2) yrf.nd rfl (Or.inl rfl) (jr (y7 ygg (y6 (pv 0) rfl) (ym vw (y6 (y6 (pv 0) rfl) rfl) (x9 (y6 (pv 0) rfl) T.cl_Span T.M_q46 (yrk T) (hr.mono (by decide)) T.B_q46 .nil vf (yb (pv 1) yg (yc rfl)))) (vg _)) yj yj))) (yk (vj (ux (y6 (pv 0) rfl) T.cl_Span T.M_q47 (yrj T) (hr.mono (by decide)) T.B_q47 .nil v8 (yb (pv 1) (yb (pv 2) yg (yc rfl)) (yc rfl)))) (yk (vj (wu (pv 0) T.cl_Sk T.M_q51 (yri T) (hr.mono (by decide)) T.B_q51 .nil vf)) (yi (yv (pv 2))))))),?_⟩
  try dsimp only [wc]
  refine yo (σ':=[some _,some _,none]) rfl ?_
  walk_at "rd"
  refine ⟨v,n,rfl,ty,fun hv=>?_,k1⟩
  obtain ⟨c,rfl,c1,c2⟩:=yhp hv
  have hc:Ch c:=⟨c1,c2⟩
  have k:=k c rfl hc
  have hme:=hk.me
  have hsp:=hk.sp
  walk_at "rd"
  refine yni (fun σ' H'=>σ' = [some (.ref p),some (.int c),some (.int (j3 d x c))]/\H = H') ?_ ?_
  ·walk_at "rd"
   refine ⟨ps,ds,_,rfl,hsp,lkN _ (by decide +kernel) (by decide +kernel) (by decide +kernel),?_⟩
   walk_at "rd"
   refine ⟨ps,ds,x,c,rfl,hsp,hc,?_⟩
   walk_at "rd"
   unfold j3
   refine uw (fun hb=>?_) (fun hb=>?_)
   ·rw [if_pos hb]
    walk_at "rd"
    exact ⟨rfl,rfl⟩
   ·rw [if_neg hb]
    walk_at "rd"
    exact ⟨rfl,rfl⟩
  ·rintro σ' H' ⟨rfl,rfl⟩
   have hb2:=ycr d x c
   generalize hb:j3 d x c = b at hb2 k ⊢
   walk_at "rd"
   refine ⟨ps,ds,_,rfl,hsp,lkN _ (by decide +kernel) (by decide +kernel) (by decide +kernel),?_⟩
   walk_at "rd"
   refine ⟨ps,ds,x,.int c,.int b,_,_,rfl,hsp,hx.ok,.int c,.int b,(fun z=>by rw [yiw hc] at z; cases z),(fun _ z=>by rw [yhn (by omega) (by omega)] at z; cases z),fun c' b' ec eb _ _ _ H1 hs1 B1=>?_⟩
   obtain rfl:c = c':=V.int.inj ec
   obtain rfl:b = b':=V.int.inj eb
   have hme1:=B1 _ _ hme hk.ne
   have hdt1:=B1.lst hsp hk.dt
   walk_at "rd"
   have hme1':H1 p = some (.ins a.C_Sk dx (zq (.ref pd) (.ref ps) (.int (rn d (sz x))) (.int ((sz x:Nat):Int)))):=by rw [hx.sz]; exact hme1
   refine ⟨p,dx,pd,ps,ds,d,nar x c b,sz x,rfl,hme1',hdt1,hs1,hk.ne,yhm hx hc,yyg hx.ok hc,fun H2 hp2 B2=>?_⟩
   walk_at "rd"
   exact k H2 ⟨hp2,B2.lst hme1 hdt1,B2 _ _ hs1 hk.ne.symm,hk.ne⟩ (B1.two'.trans B2.two)
theorem yv9:yn ["self"] ["self"] (ya ydd):=⟨rfl,rfl,rfl,by decide +kernel,rfl,by decide +kernel,by decide +kernel⟩
def yla (a:Ads):Sp:=fun vs H Q _=>∃ (p dx pd ps ds:Addr) (d:List Int) (x:Sn),vs = [.ref p]/\ykj a H p dx pd ps ds d x/\OkS x/\sz x <= tMx/\∀ t H',H t = none->H' t = some (.lst ((tL x).map V.int))->vm H H'->Q (.ref t) H'
theorem yyh (T:Txt K mg a):we P w K mg base CX0 4 a.f_q54 a.d_q54 ["self"] (yla a):=by
 refine T.F_q54.ok yv9 (fun vs H Q E h=>?_) (fun cdv A outer s H vs Q E hr h=>?_)
 ·obtain ⟨p,dx,pd,ps,ds,d,x,rfl,_⟩:=h
  rfl
 ·obtain ⟨p,dx,pd,ps,ds,d,x,rfl,hk,hx,hz,k⟩:=h
  have hme:=hk.me
  have hsp:=hk.sp
  refine ⟨_,(yi (yv (wu (y6 (pv 0) rfl) T.cl_Span T.M_q49 (yrc T) (hr.mono (by decide)) T.B_q49 .nil vf))),?_⟩
  try dsimp only [wc]
  refine yo (σ':=[some _]) rfl ?_
  walk_at "rd"
  refine ⟨ps,ds,_,rfl,hsp,lkN _ (by decide +kernel) (by decide +kernel) (by decide +kernel),?_⟩
  walk_at "rd"
  exact ⟨ps,ds,x,rfl,hsp,hx,hz,k⟩
abbrev FA.re (A:FA) (ml el pl:Addr) (sl:Nat->Addr):FA:={ A with ml:=ml,el:=el,pl:=pl,sl:=sl }
def FX.run (A:FA) (X:FX):List Int->FX
 | []=>X
 | b :: r=>FX.run A (X.see A b) r
theorem yho (A:FA):∀ (bs cs:List Int) (X:FX),X.run A (bs ++ cs) = (X.run A bs).run A cs
 | [],_,_=>rfl
 | b :: r,cs,X=>yho A r cs (X.see A b)
theorem yoe (A:FA) (bs:List Int) (b:Int) (X:FX):X.run A (bs ++ [b]) = (X.run A bs).see A b:=yho A bs [b] X
theorem zz {A:FA} {X:FX} {bs:List Int} {k:Nat} {b:Int} (h:bs[k]? = some b):X.run A (bs.take (k + 1)) = (X.run A (bs.take k)).see A b:=by
 rw [uj h,yoe]
structure FGo (p:Addr) (A:FA) (O:Nat->Addr->Prop) (H H':Hp) (el:Addr) (O':Nat->Addr->Prop):Prop where
 he:el = A.el\/H el = none
 hO:∀ j c,j < A.n->O' j c->O j c\/H c = none
 fr:∀ c o,H c = some o->c ≠ p->c ≠ A.mp->c ≠ A.el->(∀ j,j < A.n->¬ O j c)->H' c = some o
 live:∀ c o,H c = some o->∃ o',H' c = some o'
theorem FGo.free {p:Addr} {A:FA} {O O':Nat->Addr->Prop} {H H':Hp} {el c:Addr} (h:FGo p A O H H' el O') (hc:H' c = none):H c = none:=by
 cases e:H c with
 | none=>rfl
 | some o =>
  obtain ⟨o',w⟩:=h.live c o e
  rw [hc] at w
  cases w
theorem FGo.refl {p:Addr} {A:FA} {O:Nat->Addr->Prop} {H:Hp}:FGo p A O H H A.el O:=⟨.inl rfl,fun _ _ _ w=>.inl w,fun _ _ e _ _ _ _=>e,fun _ o e=>⟨o,e⟩⟩
theorem FGo.trans {p:Addr} {A:FA} {O O1 O2:Nat->Addr->Prop} {H H1 H2:Hp} {ml el pl el2:Addr} {sl:Nat->Addr} (h:FGo p A O H H1 el O1) (k:FGo p (A.re ml el pl sl) O1 H1 H2 el2 O2):FGo p A O H H2 el2 O2:=by
 refine ⟨?_,fun j c hj w=>?_,fun c o e c1 c2 c3 no=>?_,fun c o e=>?_⟩
 ·rcases k.he with z | z
  ·rcases h.he with y | y
   ·exact .inl (z.trans y)
   ·exact .inr (by rw [show el2 = el from z]; exact y)
  ·exact .inr (h.free z)
 ·rcases k.hO j c hj w with v | v
  ·exact h.hO j c hj v
  ·exact .inr (h.free v)
 ·refine k.fr c o (h.fr c o e c1 c2 c3 no) c1 c2 (fun z=>?_) (fun j hj w=>?_)
  ·rcases h.he with y | y
   ·exact c3 (z.trans y)
   ·rw [show c = el from z,y] at e
    cases e
  ·rcases h.hO j c hj w with v | v
   ·exact no j hj v
   ·rw [e] at v
    cases v
 ·obtain ⟨o1,w1⟩:=h.live c o e
  exact k.live c o1 w1
theorem FGo.same {p:Addr} {A:FA} {O O':Nat->Addr->Prop} {H H1 H2:Hp} {el:Addr} (h:FGo p A O H H1 el O') (S:vm H1 H2):FGo p A O H H2 el O' :=
 ⟨h.he,h.hO,fun c o e c1 c2 c3 no=>S _ _ (h.fr c o e c1 c2 c3 no),fun c o e=>let ⟨o',w⟩:=h.live c o e; ⟨o',S _ _ w⟩⟩
theorem FGo.ahead {p:Addr} {A:FA} {O O':Nat->Addr->Prop} {H H1 H2:Hp} {el:Addr} (S:vm H H1) (h:FGo p A O H1 H2 el O'):FGo p A O H H2 el O' :=
 ⟨h.he.imp id S.free,fun j c hj w=>(h.hO j c hj w).imp id S.free,fun c o e=>h.fr c o (S _ _ e),fun c o e=>h.live c o (S _ _ e)⟩
theorem FGo.kpa {K:W.Frag} {a:Ads} {p:Addr} {A:FA} {X:FX} {f:Nat->List Int->Option Slt} {O O':Nat->Addr->Prop} {m:Nat} {H H':Hp} {el:Addr} (hf:za K a H p A X f O m) (h:FGo p A O H H' el O'):KpA H H' A.el el:=fun c o e hi ne=>by
 refine ⟨?_,h.fr c o e (fun z=>by rw [z,hf.me] at e; cases e; cases hi) (fun z=>by rw [z,hf.mx.o] at e; cases e; cases hi) ne fun j hj w=>?_⟩
 ·rcases h.he with z | z
  ·rw [z]
   exact ne
  ·exact ye e z
 ·obtain ⟨o',ho',hi'⟩:=(hf.B.b j hj).own c w
  rw [e] at ho'
  cases ho'
  rw [hi] at hi'
  cases hi'
theorem yye {g:Nat->Addr} {n:Nat} (h:1 <= n):(xl g n)[0]? = some (.ref (g 0)):=by
 unfold xl
 rw [List.getElem?_map,List.getElem?_range h]
 rfl
structure ybf (H:Hp) (t:Addr) (ts:List Int) (w:Nat):Prop where
 l:H t = some (.lst (ts.map V.int))
 s:Sgs ts
 z:ts.length <= w
theorem ybf.same {H H':Hp} {t:Addr} {ts:List Int} {w:Nat} (h:ybf H t ts w) (S:vm H H'):ybf H' t ts w:=⟨S _ _ h.l,h.s,h.z⟩
def wz (tt:Nat->List Int):Nat->List Int
 | 0=>[]
 | i + 1=>wz tt i ++ dec (tt i)
theorem ywz:yn ["thing"] ["thing"] (ya yd0):=⟨rfl,rfl,rfl,by decide +kernel,rfl,by decide +kernel,by decide +kernel⟩
def yft (K:W.Frag):Sp:=fun vs H Q _=>(vs = [.non]/\∀ r H',H r = none->H' r = some (.lst [])->vm H H'->Q (.ref r) H')\/∃ (l:Addr) (n:Nat) (tx:Nat->Addr) (tt:Nat->List Int),vs = [.ref l]/\H l = some (.lst (xl tx n))/\n <= 1000/\(∀ i,i < n->ybf H (tx i) (tt i) 1000) /\
 ∀ r (cx:Nat->Addr) H',H r = none->H' r = some (.lst (xl cx n))->(∀ i,i < n->H (cx i) = none/\H' (cx i) = some (.lst ((tt i).map V.int)))->vm H H'->Q (.ref r) H'
theorem yqo (T:Txt K mg a):we P w K mg base CX0 5 a.f_q55 a.d_q55 ["thing"] (yft K):=by
 refine T.F_q55.ok ywz (fun vs H Q E h=>?_) (fun cdv A outer s H vs Q E hr h=>?_)
 ·rcases h with ⟨rfl,_⟩ | ⟨l,n,tx,tt,rfl,_⟩ <;> rfl
 ·rcases h with ⟨rfl,k⟩ | ⟨l,n,tx,tt,rfl,hl,hn,ht,k⟩
  ·refine ⟨_,(yk (wd (y7 ymw (pv 0) yah (vg _)) (yi (yv (wx yg))) ve) (yk (wd (xa (xj (yr vx rfl T.z_isinstance (by decide +kernel) (yb (pv 0) (yb (ur (T:="list") rfl T.z_list (by decide +kernel)) yg (yc rfl)) (yc rfl))))) (yi yct) ve) (yi (yv (u4 rfl (wt (pv 0)) (fun C s2 H2 fp=>(vv (yph T) (hr.mono (by decide)) rfl T.m_q6 T.F_q6.kp T.B_q6 .nil w4 (yb (pv 0) yg (yc rfl))))))))),?_⟩
   refine yo (σ':=[some _]) rfl ?_
   walk_at "rd"
   refine yt6 ?_
   walk_at "rd"
   refine ⟨by walk_at "len",fun r hr0=>?_⟩
   exact k r _ hr0 yd (vn hr0)
  ·refine ⟨_,(yk (wd (y7 ymw (pv 0) yah (vg _)) (yi (yv (wx yg))) ve) (yk (wd (xa (xj (yr vx rfl T.z_isinstance (by decide +kernel) (yb (pv 0) (yb (ur (T:="list") rfl T.z_list (by decide +kernel)) yg (yc rfl)) (yc rfl))))) (yi yct) ve) (yi (yv (u4 rfl (wt (pv 0)) (fun C s2 H2 fp=>(vv (yph T) (hr.mono (by decide)) rfl T.m_q6 T.F_q6.kp T.B_q6 .nil w4 (yb (pv 0) yg (yc rfl))))))))),?_⟩
   refine yo (σ':=[some _]) rfl ?_
   walk_at "rd"
   refine jy (fun z=>nomatch z) ?_
   walk_at "rd"
   refine jz (.lst hl) (ycw _ _) ?_
   walk_at "rd"
   refine ⟨l,rfl,⟨_,SqL.of hl⟩,fun D hD=>?_⟩
   refine uo (K:=K) (xs:=xl tx n) (fun i G=>∃ cx:Nat->Addr,G D = some (.lst (xl cx i))/\(∀ j,j < i->H (cx j) = none/\G (cx j) = some (.lst ((tt j).map V.int))/\cx j ≠ D)/\vm H G)
    ⟨fun _=>0,yd,fun j hj=>absurd hj (Nat.not_lt_zero j),vn hD⟩ (fun i G _ ⟨_,_,_,S⟩=>SqL.of (S _ _ hl)) (fun i y G hy hi z=>?_) (fun G z=>?_)
   ·obtain ⟨cx,gD,gC,S⟩:=z
    obtain ⟨rfl,hin⟩:=zv hy
    have hti:=(ht i hin).same S
    walk_at "rd"
    refine ⟨.ref (tx i),_,rfl,.lst hti.l,.inr ⟨(tt i).map V.int,ycs hti.l hti.s hti.z,fun c G2 hc0 hc2 S2=>?_⟩⟩
    have nc:c ≠ D:=(ye gD hc0).symm
    refine xu (n:=(xl tx n).length) (S2 _ _ gD) (v7 (by rw [wj]; omega)) hi ?_
    refine ⟨upN cx i c,?_,fun j hj=>?_,fun b o e=>yp (ye e hD) (S2 _ _ (S b o e))⟩
    ·rw [yd,zh,wv]
     congr 3
     exact ul fun j hj=>(wq hj).symm
    ·by_cases z:j = i
     ·rw [z,wv]
      exact ⟨S.free hc0,yp nc hc2,nc⟩
     ·have hji:j < i:=by omega
      rw [wq hji]
      obtain ⟨g1,g2,g3⟩:=gC j hji
      exact ⟨g1,yp g3 (S2 _ _ g2),g3⟩
   ·obtain ⟨cx,gD,gC,S⟩:=z
    rw [wj] at gD gC
    exact k D cx G hD gD (fun i hi=>⟨(gC i hi).1,(gC i hi).2.1⟩) S
def fa0 (n:Nat) (ps:Nat->List Int):FA:={ dp:=0,ll:=0,bl:=0,mp:=0,mx:=0,ml:=0,el:=0,pl:=0,n:=n,bk:=fun _=>0,dx:=fun _=>0,lk:=fun _=>0,dd:=fun _=>0,sl:=fun _=>0,kd:=fun _=>0,ps:=ps }
theorem yc4 (A:FA):∀ (bs:List Int) (X:FX),X.run A bs = X.run (fa0 A.n A.ps) bs
 | [],_=>rfl
 | b :: r,X=>yc4 A r (X.see A b)
def fX (n:Nat) (kd:Nat->Fin 3) (ps:Nat->List Int) (pre:List Int) (ts:List Int) (k:Nat):FX:=((FX0 n kd).run (fa0 n ps) pre).run (fa0 n ps) ((dec ts).take k)
def xr (n:Nat) (kd:Nat->Fin 3) (ps:Nat->List Int) (pre:List Int) (ts:List Int) (k:Nat):Int:=yrw (fX n kd ps pre ts k).ws ((fX n kd ps pre ts k).cs (fa0 n ps))
def vh (ts:List Int) (k:Nat):Int:=((dec ts)[k]?).getD 0
theorem ypd (ts:List Int) (k:Nat) (h:k < (dec ts).length):0 <= vh ts k/\vh ts k <= 1:=by
 unfold vh
 rw [List.getElem?_eq_getElem h]
 exact zx ts _ (List.getElem_mem h)
def ynq (H:Hp) (lx:V) (N w:Nat) (lt:Nat->Addr) (tt:Nat->List Int):Prop:=((lx = .non/\N = 0)\/∃ ll,lx = .ref ll/\H ll = some (.lst (xl lt N)))/\∀ i,i < N->ybf H (lt i) (tt i) w
theorem ynq.same {H H':Hp} {lx:V} {N w:Nat} {lt:Nat->Addr} {tt:Nat->List Int} (h:ynq H lx N w lt tt) (S:vm H H'):ynq H' lx N w lt tt :=
 ⟨h.1.imp id fun ⟨ll,e,z⟩=>⟨ll,e,S _ _ z⟩,fun i hi=>(h.2 i hi).same S⟩
structure vbq (H:Hp) (L tx:Addr) (lx:V) (n:Nat) (lk:Nat->Addr) (kd:Nat->Fin 3) (tp:Nat->Addr) (ps:Nat->List Int) (ts:List Int) (N w:Nat) (lt:Nat->Addr) (tt:Nat->List Int):Prop where
 l:H L = some (.lst (xl lk n))
 n1:1 <= n
 n6:n <= 6
 r:ybg H n lk kd tp ps
 t:ybf H tx ts 1000
 lr:ynq H lx N w lt tt
 w1:w <= 1000
 N1:N <= 1000
 b:6 + 6 * (N * (9 * w + 1)) + 6 * (9 * ts.length + 1) + 20 < 1000000
theorem yfu {K:W.Frag} {H:Hp} {lx:V} {N w:Nat} {lt:Nat->Addr} {tt:Nat->List Int} {Q:VK} {E:XK} (h:ynq H lx N w lt tt) (hw:w <= 1000) (hN:N <= 1000)
  (k:∀ r (cx:Nat->Addr) H',H r = none->H' r = some (.lst (xl cx N))->(∀ i,i < N->H (cx i) = none/\H' (cx i) = some (.lst ((tt i).map V.int)))->vm H H'->Q (.ref r) H'):yft K [lx] H Q E:=by
 obtain ⟨⟨rfl,rfl⟩ | ⟨ll,rfl,hl⟩,ht⟩:=h
 ·exact .inl ⟨rfl,fun r H' h0 h1 S=>k r (fun _=>0) H' h0 h1 (fun i hi=>absurd hi (Nat.not_lt_zero i)) S⟩
 ·exact .inr ⟨ll,N,lt,tt,rfl,hl,hN,fun i hi=>⟨(ht i hi).l,(ht i hi).s,Nat.le_trans (ht i hi).z hw⟩,k⟩
structure vcg (H H':Hp) (r:Addr) (m:Nat) (tu cl:Nat->Addr) (mx:Nat->Int) (cs:Nat->List Int) (bt:Nat->Int):Prop where
 r0:H r = none
 r:H' r = some (.lst (xl tu m))
 t:∀ j,j < m->H' (tu j) = some (.tup [.int (mx j),.ref (cl j),.int (bt j)])
 c:∀ j,j < m->H (cl j) = none/\H' (cl j) = some (.lst ((cs j).map V.int))
structure XOk (n:Nat) (X:FX):Prop where
 w:WOk n X.ws
 s:∀ i k,(X.g i k).ok
theorem XOk.cs {n:Nat} {X:FX} (h:XOk n X) (ps:Nat->List Int):COk n (X.cs (fa0 n ps)):=by
 refine ⟨by unfold FX.cs; rw [List.length_map,List.length_range]; rfl,fun c hc=>?_,fun c hc=>?_⟩
 ·obtain ⟨j,_,rfl⟩:=List.mem_map.mp hc
  exact (yi5 (h.s _ _)).1
 ·obtain ⟨j,_,rfl⟩:=List.mem_map.mp hc
  exact (yi5 (h.s _ _)).2
theorem XOk.see {n:Nat} {X:FX} (h:XOk n X) (n1:1 <= n) (n6:n <= 6) (ps:Nat->List Int) {b:Int} (b0:0 <= b) (b1:b <= 1):XOk n (X.see (fa0 n ps) b):=by
 refine ⟨yra n1 n6 h.w (h.cs ps),fun i k=>?_⟩
 show (if k = X.key (fa0 n ps) i then (X.g i k).see b else X.g i k).ok
 split
 ·exact Slt.see_ok (h.s i k) b0 b1
 ·exact h.s i k
theorem XOk.run {n:Nat} (n1:1 <= n) (n6:n <= 6) (ps:Nat->List Int):∀ (bs:List Int) {X:FX},XOk n X->yjd bs->XOk n (X.run (fa0 n ps) bs)
 | [],_,h,_=>h
 | b :: r,_,h,hb=>XOk.run n1 n6 ps r (h.see n1 n6 ps (hb b (by simp)).1 (hb b (by simp)).2) fun c hc=>hb c (by simp [hc])
theorem XOk.zero {n:Nat} (n1:1 <= n) (n6:n <= 6) (kd:Nat->Fin 3):XOk n (FX0 n kd):=⟨yyn n n1 n6,fun i _=>yq7 (kd i)⟩
theorem yfv (tt:Nat->List Int):∀ N,yjd (wz tt N)
 | 0=>fun _ z=>nomatch z
 | N + 1=>yii (yfv tt N) (zx _)
theorem ylg {bs:List Int} (h:yjd bs) (k:Nat):yjd (bs.take k):=fun b hb=>h b (List.mem_of_mem_take hb)
theorem yyu {n:Nat} (n1:1 <= n) (n6:n <= 6) {kd:Nat->Fin 3} {ps:Nat->List Int} {pre ts:List Int} (hp:yjd pre) (k:Nat):XOk n (fX n kd ps pre ts k):=by
 unfold fX
 exact ((XOk.zero n1 n6 kd).run n1 n6 ps pre hp).run n1 n6 ps _ (ylg (zx ts) k)
theorem ycz {n:Nat} (n1:1 <= n) (n6:n <= 6) {kd:Nat->Fin 3} {ps:Nat->List Int} {pre ts:List Int} (hp:yjd pre) (k:Nat):Ch (xr n kd ps pre ts k):=ym2 n1 (yyu (kd:=kd) (ps:=ps) (ts:=ts) n1 n6 hp k).w ((yyu (kd:=kd) (ps:=ps) (ts:=ts) n1 n6 hp k).cs ps)
theorem ym6:yn ["foreteller","texts","text","bit"] ["foreteller","texts"] (ya yc7):=⟨rfl,rfl,rfl,by decide +kernel,rfl,by decide +kernel,by decide +kernel⟩
def yox (K:W.Frag) (a:Ads):Sp:=fun vs H Q _=>∃ (p:Addr) (A:FA) (X:FX) (f:Nat->List Int->Option Slt) (O:Nat->Addr->Prop) (m:Nat) (tl:Addr) (n w:Nat) (tx:Nat->Addr) (tt:Nat->List Int),vs = [.ref p,.ref tl]/\za K a H p A X f O m/\X.sg = []/\X.nd = 0/\H tl = some (.lst (xl tx n))/\tl ≠ A.el/\(∀ i,i < n->ybf H (tx i) (tt i) w/\tx i ≠ A.el)/\w <= 1000/\m + 6 * (n * (9 * w + 1)) + 20 < 1000000 /\
 ∀ (ml el pl:Addr) (sl:Nat->Addr) (f':Nat->List Int->Option Slt) (O':Nat->Addr->Prop) (m':Nat) (H':Hp),za K a H' p (A.re ml el pl sl) (X.run A (wz tt n)) f' O' m'->m' <= m + 6 * (n * (9 * w + 1))->FGo p A O H H' el O'->(X.run A (wz tt n)).sg = []->(X.run A (wz tt n)).nd = 0->Q .non H'
theorem yqu (T:Txt K mg a):we P w K mg base CX0 7 a.f_q56 a.d_q56 ["foreteller","texts"] (yox K a):=by
 refine T.F_q56.ok ym6 (fun vs H Q E h=>?_) (fun cdv A outer s H vs Q E hr h=>?_)
 ·obtain ⟨p,A,X,f,O,m,tl,n,w,tx,tt,rfl,_⟩:=h
  rfl
 ·obtain ⟨p,A0,X,f,O,m,tl,n,w,tx,tt,rfl,hF,hsg,hnd,htl,ntl,htx,hw,hm,k⟩:=h
  refine ⟨_,(yi (z8 PassesOwn.never rfl (wt (pv 1)) (w6 (i:=2) ym6.nd rfl (Or.inl rfl)) (yi (z8 PassesOwn.never rfl (wt (yz (yp6 T) (hr.mono (by decide)) rfl T.m_q13 T.F_q13.kp T.B_q13 .nil vf (yb (pv 2) yg (yc rfl)))) (w6 (i:=3) ym6.nd rfl (Or.inl rfl)) (yi (vj (x9 (pv 0) T.cl_Ft T.M_q40 (ym8 T) (hr.mono (by decide)) T.B_q40 .nil vf (yb (pv 3) yg (yc rfl))))))))),?_⟩
  try dsimp only [wc]
  refine yo (σ':=[some _,some _,none,none]) rfl ?_
  walk_at "rd"
  refine ⟨tl,rfl,⟨_,SqL.of htl⟩,zu (K:=K) (a:=tl) (xs:=xl tx n) (fun i σ2 G=>∃ (v1 v2:Option V) (ml el pl:Addr) (sl:Nat->Addr) (f':Nat->List Int->Option Slt) (O':Nat->Addr->Prop) (m':Nat),σ2 = [some (.ref p),some (.ref tl),v1,v2]/\za K a G p (A0.re ml el pl sl) (X.run A0 (wz tt i)) f' O' m'/\m' <= m + 6 * (i * (9 * w + 1))/\FGo p A0 O H G el O'/\(X.run A0 (wz tt i)).sg = []/\(X.run A0 (wz tt i)).nd = 0)
   ⟨_,_,A0.ml,A0.el,A0.pl,A0.sl,f,O,m,rfl,hF,Nat.le_add_right _ _,FGo.refl,hsg,hnd⟩ (fun i σ2 G _ ⟨_,_,_,_,_,_,_,_,_,_,_,_,go,_,_⟩=>SqL.of ((go.kpa hF).lst htl ntl)) ?_ ?_⟩
  ·rintro i y σ2 G hy ⟨v1,v2,ml,el,pl,sl,f1,O1,m1,rfl,hF1,hm1,go1,hsg1,hnd1⟩
   obtain ⟨rfl,hin⟩:=zv hy
   obtain ⟨hti,nti⟩:=htx i hin
   have htiG:=(go1.kpa hF).lst hti.l nti
   have hts:=hti.s
   have hz:=hti.z
   have hbound:i * (9 * w + 1) + (9 * w + 1) <= n * (9 * w + 1):=by
    have:(i + 1) * (9 * w + 1) <= n * (9 * w + 1):=Nat.mul_le_mul_right _ hin
    rw [Nat.add_mul,Nat.one_mul] at this
    exact this
   have hdl:=u0 (tt i)
   walk_at "rd"
   refine ⟨tx i,tt i,rfl,htiG,hts,by omega,fun bt G1 hbt0 hbt1 S1=>?_⟩
   have hF1':=hF1.same S1
   have nbt:bt ≠ el:=(ye hF1.el hbt0).symm
   refine ⟨bt,rfl,⟨_,SqL.of hbt1⟩,zu (K:=K) (a:=bt) (xs:=(dec (tt i)).map V.int) (fun j σ2 G'=>∃ (v2:Option V) (ml' el' pl':Addr) (sl':Nat->Addr) (f':Nat->List Int->Option Slt) (O':Nat->Addr->Prop),σ2 = [some (.ref p),some (.ref tl),some (.ref (tx i)),v2]/\za K a G' p (A0.re ml' el' pl' sl') ((X.run A0 (wz tt i)).run A0 ((dec (tt i)).take j)) f' O' (m1 + 6 * j)/\FGo p (A0.re ml el pl sl) O1 G1 G' el' O'/\TxE (tt i) j ((X.run A0 (wz tt i)).run A0 ((dec (tt i)).take j)).sg ((X.run A0 (wz tt i)).run A0 ((dec (tt i)).take j)).nd)
    ⟨_,ml,el,pl,sl,f1,O1,rfl,hF1',FGo.refl,.inl ⟨Nat.zero_le _,by show yhv _ _ (X.run A0 (wz tt i)).sg (X.run A0 (wz tt i)).nd; rw [hsg1,hnd1]; exact yhv.zero _⟩⟩ (fun j σ2 G' _ ⟨_,_,_,_,_,_,_,_,_,go,_⟩=>SqL.of ((go.kpa hF1').lst hbt1 nbt)) ?_ ?_⟩
   ·rintro j y σ3 G' hy ⟨v2,ml2,el2,pl2,sl2,f2,O2,rfl,hF2,go2,hT⟩
    obtain ⟨b,rfl,hbm,hb,hj⟩:=uq hy
    obtain ⟨b0,b1⟩:=zx _ b hbm
    obtain ⟨hTx,hTn⟩:=hT.next hts hb
    obtain ⟨nd0,nd1⟩:=hTx.nd hts
    have hsl:=hTx.len
    have hp2:=hF2.me
    walk_at "rd"
    refine ⟨p,A0.re ml2 el2 pl2 sl2,_,f2,O2,m1 + 6 * j,b,rfl,hF2,b0,b1,by omega,nd0,by omega,fun ml3 el3 pl3 sl3 f3 O3 G3 he3 hF3 hO3 fr3 lv3 _=>?_⟩
    walk_at "rd"
    have n6:=hF2.n6
    refine ⟨_,ml3,el3,pl3,sl3,f3,O3,rfl,?_,go2.trans ⟨he3,hO3,fr3,lv3⟩,?_⟩
    ·rw [zz hb]
     exact hF3.up (by show m1 + 6 * j + A0.n <= _; have:A0.n <= 6:=n6; omega)
    ·rw [zz hb]
     exact hTn
   ·rintro σ3 G' ⟨v2,ml2,el2,pl2,sl2,f2,O2,rfl,hF2,go2,hT⟩
    rw [List.length_map] at hF2 hT
    rw [List.take_length] at hF2 hT
    have er:X.run A0 (wz tt (i + 1)) = (X.run A0 (wz tt i)).run A0 (dec (tt i)):=yho A0 _ _ X
    rw [<- er] at hF2 hT
    have hend:(X.run A0 (wz tt (i + 1))).sg = []/\(X.run A0 (wz tt (i + 1))).nd = 0:=by
     rcases hT with ⟨h,_⟩ | ⟨_,h⟩
     ·omega
     ·exact h
    walk_at "rd"
    exact ⟨_,_,ml2,el2,pl2,sl2,f2,O2,_,rfl,hF2,by rw [Nat.add_mul,Nat.one_mul]; omega,go1.trans (FGo.ahead S1 go2),hend.1,hend.2⟩
  ·rintro σ2 G ⟨v1,v2,ml,el,pl,sl,f1,O1,m1,rfl,hF1,hm1,go1,hsg1,hnd1⟩
   rw [wj] at hF1 hm1 hsg1 hnd1
   walk_at "rd"
   exact k ml el pl sl f1 O1 m1 G hF1 hm1 go1 hsg1 hnd1
def snK (mx bt:Nat->Int):Nat->Sn
 | 0=>s0
 | k + 1=>nar (snK mx bt k) (mx k) (bt k)
theorem z9 {mx bt:Nat->Int}:∀ m,(∀ j,j < m->Ch (mx j))->OkS (snK mx bt m)/\(snK mx bt m).2.2 <= 5 + 2 * (m:Int)
 | 0,_=>⟨vav,by show (5:Int) <= 5 + 2 * ((0:Nat):Int); decide⟩
 | m + 1,h=>by
  obtain ⟨h1,h2⟩:=z9 m fun j hj=>h j (by omega)
  refine ⟨yhm h1 (h m (by omega)),?_⟩
  have:=yxt (c:=mx m) (b:=bt m) h1.ok
  show (nar (snK mx bt m) (mx m) (bt m)).2.2 <= _
  omega
theorem yfy {mx my bt bu:Nat->Int}:∀ m,(∀ j,j < m->mx j = my j/\bt j = bu j)->snK mx bt m = snK my bu m
 | 0,_=>rfl
 | m + 1,h=>by
  show nar (snK mx bt m) (mx m) (bt m) = nar (snK my bu m) (my m) (bu m)
  rw [yfy m fun j hj=>h j (by omega),(h m (by omega)).1,(h m (by omega)).2]
theorem FGo.but {p q:Addr} {A:FA} {O O':Nat->Addr->Prop} {H H1 H2:Hp} {el:Addr} {o':HO} (h:FGo p A O H H1 el O') (hq:H q = none) (B:But q H1 H2) (hq2:H2 q = some o'):FGo p A O H H2 el O' :=
 ⟨h.he,h.hO,fun c o e c1 c2 c3 no=>B _ _ (h.fr c o e c1 c2 c3 no) (ye e hq),fun c o e=>let ⟨o1,w⟩:=h.live c o e; ⟨o1,B _ _ w (ye e hq)⟩⟩
theorem za.but {K:W.Frag} {a:Ads} {H H':Hp} {p q C dq:Addr} {A:FA} {X:FX} {f:Nat->List Int->Option Slt} {O:Nat->Addr->Prop} {m:Nat} {fs:List (Str × V)} (h:za K a H p A X f O m) (hq:H q = some (.ins C dq fs)) (hl:fs.length = 3) (nO:∀ i,i < A.n->¬ O i q) (B:But q H H'):za K a H' p A X f O m:=by
 refine h.frame (O2:=fun c=>c = q) (fun c o e ne=>B c o e ne) (fun z=>ua h.me hq (by rw [hl]; show ¬ (6 = 3); decide) z) (fun z=>ua h.mx.o hq (by rw [hl]; show ¬ (1 = 3); decide) z) (fun i hi z=>ua (h.B.b i hi).me hq (by rw [hl]; show ¬ (2 = 3); decide) z) (fun i c hi w z=>nO i hi (z ▸ w)) (fun l xs _ e=>B.lst hq e) (fun t xs e=>?_)
 rcases e with (e | ⟨o,e⟩) | e
 ·exact .inl (.inl (B _ _ e (fun z=>by rw [z,hq] at e; cases e)))
 ·exact .inl (.inr ⟨o,B _ _ e (fun z=>by rw [z,hq] at e; cases e)⟩)
 ·exact .inr e
theorem yrs (A:FA) (ml el pl:Addr) (sl:Nat->Addr):∀ (bs:List Int) (X:FX),X.run (A.re ml el pl sl) bs = X.run A bs
 | [],_=>rfl
 | b :: r,X=>yrs A ml el pl sl r (X.see A b)
def yki (A:FA) (X:FX) (ts:List Int) (k:Nat):Int:=yrw (X.run A ((dec ts).take k)).ws ((X.run A ((dec ts).take k)).cs A)
theorem ynf:yn ["foreteller","text","span","bit"] ["foreteller","text"] (ya yer):=⟨rfl,rfl,rfl,by decide +kernel,rfl,by decide +kernel,by decide +kernel⟩
def yot (K:W.Frag) (a:Ads):Sp:=fun vs H Q _=>∃ (p:Addr) (A:FA) (X:FX) (f:Nat->List Int->Option Slt) (O:Nat->Addr->Prop) (m:Nat) (tx:Addr) (ts:List Int),vs = [.ref p,.ref tx]/\za K a H p A X f O m/\X.sg = []/\X.nd = 0/\ybf H tx ts 1000/\tx ≠ A.el/\m + 6 * (dec ts).length + 20 < 1000000 /\
 ∀ (r ml el pl:Addr) (sl:Nat->Addr) (f':Nat->List Int->Option Slt) (O':Nat->Addr->Prop) (m':Nat) (H':Hp),H r = none->H' r = some (.lst ((tL (snK (yki A X ts) (vh ts) (dec ts).length)).map V.int))->za K a H' p (A.re ml el pl sl) (X.run A (dec ts)) f' O' m'->m' <= m + 6 * (dec ts).length->FGo p A O H H' el O'->Q (.ref r) H'
theorem yyf (T:Txt K mg a):we P w K mg base CX0 7 a.f_q57 a.d_q57 ["foreteller","text"] (yot K a):=by
 refine T.F_q57.ok ynf (fun vs H Q E h=>?_) (fun cdv A outer s H vs Q E hr h=>?_)
 ·obtain ⟨p,A,X,f,O,m,tx,ts,rfl,_⟩:=h
  rfl
 ·obtain ⟨p,A0,X,f,O,m,tx,ts,rfl,hF,hsg,hnd,htx,ntx,hm,k⟩:=h
  have hdl:=u0 ts
  have hz:=htx.z
  have hts:=htx.s
  refine yq (vd (i:=2) ynf.nd rfl (Or.inl rfl) (jv T.k_Span (yro T) (hr.mono (by decide)) rfl T.m_Span T.B_q45 .nil vf)) ?_
  refine yq (z8 PassesOwn.never rfl (wt (yz (yp6 T) (hr.mono (by decide)) rfl T.m_q13 T.F_q13.kp T.B_q13 .nil vf (yb (pv 1) yg (yc rfl)))) (w6 (i:=3) ynf.nd rfl (Or.inl rfl)) (yk (vj (ux (pv 2) T.cl_Span T.M_q47 (yrj T) (hr.mono (by decide)) T.B_q47 .nil w4 (yb (wu (pv 0) T.cl_Ft T.M_q39 (yrg T) (hr.mono (by decide)) T.B_q39 .nil vf) (yb (pv 3) yg (yc rfl)) (yc rfl)))) (yi (vj (x9 (pv 0) T.cl_Ft T.M_q40 (ym8 T) (hr.mono (by decide)) T.B_q40 .nil vf (yb (pv 3) yg (yc rfl))))))) ?_
  refine ⟨_,(yi (yv (wu (pv 2) T.cl_Span T.M_q49 (yrc T) (hr.mono (by decide)) T.B_q49 .nil vf))),?_⟩
  try dsimp only [wc]
  refine yo (σ':=[some _,some _,none,none]) rfl ?_
  walk_at "rd"
  intro q dq nq ndq neq
  have SQ:vm H (upd (upd H dq (.own q)) q (.ins a.C_Span dq [])):=fun b o e=>by rw [yu (ye e nq),yu (ye e ndq)]; exact e
  refine ⟨q,dq,rfl,yd,fun H1 hq1 B1=>⟨rfl,?_⟩⟩
  have S1:vm H H1:=fun b o e=>B1 b o (SQ b o e) (ye e nq)
  walk_at "rd"
  refine ⟨tx,ts,rfl,S1 _ _ htx.l,hts,by omega,fun bt H2 hbt0 hbt2 S2=>?_⟩
  have S12:=S1.trans S2
  have hF2:=hF.same S12
  have nbt:bt ≠ A0.el:=(ye (hF.same S1).el hbt0).symm
  have nOq:∀ i,i < A0.n->¬ O i q:=fun i hi w=>by
   obtain ⟨o,ho,_⟩:=(hF.B.b i hi).own q w
   rw [nq] at ho
   cases ho
  refine ⟨bt,rfl,⟨_,SqL.of hbt2⟩,zu (K:=K) (a:=bt) (xs:=(dec ts).map V.int) (fun j σ2 G=>∃ (v:Option V) (ml el pl:Addr) (sl:Nat->Addr) (f':Nat->List Int->Option Slt) (O':Nat->Addr->Prop),σ2 = [some (.ref p),some (.ref tx),some (.ref q),v]/\za K a G p (A0.re ml el pl sl) (X.run A0 ((dec ts).take j)) f' O' (m + 6 * j)/\FGo p A0 O H G el O'/\TxE ts j (X.run A0 ((dec ts).take j)).sg (X.run A0 ((dec ts).take j)).nd/\G q = some (.ins a.C_Span dq (zr (snK (yki A0 X ts) (vh ts) j)))/\(∀ i,i < A0.n->¬ O' i q)/\(G bt = some (.lst ((dec ts).map V.int))/\bt ≠ el)/\(∀ i,i < j->Ch (yki A0 X ts i)))
   ⟨_,A0.ml,A0.el,A0.pl,A0.sl,f,O,rfl,hF2,FGo.refl.same S12,.inl ⟨Nat.zero_le _,by show yhv _ _ X.sg X.nd; rw [hsg,hnd]; exact yhv.zero _⟩,S2 _ _ hq1,nOq,⟨hbt2,nbt⟩,fun i hi=>absurd hi (Nat.not_lt_zero i)⟩ (fun j σ2 G _ ⟨_,_,_,_,_,_,_,_,_,_,_,_,_,z,_⟩=>SqL.of z.1) ?_ ?_⟩
  ·rintro j y σ2 G hy ⟨v,ml1,el1,pl1,sl1,f1,O1,rfl,hF1,go,hT,hqG,nO1,⟨hbtG,nbt1⟩,hch⟩
   obtain ⟨b,rfl,hbm,hb,hj⟩:=uq hy
   obtain ⟨b0,b1⟩:=zx _ b hbm
   obtain ⟨hTx,hTn⟩:=hT.next hts hb
   obtain ⟨nd0,nd1⟩:=hTx.nd hts
   have hsl:=hTx.len
   have hbt':vh ts j = b:=by unfold vh; rw [hb]; rfl
   have hpG:=hF1.me
   have hcm:Ch (yki A0 X ts j):=ym2 hF1.n1 hF1.wok hF1.cok
   have hcu:=yiw hcm
   have hbu:=yhn b0 b1
   obtain ⟨sk1,sk2⟩:=z9 (mx:=yki A0 X ts) (bt:=vh ts) j hch
   walk_at "rd"
   refine ⟨q,dq,_,rfl,hqG,lkN _ (by decide +kernel) (by decide +kernel) (by decide +kernel),?_⟩
   walk_at "rd"
   refine ⟨p,A0.re ml1 el1 pl1 sl1,_,f1,O1,_,rfl,hF1,fun G1 T1=>?_⟩
   walk_at "rd"
   refine ⟨q,dq,_,.int (yki A0 X ts j),.int b,_,_,rfl,T1 _ _ hqG,sk1.ok,.int _,.int _,fun z=>(by rw [hcu] at z; cases z),fun _ z=>(by rw [hbu] at z; cases z),fun c' b' ec eb _ _ _ G2 hq2 B2=>?_⟩
   cases ec
   cases eb
   have hF2':=(hF1.same T1).but (T1 _ _ hqG) rfl nO1 B2
   have go2:FGo p A0 O H G2 el1 O1:=(go.same T1).but nq B2 hq2
   have hbt2':G2 bt = some (.lst ((dec ts).map V.int)):=B2.lst (T1 _ _ hqG) (T1 _ _ hbtG)
   have hp2:=hF2'.me
   have n6:=hF1.n6
   walk_at "rd"
   refine ⟨p,A0.re ml1 el1 pl1 sl1,_,f1,O1,m + 6 * j,b,rfl,hF2',b0,b1,by omega,nd0,by omega,fun ml3 el3 pl3 sl3 f3 O3 G3 he3 hF3 hO3 fr3 lv3 _=>?_⟩
   have go3:FGo p (A0.re ml1 el1 pl1 sl1) O1 G2 G3 el3 O3:=⟨he3,hO3,fr3,lv3⟩
   have kp3:=go3.kpa hF2'
   walk_at "rd"
   refine ⟨_,ml3,el3,pl3,sl3,f3,O3,rfl,?_,go2.trans go3,?_,?_,fun i hi w=>?_,⟨(kp3 _ _ hbt2' rfl nbt1).2,(kp3 _ _ hbt2' rfl nbt1).1⟩,fun i hi=>?_⟩
   ·rw [zz hb]
    exact hF3.up (by show m + 6 * j + A0.n <= _; have:A0.n <= 6:=n6; omega)
   ·rw [zz hb]
    exact hTn
   ·have e:snK (yki A0 X ts) (vh ts) (j + 1) = nar (snK (yki A0 X ts) (vh ts) j) (yki A0 X ts j) b:=by show nar _ _ (vh ts j) = _; rw [hbt']
    rw [e]
    exact fr3 _ _ hq2 (ua hq2 hF2'.me (show ¬ (3 = 6) by decide)) (ua hq2 hF2'.mx.o (show ¬ (3 = 1) by decide)) (fun z=>by have e:=hF2'.el; rw [<- z,hq2] at e; cases e) nO1
   ·rcases hO3 i q hi w with v | v
    ·exact nO1 i hi v
    ·rw [hq2] at v
     cases v
   ·by_cases z:i = j
    ·rw [z]
     exact hcm
    ·exact hch i (by omega)
  ·rintro σ2 G ⟨v,ml1,el1,pl1,sl1,f1,O1,rfl,hF1,go,hT,hqG,nO1,_,hch⟩
   rw [List.length_map] at hF1 hqG hch
   rw [List.take_length] at hF1
   obtain ⟨sk1,sk2⟩:=z9 (mx:=yki A0 X ts) (bt:=vh ts) (dec ts).length hch
   walk_at "rd"
   refine ⟨q,dq,_,rfl,hqG,lkN _ (by decide +kernel) (by decide +kernel) (by decide +kernel),?_⟩
   walk_at "rd"
   refine ⟨q,dq,_,rfl,hqG,sk1,by show Int.toNat _ <= 100000; omega,fun r G1 hr0 hr1 T1=>?_⟩
   exact k r ml1 el1 pl1 sl1 f1 O1 _ G1 (go.free hr0) hr1 (hF1.same T1) (Nat.le_refl _) (go.same T1)
theorem yna:yn ["looks","text","learned","foreteller","signs"] ["looks","text","learned"] (ya yc9):=⟨rfl,rfl,rfl,by decide +kernel,rfl,by decide +kernel,by decide +kernel⟩
def yjp (K:W.Frag):Sp:=fun vs H Q _=>∃ (L tx:Addr) (lx:V) (n:Nat) (lk:Nat->Addr) (kd:Nat->Fin 3) (tp:Nat->Addr) (ps:Nat->List Int) (ts:List Int) (N w:Nat) (lt:Nat->Addr) (tt:Nat->List Int),vs = [.ref L,.ref tx,lx]/\vbq H L tx lx n lk kd tp ps ts N w lt tt/\ts.length <= 1000 /\
 ∀ r H',H r = none->H' r = some (.lst ((tL (snK (xr n kd ps (wz tt N) ts) (vh ts) (dec ts).length)).map V.int))->vm H H'->Q (.ref r) H'
theorem yne (T:Txt K mg a):we P w K mg base CX0 8 a.f_q58 a.d_q58 ["looks","text","learned"] (yjp K):=by
 refine T.F_q58.ok yna (fun vs H Q E h=>?_) (fun cdv A outer s H vs Q E hr h=>?_)
 ·obtain ⟨L,tx,lx,n,lk,kd,tp,ps,ts,N,w,lt,tt,rfl,_⟩:=h
  rfl
 ·obtain ⟨L,tx,lx,n,lk,kd,tp,ps,ts,N,w,lt,tt,rfl,hTl,hz50,k⟩:=h
  have hb1:=hTl.b
  have n1:=hTl.n1
  have n6:=hTl.n6
  have hdl:=u0 ts
  refine yq (vd (i:=3) yna.nd rfl (Or.inl rfl) (ycq T.k_Ft (yp5 T) (hr.mono (by decide)) rfl T.m_Ft T.B_q36 .nil w4 (yb (pv 0) yg (yc rfl)))) ?_
  refine yq (vd (i:=4) yna.nd rfl (Or.inl rfl) (vv (yph T) (hr.mono (by decide)) rfl T.m_q6 T.F_q6.kp T.B_q6 .nil w4 (yb (pv 1) yg (yc rfl)))) ?_
  refine yq (vj (yz (yqu T) (hr.mono (by decide)) rfl T.m_q56 T.F_q56.kp T.B_q56 .nil vf (yb (pv 3) (yb (yz (yqo T) (hr.mono (by decide)) rfl T.m_q55 T.F_q55.kp T.B_q55 .nil vf (yb (pv 2) yg (yc rfl))) yg (yc rfl)) (yc rfl)))) ?_
  refine ⟨_,(yi (yv (yz (yyf T) (hr.mono (by decide)) rfl T.m_q57 T.F_q57.kp T.B_q57 .nil vf (yb (pv 3) (yb (pv 4) yg (yc rfl)) (yc rfl))))),?_⟩
  try dsimp only [wc]
  refine yo (σ':=[some _,some _,some _,none,none]) rfl ?_
  walk_at "rd"
  intro p dp np ndp nep
  have S0:vm H (upd (upd H dp (.own p)) p (.ins a.C_Ft dp [])):=fun b o e=>by rw [yu (ye e np),yu (ye e ndp)]; exact e
  refine ⟨p,dp,.ref L,rfl,yd,.inr ⟨L,n,lk,kd,tp,ps,rfl,S0 _ _ hTl.l,n1,n6,hTl.r.same S0,fun A f O H1 N1 B1=>⟨rfl,?_⟩⟩⟩
  obtain ⟨hft,rfl,rfl,rfl,rfl,oO,oB,oM,oL⟩:=N1
  have S1:vm H H1:=fun b o e=>B1 b o (S0 b o e) (ye e np)
  have fresh:∀ {c:Addr},upd (upd H dp (.own p)) p (.ins a.C_Ft dp []) c = none->H c = none:=fun h=>S0.free h
  have hel0:H A.el = none:=fresh (oL A.el (.inr (.inl rfl)))
  walk_at "rd"
  refine ⟨.ref tx,_,rfl,.lst (S1 _ _ hTl.t.l),.inr ⟨ts.map V.int,ycs (S1 _ _ hTl.t.l) hTl.t.s hTl.t.z,fun sg H2 hsg0 hsg2 S2=>?_⟩⟩
  have S12:=S1.trans S2
  have hft2:=hft.same S2
  have nsg:sg ≠ A.el:=(ye hft.el hsg0).symm
  walk_at "rd"
  refine yfu (hTl.lr.same S12) hTl.w1 hTl.N1 fun cl0 cx H3 h0 h3 hx S3=>?_
  walk_at "rd"
  refine ⟨p,A,FX0 A.n A.kd,f,O,6,cl0,N,w,cx,tt,rfl,hft2.same S3,rfl,rfl,h3,(ye hft2.el h0).symm,fun i hi=>⟨⟨(hx i hi).2,(hTl.lr.2 i hi).s,(hTl.lr.2 i hi).z⟩,(ye hft2.el (hx i hi).1).symm⟩,hTl.w1,by omega,fun ml el pl sl f1 O1 m1 H4 hF4 hm4 go4 sg4 nd4=>?_⟩
  have go4:=FGo.ahead S3 go4
  have kp4:=go4.kpa hft2
  have hsg4:=kp4 _ _ hsg2 rfl nsg
  have eX:∀ i,yki (A.re ml el pl sl) ((FX0 A.n A.kd).run A (wz tt N)) ts i = xr A.n A.kd A.ps (wz tt N) ts i:=fun i=>by
   unfold xr yki fX
   rw [yrs,<- yc4 A,<- yc4 A]
   rfl
  generalize hX:(FX0 A.n A.kd).run A (wz tt N) = XX at hF4 sg4 nd4 eX
  walk_at "rd"
  refine ⟨p,A.re ml el pl sl,XX,f1,O1,m1,sg,ts,rfl,hF4,sg4,nd4,⟨hsg4.2,hTl.t.s,hz50⟩,hsg4.1,by omega,fun r ml2 el2 pl2 sl2 f2 O2 m2 H5 hr0 hr5 hF5 hm5 go5=>?_⟩
  have go:=go4.trans go5
  rw [yfy _ fun j _=>⟨eX j,rfl⟩] at hr5
  refine k r H5 (S12.free (go4.free hr0)) hr5 fun c o e=>go.fr c o (S12 _ _ e) (fun z=>?_) (fun z=>?_) (fun z=>?_) (fun i hi w'=>?_)
  ·rw [z,np] at e
   cases e
  ·rw [z,fresh oM] at e
   cases e
  ·rw [z,hel0] at e
   cases e
  ·rw [fresh (oO i c hi w')] at e
   cases e
structure RGo (p q s:Addr) (A:FA) (O:Nat->Addr->Prop) (H H':Hp) (ml el:Addr) (O':Nat->Addr->Prop):Prop where
 hm:ml = A.ml\/H ml = none
 he:el = A.el\/H el = none
 hO:∀ j c,j < A.n->O' j c->O j c\/H c = none
 fr:∀ c o,H c = some o->c ≠ p->c ≠ A.mp->c ≠ A.el->c ≠ q->c ≠ s->(∀ j,j < A.n->¬ O j c)->H' c = some o
 live:∀ c o,H c = some o->∃ o',H' c = some o'
theorem RGo.free {p q s:Addr} {A:FA} {O O':Nat->Addr->Prop} {H H':Hp} {ml el c:Addr} (h:RGo p q s A O H H' ml el O') (hc:H' c = none):H c = none:=by
 cases e:H c with
 | none=>rfl
 | some o =>
  obtain ⟨o',w⟩:=h.live c o e
  rw [hc] at w
  cases w
theorem RGo.refl {p q s:Addr} {A:FA} {O:Nat->Addr->Prop} {H:Hp}:RGo p q s A O H H A.ml A.el O:=⟨.inl rfl,.inl rfl,fun _ _ _ w=>.inl w,fun _ _ e _ _ _ _ _ _=>e,fun _ o e=>⟨o,e⟩⟩
theorem RGo.trans {p q s:Addr} {A:FA} {O O1 O2:Nat->Addr->Prop} {H H1 H2:Hp} {ml el pl ml2 el2:Addr} {sl:Nat->Addr} (h:RGo p q s A O H H1 ml el O1) (k:RGo p q s (A.re ml el pl sl) O1 H1 H2 ml2 el2 O2):RGo p q s A O H H2 ml2 el2 O2:=by
 refine ⟨?_,?_,fun j c hj w=>?_,fun c o e c1 c2 c3 c4 c5 no=>?_,fun c o e=>?_⟩
 ·rcases k.hm with z | z
  ·rcases h.hm with y | y
   ·exact .inl (z.trans y)
   ·exact .inr (by rw [show ml2 = ml from z]; exact y)
  ·exact .inr (h.free z)
 ·rcases k.he with z | z
  ·rcases h.he with y | y
   ·exact .inl (z.trans y)
   ·exact .inr (by rw [show el2 = el from z]; exact y)
  ·exact .inr (h.free z)
 ·rcases k.hO j c hj w with v | v
  ·exact h.hO j c hj v
  ·exact .inr (h.free v)
 ·refine k.fr c o (h.fr c o e c1 c2 c3 c4 c5 no) c1 c2 (fun z=>?_) c4 c5 (fun j hj w=>?_)
  ·rcases h.he with y | y
   ·exact c3 (z.trans y)
   ·rw [show c = el from z,y] at e
    cases e
  ·rcases h.hO j c hj w with v | v
   ·exact no j hj v
   ·rw [e] at v
    cases v
 ·obtain ⟨o1,w1⟩:=h.live c o e
  exact k.live c o1 w1
theorem RGo.same {p q s:Addr} {A:FA} {O O':Nat->Addr->Prop} {H H1 H2:Hp} {ml el:Addr} (h:RGo p q s A O H H1 ml el O') (S:vm H1 H2):RGo p q s A O H H2 ml el O' :=
 ⟨h.hm,h.he,h.hO,fun c o e c1 c2 c3 c4 c5 no=>S _ _ (h.fr c o e c1 c2 c3 c4 c5 no),fun c o e=>let ⟨o',w⟩:=h.live c o e; ⟨o',S _ _ w⟩⟩
structure jf (K:W.Frag) (a:Ads) (H:Hp) (p:Addr) (A:FA) (X:FX) (f:Nat->List Int->Option Slt) (O:Nat->Addr->Prop) (m:Nat) (q dx pd s ds:Addr) (d:List Int) (x:Sn):Prop where
 ft:za K a H p A X f O m
 sk:ykj a H q dx pd s ds d x
 ok:OkS x
 nO:∀ i,i < A.n->¬ O i q/\¬ O i s
 nd:pd ≠ A.el
theorem jf.same {K:W.Frag} {a:Ads} {H H':Hp} {p:Addr} {A:FA} {X:FX} {f:Nat->List Int->Option Slt} {O:Nat->Addr->Prop} {m:Nat} {q dx pd s ds:Addr} {d:List Int} {x:Sn} (h:jf K a H p A X f O m q dx pd s ds d x) (S:vm H H'):jf K a H' p A X f O m q dx pd s ds d x:=⟨h.ft.same S,h.sk.same S,h.ok,h.nO,h.nd⟩
def chX (A:FA) (X:FX):Int:=yrw X.ws (X.cs A)
theorem za.but2 {K:W.Frag} {a:Ads} {H H':Hp} {p:Addr} {A:FA} {X:FX} {f:Nat->List Int->Option Slt} {O:Nat->Addr->Prop} {m:Nat} {q dx pd s ds:Addr} {d:List Int} {x:Sn} (h:jf K a H p A X f O m q dx pd s ds d x) (B:yns q s H H'):za K a H' p A X f O m:=by
 have hq:=h.sk.me
 have hs:=h.sk.sp
 refine h.ft.frame (O2:=fun c=>c = q\/c = s) (fun c o e ne=>B c o e (fun z=>ne (.inl z)) (fun z=>ne (.inr z))) (fun z=>?_) (fun z=>?_) (fun i hi z=>?_) (fun i c hi w z=>?_) (fun l xs _ e=>h.sk.lst B e) (fun t xs e=>?_)
 ·rcases z with z | z
  ·exact ua h.ft.me hq (show ¬ (6 = 4) by decide) z
  ·exact ua h.ft.me hs (show ¬ (6 = 3) by decide) z
 ·rcases z with z | z
  ·exact ua h.ft.mx.o hq (show ¬ (1 = 4) by decide) z
  ·exact ua h.ft.mx.o hs (show ¬ (1 = 3) by decide) z
 ·rcases z with z | z
  ·exact ua (h.ft.B.b i hi).me hq (show ¬ (2 = 4) by decide) z
  ·exact ua (h.ft.B.b i hi).me hs (show ¬ (2 = 3) by decide) z
 ·rcases z with z | z
  ·exact (h.nO i hi).1 (z ▸ w)
  ·exact (h.nO i hi).2 (z ▸ w)
 ·rcases e with (e | ⟨o,e⟩) | e
  ·exact .inl (.inl (h.sk.tup B e))
  ·exact .inl (.inr ⟨o,B _ _ e (xw e hq (by intro z; cases z)) (xw e hs (by intro z; cases z))⟩)
  ·exact .inr e
theorem yqn:yn ["foreteller","seeker","bit"] ["foreteller","seeker"] (ya yeq):=⟨rfl,rfl,rfl,by decide +kernel,rfl,by decide +kernel,by decide +kernel⟩
def yh7 (K:W.Frag) (a:Ads):Sp:=fun vs H Q _=>∃ (p:Addr) (A:FA) (X:FX) (f:Nat->List Int->Option Slt) (O:Nat->Addr->Prop) (m:Nat) (q dx pd s ds:Addr) (d:List Int) (x:Sn),vs = [.ref p,.ref q]/\jf K a H p A X f O m q dx pd s ds d x/\m + 20 < 1000000/\0 <= X.nd/\X.sg.length <= 100000 /\
 ∀ (ml el pl:Addr) (sl:Nat->Addr) (f':Nat->List Int->Option Slt) (O':Nat->Addr->Prop) (H':Hp),jf K a H' p (A.re ml el pl sl) (X.see A (j3 d x (chX A X))) f' O' (m + A.n) q dx pd s ds d (nar x (chX A X) (j3 d x (chX A X)))->RGo p q s A O H H' ml el O'->Q (.int (j3 d x (chX A X))) H'
theorem yrq (T:Txt K mg a):we P w K mg base CX0 7 a.f_q59 a.d_q59 ["foreteller","seeker"] (yh7 K a):=by
 refine T.F_q59.ok yqn (fun vs H Q E h=>?_) (fun cdv A outer s H vs Q E hr h=>?_)
 ·obtain ⟨p,A,X,f,O,m,q,dx,pd,s',ds,d,x,rfl,_⟩:=h
  rfl
 ·obtain ⟨p,A0,X,f,O,m,q,dx,pd,s',ds,d,x,rfl,hR,hm,nd0,hsg,k⟩:=h
  have hp:=hR.ft.me
  have hq:=hR.sk.me
  have hcm:Ch (chX A0 X):=ym2 hR.ft.n1 hR.ft.wok hR.ft.cok
  have hcu:=yiw hcm
  refine ⟨_,(yk (vd (i:=2) yqn.nd rfl (Or.inl rfl) (ux (pv 1) T.cl_Sk T.M_q53 (yup T) (hr.mono (by decide)) T.B_q53 .nil w4 (yb (wu (pv 0) T.cl_Ft T.M_q39 (yrg T) (hr.mono (by decide)) T.B_q39 .nil vf) yg (yc rfl)))) (yk (vj (x9 (pv 0) T.cl_Ft T.M_q40 (ym8 T) (hr.mono (by decide)) T.B_q40 .nil vf (yb (pv 2) yg (yc rfl)))) (yi (yv (pv 2))))),?_⟩
  try dsimp only [wc]
  refine yo (σ':=[some _,some _,none]) rfl ?_
  walk_at "rd"
  refine ⟨p,A0,X,f,O,m,rfl,hR.ft,fun H1 S1=>?_⟩
  have hR1:=hR.same S1
  walk_at "rd"
  refine ⟨q,dx,pd,s',ds,d,x,.int (chX A0 X),_,rfl,hR1.sk,hR.ok,.int _,fun z=>(by rw [hcu] at z; cases z),fun c' ec _ H2 hsk2 B2=>?_⟩
  cases ec
  have hF2:=za.but2 hR1 B2
  have hp2:=hF2.me
  obtain ⟨b0,b1⟩:0 <= j3 d x (chX A0 X)/\j3 d x (chX A0 X) <= 1:=by
   rcases ycr d x (chX A0 X) with e | e <;> (rw [e]; decide)
  generalize hb:j3 d x (chX A0 X) = b at b0 b1 hsk2 k
  walk_at "rd"
  refine ⟨p,A0,X,f,O,m,b,rfl,hF2,b0,b1,hm,nd0,hsg,fun ml el pl sl f' O' H3 he hF3 hO fr lv hml=>?_⟩
  have nqp:q ≠ p:=ua hsk2.me hF2.me (show ¬ (4 = 6) by decide)
  have nqm:q ≠ A0.mp:=ua hsk2.me hF2.mx.o (show ¬ (4 = 1) by decide)
  have nsp:s' ≠ p:=ua hsk2.sp hF2.me (show ¬ (3 = 6) by decide)
  have nsm:s' ≠ A0.mp:=ua hsk2.sp hF2.mx.o (show ¬ (3 = 1) by decide)
  have nel:∀ {c C dc:Addr} {fs:List (Str × V)},H2 c = some (.ins C dc fs)->c ≠ A0.el:=fun e z=>by
   have e2:=hF2.el
   rw [<- z,e] at e2
   cases e2
  have hq3:=fr _ _ hsk2.me nqp nqm (nel hsk2.me) fun i hi=>(hR.nO i hi).1
  have hs3:=fr _ _ hsk2.sp nsp nsm (nel hsk2.sp) fun i hi=>(hR.nO i hi).2
  have hd3:H3 pd = some (.lst (d.map V.int)):=fr _ _ hsk2.dt (fun z=>by have e:=hsk2.dt; rw [z,hF2.me] at e; cases e) (fun z=>by have e:=hsk2.dt; rw [z,hF2.mx.o] at e; cases e) hR.nd (hF2.B.nlst hsk2.dt)
  walk_at "rd"
  refine k ml el pl sl f' O' H3 ⟨hF3,⟨hq3,hd3,hs3,hsk2.ne⟩,yhm hR.ok hcm,fun i hi=>⟨fun w=>?_,fun w=>?_⟩,?_⟩ ⟨.inr ?_,?_,fun j c hj w=>?_,fun c o e c1 c2 c3 c4 c5 no=>?_,fun c o e=>?_⟩
  ·rcases hO i q hi w with v | v
   ·exact (hR.nO i hi).1 v
   ·rw [hsk2.me] at v
    cases v
  ·rcases hO i s' hi w with v | v
   ·exact (hR.nO i hi).2 v
   ·rw [hsk2.sp] at v
    cases v
  ·rcases he with z | z
   ·rw [show (A0.re ml el pl sl).el = A0.el from z]
    exact hR.nd
   ·exact ye hsk2.dt z
  ·cases e:H ml with
   | none=>rfl
   | some o =>
    by_cases z1:ml = q
    ·rw [z1,hsk2.me] at hml
     cases hml
    by_cases z2:ml = s'
    ·rw [z2,hsk2.sp] at hml
     cases hml
    rw [B2 _ _ (S1 _ _ e) z1 z2] at hml
    cases hml
  ·rcases he with z | z
   ·exact .inl z
   ·refine .inr ?_
    cases e:H el with
    | none=>rfl
    | some o =>
     by_cases z1:el = q
     ·rw [z1,hsk2.me] at z
      cases z
     by_cases z2:el = s'
     ·rw [z2,hsk2.sp] at z
      cases z
     rw [B2 _ _ (S1 _ _ e) z1 z2] at z
     cases z
  ·rcases hO j c hj w with v | v
   ·exact .inl v
   ·refine .inr ?_
    cases e:H c with
    | none=>rfl
    | some o =>
     by_cases z1:c = q
     ·rw [z1,hsk2.me] at v
      cases v
     by_cases z2:c = s'
     ·rw [z2,hsk2.sp] at v
      cases v
     rw [B2 _ _ (S1 _ _ e) z1 z2] at v
     cases v
  ·exact fr c o (B2 _ _ (S1 _ _ e) c4 c5) c1 c2 c3 no
  ·by_cases z1:c = q
   ·exact ⟨_,z1 ▸ hq3⟩
   by_cases z2:c = s'
   ·exact ⟨_,z2 ▸ hs3⟩
   exact lv c o (B2 _ _ (S1 _ _ e) z1 z2)
def rnx (A:FA) (d:List Int) (S:FX × Sn):FX × Sn:=(S.1.see A (j3 d S.2 (chX A S.1)),nar S.2 (chX A S.1) (j3 d S.2 (chX A S.1)))
def rst (A:FA) (d:List Int) (S:FX × Sn):Nat->FX × Sn
 | 0=>S
 | n + 1=>rnx A d (rst A d S n)
def xq (A:FA) (d:List Int) (S:FX × Sn) (n:Nat):Int:=j3 d (rst A d S n).2 (chX A (rst A d S n).1)
theorem ymz (A:FA) (d:List Int) (S:FX × Sn) (n:Nat):xq A d S n = 0\/xq A d S n = 1:=ycr _ _ _
theorem yhk (A:FA) (d:List Int) (S:FX × Sn) (k:Nat):∀ n,rst A d (rst A d S k) n = rst A d S (k + n)
 | 0=>rfl
 | n + 1=>congrArg (rnx A d) (yhk A d S k n)
theorem ymp (A:FA) (d:List Int) (S:FX × Sn) (ml el pl:Addr) (sl:Nat->Addr):∀ n,rst (A.re ml el pl sl) d S n = rst A d S n
 | 0=>rfl
 | n + 1=>by
  show rnx (A.re ml el pl sl) d (rst (A.re ml el pl sl) d S n) = _
  rw [ymp A d S ml el pl sl n]
  rfl
theorem yu4 (A:FA) (X:FX) (b:Int) (h:0 <= X.nd) (hb:0 <= b):0 <= (X.see A b).nd:=by
 show 0 <= ndN X.nd b
 unfold ndN
 split
 ·split <;> omega
 ·split <;> omega
theorem yxd (A:FA) (X:FX) (b:Int):(X.see A b).sg.length <= X.sg.length + 1:=by
 show (sgN X.sg X.nd b).length <= _
 unfold sgN
 split
 ·split
  ·rw [List.length_append]; exact Nat.le_refl _
  ·omega
 ·split
  ·omega
  ·exact Nat.zero_le _
theorem yi9 (A:FA) (d:List Int) (S:FX × Sn) (h:0 <= S.1.nd):∀ n,0 <= (rst A d S n).1.nd
 | 0=>h
 | n + 1=>yu4 A _ _ (yi9 A d S h n) (by rcases ymz A d S n with e | e <;> (unfold xq at e; rw [e]; decide))
theorem yi3 (A:FA) (d:List Int) (S:FX × Sn):∀ n,(rst A d S n).1.sg.length <= S.1.sg.length + n
 | 0=>Nat.le_refl _
 | n + 1=>Nat.le_trans (yxd A _ _) (Nat.succ_le_succ (yi3 A d S n))
theorem jf.app {K:W.Frag} {a:Ads} {H:Hp} {p R:Addr} {A:FA} {X:FX} {f:Nat->List Int->Option Slt} {O:Nat->Addr->Prop} {m:Nat} {q dx pd s ds:Addr} {d:List Int} {x:Sn} {xs ys:List V} (h:jf K a H p A X f O m q dx pd s ds d x) (hR:H R = some (.lst xs)) (hq:∀ q,(q = A.bl\/q = A.el\/q = A.ml\/q = A.pl)->q ≠ R) (np:pd ≠ R):jf K a (upd H R (.lst ys)) p A X f O m q dx pd s ds d x:=by
 refine ⟨h.ft.app hR hq,⟨yp (fun z=>?_) h.sk.me,yp np h.sk.dt,yp (fun z=>?_) h.sk.sp,h.sk.ne⟩,h.ok,h.nO,h.nd⟩
 ·have e:=h.sk.me
  rw [z,hR] at e
  cases e
 ·have e:=h.sk.sp
  rw [z,hR] at e
  cases e
theorem jf.notN {K:W.Frag} {a:Ads} {H:Hp} {p R:Addr} {A:FA} {X:FX} {f:Nat->List Int->Option Slt} {O:Nat->Addr->Prop} {m:Nat} {q dx pd s ds:Addr} {d:List Int} {x:Sn} {xs:List Int} (h:jf K a H p A X f O m q dx pd s ds d x) (hR:H R = some (.lst (xs.map V.int))) (nm:R ≠ A.ml) (ne:R ≠ A.el):∀ q,(q = A.bl\/q = A.el\/q = A.ml\/q = A.pl)->q ≠ R:=fun q hq z=>by
 have n1:=h.ft.n1
 have zero:∀ (g:Nat->Addr),xs.map V.int = xl g A.n->False:=fun g e=>by
  have h0:(xl g A.n)[0]? = some (V.ref (g 0)):=yye n1
  rw [<- e,List.getElem?_map] at h0
  cases w:xs[0]? with
  | none=>rw [w] at h0; cases h0
  | some y=>rw [w] at h0; cases h0
 rcases hq with y | y | y | y
 ·have e:=h.ft.bl
  rw [<- y,z,hR] at e
  exact zero _ (HO.lst.inj (Option.some.inj e))
 ·exact ne (z.symm.trans y)
 ·exact nm (z.symm.trans y)
 ·have e:=h.ft.pl
  rw [<- y,z,hR] at e
  exact zero _ (HO.lst.inj (Option.some.inj e))
theorem RGo.app {p q s R:Addr} {A:FA} {O O':Nat->Addr->Prop} {H H1:Hp} {ml el:Addr} {o':HO} (h:RGo p q s A O H H1 ml el O') (hR:H R = none):RGo p q s A O H (upd H1 R o') ml el O' :=
 ⟨h.hm,h.he,h.hO,fun c o e c1 c2 c3 c4 c5 no=>yp (ye e hR) (h.fr c o e c1 c2 c3 c4 c5 no),fun c o e=>let ⟨o1,w⟩:=h.live c o e; ⟨o1,yp (ye e hR) w⟩⟩
def wB (i:Nat):Int:=([128,64,32,16,8,4,2,1]:List Int)[i]?.getD 0
theorem yzs (i:Nat):0 <= wB i/\wB i <= 128:=by
 rcases i with _ | _ | _ | _ | _ | _ | _ | _ | i
 ·exact ⟨by decide,by decide⟩
 ·exact ⟨by decide,by decide⟩
 ·exact ⟨by decide,by decide⟩
 ·exact ⟨by decide,by decide⟩
 ·exact ⟨by decide,by decide⟩
 ·exact ⟨by decide,by decide⟩
 ·exact ⟨by decide,by decide⟩
 ·exact ⟨by decide,by decide⟩
 ·exact ⟨by show (0:Int) <= 0; decide,by show (0:Int) <= 128; decide⟩
def sgB (A:FA) (d:List Int) (S:FX × Sn) (i:Nat):List Int:=(List.range i).map fun j=>wB j * xq A d S j
theorem yoq (A:FA) (d:List Int) (S:FX × Sn) (i:Nat):sgB A d S (i + 1) = sgB A d S i ++ [wB i * xq A d S i]:=by
 unfold sgB
 rw [List.range_succ,List.map_append]
 rfl
theorem yw5:yn ["foreteller","seeker"] ["foreteller","seeker"] (ya ydw):=⟨rfl,rfl,rfl,by decide +kernel,rfl,by decide +kernel,by decide +kernel⟩
def yfq (K:W.Frag) (a:Ads):Sp:=fun vs H Q _=>∃ (p:Addr) (A:FA) (S:FX × Sn) (f:Nat->List Int->Option Slt) (O:Nat->Addr->Prop) (m:Nat) (q dx pd s ds:Addr) (d:List Int),vs = [.ref p,.ref q]/\jf K a H p A S.1 f O m q dx pd s ds d S.2/\m + 80 < 1000000/\0 <= S.1.nd/\S.1.sg.length <= 90000 /\
 ∀ (ml el pl:Addr) (sl:Nat->Addr) (f':Nat->List Int->Option Slt) (O':Nat->Addr->Prop) (H':Hp),jf K a H' p (A.re ml el pl sl) (rst A d S 8).1 f' O' (m + 8 * A.n) q dx pd s ds d (rst A d S 8).2->RGo p q s A O H H' ml el O'->Q (.int (sgB A d S 8).sum) H'
theorem yv6 (T:Txt K mg a):we P w K mg base CX0 8 a.f_q60 a.d_q60 ["foreteller","seeker"] (yfq K a):=by
 refine T.F_q60.ok yw5 (fun vs H Q E h=>?_) (fun cdv A outer s H vs Q E hr h=>?_)
 ·obtain ⟨p,A,S,f,O,m,q,dx,pd,s',ds,d,rfl,_⟩:=h
  rfl
 ·obtain ⟨p,A0,S,f,O,m,q,dx,pd,s',ds,d,rfl,hR,hm,nd0,hsg,k⟩:=h
  have n6:=hR.ft.n6
  refine ⟨_,(yi (yv (yr (ju rfl) rfl T.z_sum (by decide +kernel) (yb (uz (js:=[1,0]) (ys:=["seeker","foreteller"]) rfl (yio (yhg rfl T.m_WORTHS)) (fun C s2 H2 fp=>(ym wk (pv 0) (yz (yrq T) (hr.mono (by decide)) rfl T.m_q59 T.F_q59.kp T.B_q59 .nil vf (yb (pv 2) (yb (pv 1) yg (yc rfl)) (yc rfl))))) rfl rfl (hyc:=(all_cons rfl (all_cons rfl v9))) (hrel:=(all_cons rfl (all_cons rfl v9)))) yg (yc rfl))))),?_⟩
  try dsimp only [wc]
  refine yo (σ':=[some _,some _]) rfl ?_
  walk_at "rd"
  refine ⟨a.W_WORTHS,rfl,⟨_,T.w_WORTHS H⟩,fun D hD=>?_⟩
  refine yf5 (xs:=[.int 128,.int 64,.int 32,.int 16,.int 8,.int 4,.int 2,.int 1]) (fun i G=>∃ (ml el pl:Addr) (sl:Nat->Addr) (f':Nat->List Int->Option Slt) (O':Nat->Addr->Prop),jf K a G p (A0.re ml el pl sl) (rst A0 d S i).1 f' O' (m + i * A0.n) q dx pd s' ds d (rst A0 d S i).2/\RGo p q s' A0 O H G ml el O'/\G D = some (.lst ((sgB A0 d S i).map V.int))/\D ≠ ml/\D ≠ el) ?_ (fun i G _ _=>T.w_WORTHS G) ?_ ?_
  ·have S1:vm H (upd H D (.lst [])):=vn hD
   refine ⟨A0.ml,A0.el,A0.pl,A0.sl,f,O,?_,RGo.refl.same S1,yd,(ye hR.ft.mx.l hD).symm,(ye hR.ft.el hD).symm⟩
   rw [Nat.zero_mul]
   exact hR.same S1
  ·rintro i y G hy hi8 ⟨ml,el,pl,sl,f1,O1,hR1,go1,hD1,nm1,ne1⟩
   have hi:i < 8:=hi8
   obtain rfl:y = V.int (wB i):=by
    rcases i with _ | _ | _ | _ | _ | _ | _ | _ | i
    ·exact (Option.some.inj hy).symm
    ·exact (Option.some.inj hy).symm
    ·exact (Option.some.inj hy).symm
    ·exact (Option.some.inj hy).symm
    ·exact (Option.some.inj hy).symm
    ·exact (Option.some.inj hy).symm
    ·exact (Option.some.inj hy).symm
    ·exact (Option.some.inj hy).symm
    ·omega
   have hin:i * A0.n <= 8 * A0.n:=Nat.mul_le_mul_right _ (by omega)
   obtain ⟨wb0,wb1⟩:=yzs i
   have nd1:=yi9 A0 d S nd0 i
   have sg1:=yi3 A0 d S i
   walk_at "rd"
   refine ⟨p,A0.re ml el pl sl,(rst A0 d S i).1,f1,O1,m + i * A0.n,q,dx,pd,s',ds,d,(rst A0 d S i).2,rfl,hR1,by omega,nd1,by omega,fun ml2 el2 pl2 sl2 f2 O2 G2 hR2 go2=>?_⟩
   have hD2:G2 D = some (.lst ((sgB A0 d S i).map V.int)):=go2.fr _ _ hD1 (xw hD1 hR1.ft.me (by intro z; cases z)) (xw hD1 hR1.ft.mx.o (by intro z; cases z)) ne1 (xw hD1 hR1.sk.me (by intro z; cases z)) (xw hD1 hR1.sk.sp (by intro z; cases z)) (hR1.ft.B.nlst hD1)
   have nm2:D ≠ ml2:=by
    rcases go2.hm with z | z
    ·rw [z]; exact nm1
    ·exact ye hD1 z
   have ne2:D ≠ el2:=by
    rcases go2.he with z | z
    ·rw [z]; exact ne1
    ·exact ye hD1 z
   refine ⟨wB i,_,rfl,rfl,.inl ⟨by omega,by omega⟩,?_⟩
   refine ⟨_,hD2,?_,8 - (i + 1),by show 8 - (i + 1) < 8 - i; omega,rfl,hi,ml2,el2,pl2,sl2,f2,O2,?_,?_,?_,nm2,ne2⟩
   ·unfold sgB
    rw [List.length_map,List.length_map,List.length_range]
    exact Nat.lt_trans hi (by decide)
   ·rw [show m + (i + 1) * A0.n = m + i * A0.n + A0.n by rw [Nat.succ_mul,Nat.add_assoc]]
    exact jf.app hR2 hD2 (hR2.notN hD2 nm2 ne2) (ye hR.sk.dt hD)
   ·exact (go1.trans go2).app hD
   ·rw [yoq,List.map_append]
    exact yd
  ·rintro G ⟨ml,el,pl,sl,f1,O1,hR1,go1,hD1,nm1,ne1⟩
   walk_at "rd"
   refine ⟨D,sgB A0 d S 8,rfl,SqL.of hD1,?_⟩
   walk_at "rd"
   exact k ml el pl sl f1 O1 G hR1 go1
theorem jf.up {K:W.Frag} {a:Ads} {H:Hp} {p:Addr} {A:FA} {X:FX} {f:Nat->List Int->Option Slt} {O:Nat->Addr->Prop} {m m':Nat} {q dx pd s ds:Addr} {d:List Int} {x:Sn} (h:jf K a H p A X f O m q dx pd s ds d x) (hm:m <= m'):jf K a H p A X f O m' q dx pd s ds d x:=⟨h.ft.up hm,h.sk,h.ok,h.nO,h.nd⟩
theorem ys1 (A:FA) (d:List Int) (S:FX × Sn) (ml el pl:Addr) (sl:Nat->Addr) (n:Nat):xq (A.re ml el pl sl) d S n = xq A d S n:=by
 unfold xq
 rw [ymp]
 rfl
theorem ywp (A:FA) (d:List Int) (S:FX × Sn) (ml el pl:Addr) (sl:Nat->Addr) (n:Nat):sgB (A.re ml el pl sl) d S n = sgB A d S n:=by
 unfold sgB
 exact List.map_congr_left fun j _=>by rw [ys1]
def rsg (A:FA) (d:List Int) (S:FX × Sn) (k:Nat):Int:=(sgB A d (rst A d S (9 * k + 1)) 8).sum
def rtx (A:FA) (d:List Int) (S:FX × Sn) (k:Nat):List Int:=(List.range k).map (rsg A d S)
theorem yo7 (A:FA) (d:List Int) (S:FX × Sn) (k:Nat):rtx A d S (k + 1) = rtx A d S k ++ [rsg A d S k]:=by
 unfold rtx
 rw [List.range_succ,List.map_append]
 rfl
theorem je (A:FA) (d:List Int) (S:FX × Sn) (k:Nat):(rtx A d S k).length = k:=by
 unfold rtx
 rw [List.length_map,List.length_range]
section
variable {K:W.Frag} {a:Ads} {G:Hp} {p:Addr} {A:FA} {S:FX × Sn} {f:Nat->List Int->Option Slt} {O:Nat->Addr->Prop} {m n:Nat} {q dx pd s ds ml el pl:Addr} {sl:Nat->Addr} {d:List Int} {Q:VK} {E:XK}
theorem yxp (hR:jf K a G p (A.re ml el pl sl) (rst A d S n).1 f O m q dx pd s ds d (rst A d S n).2) (hm:m + 20 < 1000000) (nd0:0 <= S.1.nd) (hsg:S.1.sg.length + n <= 100000)
  (k:∀ (ml2 el2 pl2:Addr) (sl2:Nat->Addr) (f':Nat->List Int->Option Slt) (O':Nat->Addr->Prop) (H':Hp),jf K a H' p (A.re ml2 el2 pl2 sl2) (rst A d S (n + 1)).1 f' O' (m + 6) q dx pd s ds d (rst A d S (n + 1)).2->RGo p q s (A.re ml el pl sl) O G H' ml2 el2 O'->Q (.int (xq A d S n)) H'):yh7 K a [.ref p,.ref q] G Q E :=
 ⟨p,A.re ml el pl sl,(rst A d S n).1,f,O,m,q,dx,pd,s,ds,d,(rst A d S n).2,rfl,hR,hm,yi9 A d S nd0 n,Nat.le_trans (yi3 A d S n) hsg,fun ml2 el2 pl2 sl2 f' O' H' h1 h2=>k ml2 el2 pl2 sl2 f' O' H' (jf.up h1 (Nat.add_le_add_left hR.ft.n6 m)) h2⟩
theorem yty (hR:jf K a G p (A.re ml el pl sl) (rst A d S n).1 f O m q dx pd s ds d (rst A d S n).2) (hm:m + 80 < 1000000) (nd0:0 <= S.1.nd) (hsg:S.1.sg.length + n <= 90000)
  (k:∀ (ml2 el2 pl2:Addr) (sl2:Nat->Addr) (f':Nat->List Int->Option Slt) (O':Nat->Addr->Prop) (H':Hp),jf K a H' p (A.re ml2 el2 pl2 sl2) (rst A d S (n + 8)).1 f' O' (m + 48) q dx pd s ds d (rst A d S (n + 8)).2->RGo p q s (A.re ml el pl sl) O G H' ml2 el2 O'->Q (.int (sgB A d (rst A d S n) 8).sum) H'):yfq K a [.ref p,.ref q] G Q E:=by
 refine ⟨p,A.re ml el pl sl,rst A d S n,f,O,m,q,dx,pd,s,ds,d,rfl,hR,hm,yi9 A d S nd0 n,Nat.le_trans (yi3 A d S n) hsg,fun ml2 el2 pl2 sl2 f' O' H' h1 h2=>?_⟩
 have h3:A.n <= 6:=hR.ft.n6
 have h1:=jf.up h1 (show m + 8 * A.n <= m + 48 by omega)
 rw [ymp,yhk] at h1
 rw [ywp]
 exact k ml2 el2 pl2 sl2 f' O' H' h1 h2
end
theorem yqh:yn ["foreteller","seeker","most","text"] ["foreteller","seeker","most"] (ya ydp):=⟨rfl,rfl,rfl,by decide +kernel,rfl,by decide +kernel,by decide +kernel⟩
def yk4 (K:W.Frag) (a:Ads):Sp:=fun vs H Q E=>∃ (p:Addr) (A:FA) (S:FX × Sn) (f:Nat->List Int->Option Slt) (O:Nat->Addr->Prop) (m:Nat) (q dx pd s ds:Addr) (d:List Int) (mo:Nat),vs = [.ref p,.ref q,.int mo]/\jf K a H p A S.1 f O m q dx pd s ds d S.2/\mo <= 1000/\m + 54 * mo + 200 < 1000000/\0 <= S.1.nd/\S.1.sg.length <= 10000 /\
 (∀ (N:Nat) (r ml el pl:Addr) (sl:Nat->Addr) (f':Nat->List Int->Option Slt) (O':Nat->Addr->Prop) (H':Hp),N <= mo->(∀ j,j < N->xq A d S (9 * j) = 1)->xq A d S (9 * N) = 0->H r = none->H' r = some (.lst ((rtx A d S N).map V.int))->jf K a H' p (A.re ml el pl sl) (rst A d S (9 * N + 1)).1 f' O' (m + 54 * N + 6) q dx pd s ds d (rst A d S (9 * N + 1)).2->RGo p q s A O H H' ml el O'->Q (.ref r) H') /\
 ((∀ j,j <= mo->xq A d S (9 * j) = 1)->∀ (ml el:Addr) (O':Nat->Addr->Prop) (H':Hp),RGo p q s A O H H' ml el O'->E (.ref a.C_NP) none H')
theorem yyj (T:Txt K mg a):we P w K mg base (CXe P w) 9 a.f_q61 a.d_q61 ["foreteller","seeker","most"] (yk4 K a):=by
 refine T.F_q61.okE yqh (fun vs H Q E h=>?_) (fun cdv A outer s H vs Q E hr h=>?_)
 ·obtain ⟨p,A,S,f,O,m,q,dx,pd,s',ds,d,mo,rfl,_⟩:=h
  rfl
 ·obtain ⟨p,A0,S,f,O,m,q,dx,pd,s',ds,d,mo,rfl,hR,hmo,hm,nd0,hsg,kQ,kE⟩:=h
  refine ⟨_,(yk (vd (i:=3) yqh.nd rfl (Or.inl rfl) (wx yg)) (yk (jt PassesOwn.leaving (y7 x4 (yz (yrq T) (hr.mono (by decide)) rfl T.m_q59 T.F_q59.kp T.B_q59 .nil vf (yb (pv 0) (yb (pv 1) yg (yc rfl)) (yc rfl))) yj (vg _)) (yk (wd (y7 x4 (yr yw rfl T.z_len (by decide +kernel) (yb (pv 3) yg (yc rfl))) (pv 2) (vg _)) (yi (xp rfl T.m_NP T.r_NP (yb xy yg (yc rfl)))) ve) (yi (vj (yen PySem.F.plainAttrs_list PySem.F.slot_list_append PySem.F.type_list_append wo (pv 3) (yb (yz (yv6 T) (hr.mono (by decide)) rfl T.m_q60 T.F_q60.kp T.B_q60 .nil vf (yb (pv 0) (yb (pv 1) yg (yc rfl)) (yc rfl))) yg (yc rfl))))))) (yi (yv (pv 3))))),?_⟩
  try dsimp only [wc]
  refine yo (σ':=[some _,some _,some _,none]) rfl ?_
  walk_at "rd"
  refine ⟨by walk_at "len",fun r hr0=>?_⟩
  with_reducible first | refine yy hr0 fun H1 S1 hr1=>?_ | refine new_obj hr0 fun H1 S1 hr1=>?_
  have npr:pd ≠ r:=ye hR.sk.dt hr0
  walk_at "rd"
  refine ⟨fun w σ' G=>∃ (N:Nat) (ml el pl:Addr) (sl:Nat->Addr) (f':Nat->List Int->Option Slt) (O':Nat->Addr->Prop),σ' = [some (.ref p),some (.ref q),some (.int mo),some (.ref r)]/\N <= mo/\(∀ j,j < N->xq A0 d S (9 * j) = 1)/\jf K a G p (A0.re ml el pl sl) (rst A0 d S (9 * N)).1 f' O' (m + 54 * N) q dx pd s' ds d (rst A0 d S (9 * N)).2/\RGo p q s' A0 O H G ml el O'/\G r = some (.lst ((rtx A0 d S N).map V.int))/\r ≠ ml/\r ≠ el/\w = mo - N,
   ⟨_,0,A0.ml,A0.el,A0.pl,A0.sl,f,O,rfl,Nat.zero_le _,fun j hj=>absurd hj (Nat.not_lt_zero j),hR.same S1,RGo.refl.same S1,hr1,(ye hR.ft.mx.l hr0).symm,(ye hR.ft.el hr0).symm,rfl⟩,?_⟩
  rintro w σ2 G ⟨N,ml,el,pl,sl,f1,O1,rfl,hN,hb1,hR1,go1,hrG,nm1,ne1,rfl⟩
  walk_at "rd"
  refine yxp hR1 (by omega) nd0 (by omega) fun ml2 el2 pl2 sl2 f2 O2 G2 hR2 go2=>?_
  have keepR:∀ {G G2:Hp} {ml el pl ml2 el2:Addr} {sl:Nat->Addr} {X:FX} {f1:Nat->List Int->Option Slt} {O1 O2:Nat->Addr->Prop} {m x} {xs:List V},jf K a G p (A0.re ml el pl sl) X f1 O1 m q dx pd s' ds d x->RGo p q s' (A0.re ml el pl sl) O1 G G2 ml2 el2 O2->G r = some (.lst xs)->r ≠ ml->r ≠ el->G2 r = some (.lst xs)/\r ≠ ml2/\r ≠ el2:=fun hR1 go2 hD1 nm1 ne1=>by
   refine ⟨go2.fr _ _ hD1 (xw hD1 hR1.ft.me (by intro z; cases z)) (xw hD1 hR1.ft.mx.o (by intro z; cases z)) ne1 (xw hD1 hR1.sk.me (by intro z; cases z)) (xw hD1 hR1.sk.sp (by intro z; cases z)) (hR1.ft.B.nlst hD1),?_,?_⟩
   ·rcases go2.hm with z | z
    ·rw [z]; exact nm1
    ·exact ye hD1 z
   ·rcases go2.he with z | z
    ·rw [z]; exact ne1
    ·exact ye hD1 z
  obtain ⟨hr2,nm2,ne2⟩:=keepR hR1 go2 hrG nm1 ne1
  have go12:=go1.trans go2
  have hb01:=ymz A0 d S (9 * N)
  generalize hbv:xq A0 d S (9 * N) = b at hb01
  walk_at "rd"
  refine uw (fun hb=>?_) (fun hb=>?_)
  ·subst hb
   have hb2:∀ j,j < N + 1->xq A0 d S (9 * j) = 1:=fun j hj=>by
    by_cases z:j = N
    ·rw [z]; exact hbv
    ·exact hb1 j (by omega)
   refine yf9 ?_
   walk_at "rd"
   refine x3 (SqL.of hr2) ?_
   rw [List.length_map,je]
   walk_at "rd"
   refine uw (fun hc=>?_) (fun hc=>?_)
   ·have hNm:N = mo:=by omega
    walk_at "rd"
    exact ⟨by walk_at "len",kE (fun j hj=>hb2 j (by omega)) ml2 el2 O2 G2 go12⟩
   ·walk_at "rd"
    refine ybj hr2 ?_
    walk_at "rd"
    refine yty hR2 (by omega) nd0 (by omega) fun ml3 el3 pl3 sl3 f3 O3 G3 hR3 go3=>?_
    obtain ⟨hr3,nm3,ne3⟩:=keepR hR2 go3 hr2 nm2 ne2
    have go13:=go12.trans go3
    walk_at "rd"
    refine uc hr3 (v7 (by rw [List.length_map,je]; omega)) ?_
    walk_at "rd"
    refine ⟨_,?_,N + 1,ml3,el3,pl3,sl3,f3,O3,rfl,by omega,hb2,?_,go13.app hr0,?_,nm3,ne3,rfl⟩
    ·omega
    ·exact jf.app hR3 hr3 (hR3.notN hr3 nm3 ne3) npr
    ·rw [yd,yo7,List.map_append]
     rfl
  ·have hb0:xq A0 d S (9 * N) = 0:=by omega
   walk_at "rd"
   exact kQ N r ml2 el2 pl2 sl2 f2 O2 G2 hN hb1 hb0 hr0 hr2 hR2 go12
theorem yr3 (x:Sn) (c b:Int):(nar x c b).2.2 <= x.2.2 + 2:=by
 unfold nar ren
 (repeat' split) <;> (dsimp only; omega)
theorem yp4 (A:FA) (d:List Int) (S:FX × Sn):∀ n:Nat,(rst A d S n).2.2.2 <= S.2.2.2 + 2 * (n:Int)
 | 0=>by show S.2.2.2 <= S.2.2.2 + 2 * ((0:Nat):Int); omega
 | n + 1=>by
  have h1:=yp4 A d S n
  have h2:=yr3 (rst A d S n).2 (chX A (rst A d S n).1) (j3 d (rst A d S n).2 (chX A (rst A d S n).1))
  show (nar (rst A d S n).2 (chX A (rst A d S n).1) (j3 d (rst A d S n).2 (chX A (rst A d S n).1))).2.2 <= _
  omega
structure ROk (A:FA) (d:List Int) (S:FX × Sn) (N:Nat):Prop where
 b1:∀ j,j < N->xq A d S (9 * j) = 1
 b0:xq A d S (9 * N) = 0
 tk:d.take (tL (rst A d S (9 * N + 1)).2).length = tL (rst A d S (9 * N + 1)).2
theorem ROk.uniq {A:FA} {d:List Int} {S:FX × Sn} {N M:Nat} (h:ROk A d S N) (b1:∀ j,j < M->xq A d S (9 * j) = 1) (b0:xq A d S (9 * M) = 0):M = N:=by
 rcases Nat.lt_trichotomy M N with z | z | z
 ·have e:=h.b1 M z
  rw [b0] at e
  cases e
 ·exact z
 ·have e:=b1 N z
  rw [h.b0] at e
  cases e
def rTL (A:FA) (d:List Int) (S:FX × Sn) (N:Nat):Nat:=(tL (rst A d S (9 * N + 1)).2).length
theorem RGo.fgo {p q s:Addr} {A:FA} {O O':Nat->Addr->Prop} {H0 H H':Hp} {ml el:Addr} (S:vm H0 H) (hq:H0 q = none) (hs:H0 s = none) (h:RGo p q s A O H H' ml el O'):FGo p A O H0 H' el O' :=
 ⟨h.he.imp id S.free,fun j c hj w=>(h.hO j c hj w).imp id S.free,fun c o e c1 c2 c3 no=>h.fr c o (S _ _ e) c1 c2 c3 (ye e hq) (ye e hs) no,fun c o e=>h.live c o (S _ _ e)⟩
theorem yix:yn ["foreteller","data","most","seeker","text","own"] ["foreteller","data","most"] (ya yef):=⟨rfl,rfl,rfl,by decide +kernel,rfl,by decide +kernel,by decide +kernel⟩
def yk7 (K:W.Frag) (a:Ads):Sp:=fun vs H Q E=>∃ (p:Addr) (A:FA) (X:FX) (f:Nat->List Int->Option Slt) (O:Nat->Addr->Prop) (m:Nat) (dt:Addr) (d:List Int) (mo:Nat),vs = [.ref p,.ref dt,.int mo]/\za K a H p A X f O m/\H dt = some (.lst (d.map V.int))/\dt ≠ A.el/\Byt d/\d.length <= 12000/\mo <= 1000/\m + 54 * mo + 200 < 1000000/\0 <= X.nd/\X.sg.length <= 10000 /\
 (∀ (N:Nat) (t r el:Addr) (O':Nat->Addr->Prop) (H':Hp),N <= mo->ROk A d (X,s0) N->H t = none->H r = none->H' t = some (.tup [.ref r,.int (rTL A d (X,s0) N)])->H' r = some (.lst ((rtx A d (X,s0) N).map V.int))->FGo p A O H H' el O'->Q (.ref t) H') /\
 ((∀ N,N <= mo->¬ ROk A d (X,s0) N)->∀ (el:Addr) (O':Nat->Addr->Prop) (H':Hp),FGo p A O H H' el O'->E (.ref a.C_NP) none H')
theorem yvk (T:Txt K mg a):we P w K mg base (CXe P w) 10 a.f_q62 a.d_q62 ["foreteller","data","most"] (yk7 K a):=by
 refine T.F_q62.okE yix (fun vs H Q E h=>?_) (fun cdv A outer s H vs Q E hr h=>?_)
 ·obtain ⟨p,A,X,f,O,m,dt,d,mo,rfl,_⟩:=h
  rfl
 ·obtain ⟨p,A0,X,f,O,m,dt,d,mo,rfl,hF,hdt,ndt,hby,hdl,hmo,hm,nd0,hsg,kQ,kE⟩:=h
  refine yq (vd (i:=3) yix.nd rfl (Or.inl rfl) (ycq T.k_Sk (yvj T) (hr.mono (by decide)) rfl T.m_Sk T.B_q50 .nil v8 (yb (pv 1) yg (yc rfl)))) ?_
  refine yq (vd (i:=4) yix.nd rfl (Or.inl rfl) (vv (yyj T) (hr.mono (by decide)) rfl T.m_q61 T.F_q61.kp T.B_q61 .nil v8 (yb (pv 0) (yb (pv 3) (yb (pv 2) yg (yc rfl)) (yc rfl)) (yc rfl)))) ?_
  refine yq (vd (i:=5) yix.nd rfl (Or.inl rfl) (wu (pv 3) T.cl_Sk T.M_q54 (yyh T) (hr.mono (by decide)) T.B_q54 .nil vf)) ?_
  refine yq (wd (y7 (ym1 hr.units) (xo u3 (pv 1) uh (ug (yr yw rfl T.z_len (by decide +kernel) (yb (pv 5) yg (yc rfl))))) (pv 5) (vg _)) (yi (xp rfl T.m_NP T.r_NP (yb xy yg (yc rfl)))) ve) ?_
  refine ⟨_,(yi (yv (yi0 (yb (pv 4) (yb (yr yw rfl T.z_len (by decide +kernel) (yb (pv 5) yg (yc rfl))) yg (yc rfl)) (yc rfl))))),?_⟩
  try dsimp only [wc]
  refine yo (σ':=[some _,some _,some _,none,none,none]) rfl ?_
  walk_at "rd"
  intro q dq nq ndq neq
  have SQ:vm H (upd (upd H dq (.own q)) q (.ins a.C_Sk dq [])):=fun b o e=>by rw [yu (ye e nq),yu (ye e ndq)]; exact e
  refine ⟨q,dq,.ref dt,_,rfl,yd,.lst (SQ _ _ hdt),.inr ⟨d,yil (SQ _ _ hdt) hby hdl,fun pd ps ds H1 hpd0 hps0 hsk B1=>⟨rfl,?_⟩⟩⟩
  have S1:vm H H1:=fun b o e=>B1 b o (SQ b o e) (ye e nq)
  have hps:H ps = none:=SQ.free hps0
  have hpd:H pd = none:=SQ.free hpd0
  have nO:∀ {c:Addr},H c = none->∀ i,i < A0.n->¬ O i c:=fun hc i hi w=>by
   obtain ⟨o,ho,_⟩:=(hF.B.b i hi).own _ w
   rw [hc] at ho
   cases ho
  have hR:jf K a H1 p A0 X f O m q dq pd ps ds d s0:=⟨hF.same S1,hsk,vav,fun i hi=>⟨nO nq i hi,nO hps i hi⟩,(ye hF.el hpd).symm⟩
  walk_at "rd"
  refine ⟨p,A0,(X,s0),f,O,m,q,dq,pd,ps,ds,d,mo,rfl,hR,hmo,hm,nd0,hsg,fun N r ml el pl sl f2 O2 H2 hN hb1 hb0 hr0 hr2 hR2 go2=>?_,fun hall ml el O2 H2 go2=>?_⟩
  ·have hsz:=yp4 A0 d (X,s0) (9 * N + 1)
   have hs5:((X,s0):FX × Sn).2.2.2 = 5:=rfl
   rw [hs5] at hsz
   have go:=go2.fgo S1 nq hps
   have hq2:=hR2.sk.me
   have hdt2:H2 dt = some (.lst (d.map V.int)):=(go.kpa hF).lst hdt ndt
   walk_at "rd"
   refine ⟨q,dq,pd,ps,ds,d,_,rfl,hR2.sk,hR2.ok,by show Int.toNat _ <= 100000; omega,fun w H3 hw0 hw3 S3=>?_⟩
   walk_at "rd"
   refine x3 (SqL.of hw3) ?_
   rw [List.length_map]
   walk_at "rd"
   refine ybl (SqL.of (S3 _ _ hdt2)) fun u hu=>?_
   have ec:ye0 (d.map V.int) none (some (((tL (rst A0 d (X,s0) (9 * N + 1)).2).length:Nat):Int)) = (d.take (tL (rst A0 d (X,s0) (9 * N + 1)).2).length).map V.int:=by rw [List.map_take]; exact z0 _
   rw [ec]
   with_reducible first | refine yy hu fun H4 S4 hu4=>?_ | refine new_obj hu fun H4 S4 hu4=>?_
   have go4:=go.same (S3.trans S4)
   walk_at "rd"
   refine yc6 _ _ (SqL.of hu4) (SqL.of (S4 _ _ hw3)) ?_
   by_cases hc:d.take (tL (rst A0 d (X,s0) (9 * N + 1)).2).length = tL (rst A0 d (X,s0) (9 * N + 1)).2
   ·rw [decide_eq_true hc]
    walk_at "rd"
    refine x3 (SqL.of (S4 _ _ hw3)) ?_
    rw [List.length_map]
    walk_at "rd"
    refine ⟨by walk_at "len",fun t ht0=>?_⟩
    refine kQ N t r el O2 _ hN ⟨hb1,hb0,hc⟩ (go4.free ht0) (S1.free hr0) yd (zk ht0 ((S3.trans S4) _ _ hr2)) (go4.same (vn ht0))
   ·rw [decide_eq_false hc]
    walk_at "rd"
    exact ⟨by walk_at "len",kE (fun M hM hok=>hc (by rw [hok.uniq hb1 hb0]; exact hok.tk)) el O2 _ go4⟩
  ·exact kE (fun M hM hok=>by have e:=hall M hM; rw [hok.b0] at e; cases e) el O2 H2 (go2.fgo S1 nq hps)
structure yze (H:Hp) (L dt:Addr) (lx:V) (n:Nat) (lk:Nat->Addr) (kd:Nat->Fin 3) (tp:Nat->Addr) (ps:Nat->List Int) (d:List Int) (mo N w:Nat) (lt:Nat->Addr) (tt:Nat->List Int):Prop where
 l:H L = some (.lst (xl lk n))
 n1:1 <= n
 n6:n <= 6
 r:ybg H n lk kd tp ps
 dat:H dt = some (.lst (d.map V.int))
 by':Byt d
 dl:d.length <= 12000
 mo1:mo <= 1000
 lr:ynq H lx N w lt tt
 w1:w <= 1000
 N1:N <= 1000
 b:6 + 6 * (N * (9 * w + 1)) + 54 * mo + 200 < 1000000
theorem ynq.of {H:Hp} {ll:Addr} {N w:Nat} {lt:Nat->Addr} {tt:Nat->List Int} (h:H ll = some (.lst (xl lt N))) (t:∀ i,i < N->ybf H (lt i) (tt i) w):ynq H (.ref ll) N w lt tt:=⟨.inr ⟨ll,rfl,h⟩,t⟩
def rS (n:Nat) (kd:Nat->Fin 3) (ps:Nat->List Int) (pre:List Int):FX × Sn:=((FX0 n kd).run (fa0 n ps) pre,s0)
theorem yab (A:FA) (d:List Int) (S:FX × Sn):∀ k,rst A d S k = rst (fa0 A.n A.ps) d S k
 | 0=>rfl
 | k + 1=>by
  show rnx A d (rst A d S k) = rnx (fa0 A.n A.ps) d (rst (fa0 A.n A.ps) d S k)
  rw [yab A d S k]
  rfl
theorem jw (A:FA) (d:List Int) (S:FX × Sn) (k:Nat):xq A d S k = xq (fa0 A.n A.ps) d S k:=by
 unfold xq
 rw [yab]
 rfl
theorem ytv (A:FA) (d:List Int) (S:FX × Sn) (k:Nat):rsg A d S k = rsg (fa0 A.n A.ps) d S k:=by
 unfold rsg sgB
 rw [yab]
 exact congrArg List.sum (List.map_congr_left fun j _=>by rw [jw])
theorem yry (A:FA) (d:List Int) (S:FX × Sn) (k:Nat):rtx A d S k = rtx (fa0 A.n A.ps) d S k:=by
 unfold rtx
 exact List.map_congr_left fun j _=>ytv A d S j
theorem yte (A:FA) (d:List Int) (S:FX × Sn) (k:Nat):rTL A d S k = rTL (fa0 A.n A.ps) d S k:=by
 unfold rTL
 rw [yab]
theorem ROk.fa0 {A:FA} {d:List Int} {S:FX × Sn} {N:Nat}:ROk A d S N ↔ ROk (fa0 A.n A.ps) d S N:=by
 constructor
 ·intro h
  exact ⟨fun j hj=>by rw [<- jw]; exact h.b1 j hj,by rw [<- jw]; exact h.b0,by rw [<- yab]; exact h.tk⟩
 ·intro h
  exact ⟨fun j hj=>by rw [jw]; exact h.b1 j hj,by rw [jw]; exact h.b0,by rw [yab]; exact h.tk⟩
theorem yxj {m:Nat} (h:m <= 1000):yuh (.int m) = true:=by
 show (decide ((0:Int) <= m) && decide ((m:Int) <= 1000)) = true
 rw [decide_eq_true (by omega),decide_eq_true (by omega)]
 rfl
theorem yu0 {s t:Int} (hs:0 <= s/\s <= 255) (ht:0 <= t/\t <= 255) (h:b8 s = b8 t):s = t:=by
 have e1:=yt7 hs.1 hs.2
 have e2:=yt7 ht.1 ht.2
 have h:[s / 128 % 2,s / 64 % 2,s / 32 % 2,s / 16 % 2,s / 8 % 2,s / 4 % 2,s / 2 % 2,s / 1 % 2] = [t / 128 % 2,t / 64 % 2,t / 32 % 2,t / 16 % 2,t / 8 % 2,t / 4 % 2,t / 2 % 2,t / 1 % 2]:=h
 injection h with h0 h
 injection h with h1 h
 injection h with h2 h
 injection h with h3 h
 injection h with h4 h
 injection h with h5 h
 injection h with h6 h
 injection h with h7 h
 omega
theorem yit {mx bt:Nat->Int} {d:List Int} (hd:Byt d) {m:Nat} (hc:∀ j,j < m->Ch (mx j)) (hb:∀ j,j < m->bt j = 0\/bt j = 1) (i:InS d (snK mx bt m)):∀ k,k < m->bt k = j3 d (snK mx bt k) (mx k)/\InS d (snK mx bt k):=by
 induction m with
 | zero=>exact fun k hk=>absurd hk (Nat.not_lt_zero k)
 | succ m ih =>
  have hx:=(z9 (mx:=mx) (bt:=bt) m fun j hj=>hc j (by omega)).1
  obtain ⟨i1,i2⟩:=yta hd hx (hc m (by omega)) (hb m (by omega)) i
  intro k hk
  by_cases z:k = m
  ·rw [z]
   exact ⟨i2,i1⟩
  ·exact ih (fun j hj=>hc j (by omega)) (fun j hj=>hb j (by omega)) i1 k (by omega)
theorem ype {ts:List Int} {k:Nat} (h:k < (dec ts).length):vh ts k = 0\/vh ts k = 1:=by
 obtain ⟨h0,h1⟩:=ypd ts k h
 omega
theorem ymt (x:Sn):Byt (tL x):=fun b hb=>ysb _ _ b hb
theorem ycu {n:Nat} {kd:Nat->Fin 3} {ps:Nat->List Int} {pre ts d:List Int} (hd:Byt d) (hc:∀ j,j < (dec ts).length->Ch (xr n kd ps pre ts j)) (hi:InS d (snK (xr n kd ps pre ts) (vh ts) (dec ts).length)):∀ k,k <= (dec ts).length->rst (fa0 n ps) d (rS n kd ps pre) k = (fX n kd ps pre ts k,snK (xr n kd ps pre ts) (vh ts) k)
 | 0,_=>rfl
 | k + 1,hk=>by
  have e2:=(yit hd hc (fun j hj=>ype hj) hi k (by omega)).1
  have hb:(dec ts)[k]? = some (vh ts k):=by unfold vh; rw [List.getElem?_eq_getElem (by omega)]; rfl
  show rnx (fa0 n ps) d (rst (fa0 n ps) d (rS n kd ps pre) k) = _
  rw [ycu hd hc hi k (by omega)]
  show ((fX n kd ps pre ts k).see (fa0 n ps) (j3 d (snK (xr n kd ps pre ts) (vh ts) k) (xr n kd ps pre ts k)),nar (snK (xr n kd ps pre ts) (vh ts) k) (xr n kd ps pre ts k) (j3 d (snK (xr n kd ps pre ts) (vh ts) k) (xr n kd ps pre ts k))) = (fX n kd ps pre ts (k + 1),nar (snK (xr n kd ps pre ts) (vh ts) k) (xr n kd ps pre ts k) (vh ts k))
  rw [<- e2]
  have e3:fX n kd ps pre ts (k + 1) = (fX n kd ps pre ts k).see (fa0 n ps) (vh ts k):=by
   unfold fX
   rw [zz hb]
  rw [e3]
theorem ykn {n:Nat} {kd:Nat->Fin 3} {ps:Nat->List Int} {pre ts d:List Int} (hd:Byt d) (hc:∀ j,j < (dec ts).length->Ch (xr n kd ps pre ts j)) (hi:InS d (snK (xr n kd ps pre ts) (vh ts) (dec ts).length)) (k:Nat) (hk:k < (dec ts).length):xq (fa0 n ps) d (rS n kd ps pre) k = vh ts k:=by
 have e2:=(yit hd hc (fun j hj=>ype hj) hi k hk).1
 unfold xq
 rw [ycu hd hc hi k (by omega)]
 exact e2.symm
theorem j8 (t:Int) (r:List Int) (k:Nat):vh (t :: r) (k + 9) = vh r k:=rfl
theorem yji (t:Int) (r:List Int):∀ i,i < 8->vh (t :: r) (1 + i) = t / wB i % 2:=fun i hi=>by
 rcases i with _ | _ | _ | _ | _ | _ | _ | _ | i
 ·rfl
 ·rfl
 ·rfl
 ·rfl
 ·rfl
 ·rfl
 ·rfl
 ·rfl
 ·omega
theorem jm:∀ (ts:List Int) (j:Nat) (hj:j < ts.length),vh ts (9 * j) = 1/\∀ i,i < 8->vh ts (9 * j + 1 + i) = ts[j] / wB i % 2
 | [],j,hj=>absurd hj (Nat.not_lt_zero j)
 | t :: r,0,_=>⟨rfl,fun i hi=>by rw [show 9 * 0 + 1 + i = 1 + i by omega]; exact yji t r i hi⟩
 | t :: r,j + 1,hj=>by
  obtain ⟨h1,h2⟩:=jm r j (by simpa using hj)
  refine ⟨?_,fun i hi=>?_⟩
  ·rw [show 9 * (j + 1) = 9 * j + 9 by omega,j8]
   exact h1
  ·rw [show 9 * (j + 1) + 1 + i = 9 * j + 1 + i + 9 by omega,j8]
   exact h2 i hi
theorem ycv:∀ ts:List Int,vh ts (9 * ts.length) = 0
 | []=>rfl
 | t :: r=>by
  rw [show 9 * (t :: r).length = 9 * r.length + 9 by rw [List.length_cons]; omega,j8]
  exact ycv r
theorem yh4 (A:FA) (d:List Int) (S:FX × Sn) (c i:Nat):xq A d (rst A d S c) i = xq A d S (c + i):=by
 unfold xq
 rw [yhk]
theorem ylm {n:Nat} {kd:Nat->Fin 3} {ps:Nat->List Int} {pre ts d:List Int} (hts:Sgs ts) (hd:Byt d) (hc:∀ j,j < (dec ts).length->Ch (xr n kd ps pre ts j)) (hl:(tL (snK (xr n kd ps pre ts) (vh ts) (dec ts).length)).length <= d.length) (h:d.take (tL (snK (xr n kd ps pre ts) (vh ts) (dec ts).length)).length = tL (snK (xr n kd ps pre ts) (vh ts) (dec ts).length)) :
  ROk (fa0 n ps) d (rS n kd ps pre) ts.length/\rtx (fa0 n ps) d (rS n kd ps pre) ts.length = ts/\rTL (fa0 n ps) d (rS n kd ps pre) ts.length = (tL (snK (xr n kd ps pre ts) (vh ts) (dec ts).length)).length:=by
 have o1:=(z9 (bt:=vh ts) _ hc).1
 have hi:=yhj hd o1 hl h
 have hdl:=u0 ts
 have e1:rst (fa0 n ps) d (rS n kd ps pre) (9 * ts.length + 1) = (fX n kd ps pre ts (dec ts).length,snK (xr n kd ps pre ts) (vh ts) (dec ts).length):=by
  rw [<- hdl]
  exact ycu hd hc hi _ (Nat.le_refl _)
 have hb:=ykn hd hc hi
 refine ⟨⟨fun j hj=>?_,?_,?_⟩,?_,?_⟩
 ·rw [hb _ (by omega)]
  exact (jm ts j hj).1
 ·rw [hb _ (by omega)]
  exact ycv ts
 ·rw [e1]
  exact h
 ·show (List.range ts.length).map (rsg (fa0 n ps) d (rS n kd ps pre)) = ts
  refine List.ext_getElem (by rw [List.length_map,List.length_range]) fun j h1 h2=>?_
  rw [List.getElem_map,List.getElem_range]
  have hs:=hts ts[j] (List.getElem_mem h2)
  have ht:=(jm ts j h2).2
  have e:∀ i,i < 8->wB i * xq (fa0 n ps) d (rst (fa0 n ps) d (rS n kd ps pre) (9 * j + 1)) i = wB i * (ts[j] / wB i % 2):=fun i hi=>by
   rw [yh4,hb _ (by omega),ht i hi]
  have e2:sgB (fa0 n ps) d (rst (fa0 n ps) d (rS n kd ps pre) (9 * j + 1)) 8 = (List.range 8).map fun i=>wB i * (ts[j] / wB i % 2):=by
   unfold sgB
   exact List.map_congr_left fun i hi=>e i (List.mem_range.mp hi)
  unfold rsg
  rw [e2]
  exact yt7 hs.1 hs.2
 ·unfold rTL
  rw [e1]
theorem ynb:∀ {ts us:List Int},Sgs ts->Sgs us->dec ts = (dec us).take (dec ts).length->ts = us
 | [],[],_,_,_=>rfl
 | [],u :: r,_,_,h=>by
  have h:[(0:Int)] = [1]:=h
  simp at h
 | t :: r,[],_,_,h=>by
  have l1:(dec (t :: r)).length = 9 * (r.length + 1) + 1:=u0 (t :: r)
  have l2:=congrArg List.length h
  rw [List.length_take,l1] at l2
  have l3:(dec ([]:List Int)).length = 1:=rfl
  omega
 | t :: r,u :: r',ht,hu,h=>by
  have l9:∀ s:Int,(1 :: b8 s).length = 9:=fun _=>rfl
  have h:(1 :: b8 t) ++ dec r = ((1 :: b8 u) ++ dec r').take (((1 :: b8 t) ++ dec r).length):=h
  rw [List.length_append,l9,List.take_append,l9,Nat.add_sub_cancel_left,List.take_of_length_le (by rw [l9]; omega)] at h
  obtain ⟨h1,h2⟩:=List.append_inj h (by rw [l9,l9])
  have e1:=yu0 (ht t (by simp)) (hu u (by simp)) (List.cons.inj h1).2
  have e2:=ynb (fun x hx=>ht x (by simp [hx])) (fun x hx=>hu x (by simp [hx])) h2
  rw [e1,e2]
theorem yl8 {n:Nat} {kd:Nat->Fin 3} {ps:Nat->List Int} {pre ts us:List Int} (hts:Sgs ts) (hus:Sgs us) (c1:∀ j,j < (dec ts).length->Ch (xr n kd ps pre ts j)) (c2:∀ j,j < (dec us).length->Ch (xr n kd ps pre us j))
  (h:(tL (snK (xr n kd ps pre ts) (vh ts) (dec ts).length)).take (tL (snK (xr n kd ps pre us) (vh us) (dec us).length)).length = tL (snK (xr n kd ps pre us) (vh us) (dec us).length)):ts = us:=by
 have o1:=(z9 (bt:=vh ts) _ c1).1
 have o2:=(z9 (bt:=vh us) _ c2).1
 have hd:=ymt (snK (xr n kd ps pre ts) (vh ts) (dec ts).length)
 have i1:=yhj hd o1 (Nat.le_refl _) (List.take_length)
 have i2:=yhj hd o2 (by have:=congrArg List.length h; rw [List.length_take] at this; omega) h
 generalize tL (snK (xr n kd ps pre ts) (vh ts) (dec ts).length) = d at hd i1 i2
 have p1:=yit hd c1 (fun j hj=>ype hj) i1
 have p2:=yit hd c2 (fun j hj=>ype hj) i2
 have key:∀ k,k <= (dec ts).length->k <= (dec us).length->(dec ts).take k = (dec us).take k/\snK (xr n kd ps pre ts) (vh ts) k = snK (xr n kd ps pre us) (vh us) k:=by
  intro k
  induction k with
  | zero=>exact fun _ _=>⟨rfl,rfl⟩
  | succ k ih =>
   intro h1 h2
   obtain ⟨e1,e2⟩:=ih (by omega) (by omega)
   have em:xr n kd ps pre ts k = xr n kd ps pre us k:=by
    unfold xr fX
    rw [e1]
   have eb:vh ts k = vh us k:=by rw [(p1 k (by omega)).1,(p2 k (by omega)).1,e2,em]
   refine ⟨?_,?_⟩
   ·have b1:(dec ts)[k]? = some (vh ts k):=by unfold vh; rw [List.getElem?_eq_getElem (by omega)]; rfl
    have b2:(dec us)[k]? = some (vh us k):=by unfold vh; rw [List.getElem?_eq_getElem (by omega)]; rfl
    rw [uj b1,uj b2,e1,eb]
   ·show nar _ _ _ = nar _ _ _
    rw [e2,em,eb]
 rcases Nat.le_total (dec ts).length (dec us).length with hl | hl
 ·obtain ⟨e,_⟩:=key _ (Nat.le_refl _) hl
  rw [List.take_length] at e
  exact ynb hts hus e
 ·obtain ⟨e,_⟩:=key _ hl (Nat.le_refl _)
  rw [List.take_length] at e
  exact (ynb hus hts e.symm).symm
theorem ub {xs ys:List Int} (h1:Byt xs) (h2:Byt ys):Byt (xs ++ ys):=fun b hb=>by
 rcases List.mem_append.mp hb with h | h
 ·exact h1 b h
 ·exact h2 b h
def j4 (n:Nat) (kd:Nat->Fin 3) (ps:Nat->List Int) (pre ts:List Int):List Int:=tL (snK (xr n kd ps pre ts) (vh ts) (dec ts).length)
theorem ynz {n:Nat} {kd:Nat->Fin 3} {ps:Nat->List Int} {pre ts:List Int} (n1:1 <= n) (n6:n <= 6) (hp:yjd pre) (hz:ts.length <= 300):(j4 n kd ps pre ts).length <= 5500:=by
 have hdl:=u0 ts
 obtain ⟨sk1,sk2⟩:=z9 (mx:=xr n kd ps pre ts) (bt:=vh ts) (dec ts).length fun j _=>ycz n1 n6 hp j
 unfold j4
 rw [ymq]
 have:sz (snK (xr n kd ps pre ts) (vh ts) (dec ts).length) <= 5500:=by show Int.toNat _ <= 5500; omega
 omega
theorem yoo {n:Nat} {kd:Nat->Fin 3} {ps:Nat->List Int} {pre ts bs:List Int} (n1:1 <= n) (n6:n <= 6) (hp:yjd pre) (hts:Sgs ts) (hb:Byt bs) :
  ROk (fa0 n ps) (j4 n kd ps pre ts ++ bs) (rS n kd ps pre) ts.length/\rtx (fa0 n ps) (j4 n kd ps pre ts ++ bs) (rS n kd ps pre) ts.length = ts/\rTL (fa0 n ps) (j4 n kd ps pre ts ++ bs) (rS n kd ps pre) ts.length = (j4 n kd ps pre ts).length :=
 ylm hts (ub (ymt _) hb) (fun j _=>ycz n1 n6 hp j) (by rw [List.length_append]; exact Nat.le_add_right _ _) List.take_left
theorem yif (A:FA) (d:List Int) (S:FX × Sn) (j:Nat):(0 <= rsg A d S j/\rsg A d S j <= 255)/\∀ i,i < 8->rsg A d S j / wB i % 2 = xq A d S (9 * j + 1 + i):=by
 have e:rsg A d S j = 128 * xq A d (rst A d S (9 * j + 1)) 0 + (64 * xq A d (rst A d S (9 * j + 1)) 1 + (32 * xq A d (rst A d S (9 * j + 1)) 2 + (16 * xq A d (rst A d S (9 * j + 1)) 3 + (8 * xq A d (rst A d S (9 * j + 1)) 4 + (4 * xq A d (rst A d S (9 * j + 1)) 5 + (2 * xq A d (rst A d S (9 * j + 1)) 6 + (1 * xq A d (rst A d S (9 * j + 1)) 7 + 0))))))):=rfl
 have b:∀ i,0 <= xq A d (rst A d S (9 * j + 1)) i/\xq A d (rst A d S (9 * j + 1)) i <= 1:=fun i=>by
  rcases ymz A d (rst A d S (9 * j + 1)) i with z | z <;> (rw [z]; decide)
 have r:∀ i,xq A d S (9 * j + 1 + i) = xq A d (rst A d S (9 * j + 1)) i:=fun i=>(yh4 A d S (9 * j + 1) i).symm
 generalize rsg A d S j = g at e
 have b0:=b 0
 have b1:=b 1
 have b2:=b 2
 have b3:=b 3
 have b4:=b 4
 have b5:=b 5
 have b6:=b 6
 have b7:=b 7
 refine ⟨by omega,fun i hi=>?_⟩
 rw [r i]
 rcases i with _ | _ | _ | _ | _ | _ | _ | _ | i
 ·show g / 128 % 2 = xq A d (rst A d S (9 * j + 1)) 0
  omega
 ·show g / 64 % 2 = xq A d (rst A d S (9 * j + 1)) 1
  omega
 ·show g / 32 % 2 = xq A d (rst A d S (9 * j + 1)) 2
  omega
 ·show g / 16 % 2 = xq A d (rst A d S (9 * j + 1)) 3
  omega
 ·show g / 8 % 2 = xq A d (rst A d S (9 * j + 1)) 4
  omega
 ·show g / 4 % 2 = xq A d (rst A d S (9 * j + 1)) 5
  omega
 ·show g / 2 % 2 = xq A d (rst A d S (9 * j + 1)) 6
  omega
 ·show g / 1 % 2 = xq A d (rst A d S (9 * j + 1)) 7
  omega
 ·omega
theorem yxl {A:FA} {d:List Int} {S:FX × Sn} {M j:Nat} (h:j < (rtx A d S M).length):(rtx A d S M)[j] = rsg A d S j:=by
 have e:(rtx A d S M)[j]? = some (rsg A d S j):=by
  unfold rtx
  rw [List.getElem?_map,List.getElem?_range (by rw [je] at h; exact h)]
  rfl
 rw [List.getElem?_eq_getElem h] at e
 exact Option.some.inj e
theorem yn7 {A:FA} {d:List Int} {S:FX × Sn} {M:Nat} (b1:∀ j,j < M->xq A d S (9 * j) = 1) (b0:xq A d S (9 * M) = 0) (k:Nat) (hk:k < 9 * M + 1):vh (rtx A d S M) k = xq A d S k:=by
 have hl:=je A d S M
 by_cases z:k = 9 * M
 ·rw [z,b0]
  have e:=ycv (rtx A d S M)
  rw [hl] at e
  exact e
 ·have hj:k / 9 < M:=by omega
  have hj':k / 9 < (rtx A d S M).length:=by rw [hl]; exact hj
  obtain ⟨h1,h2⟩:=jm (rtx A d S M) (k / 9) hj'
  by_cases y:k % 9 = 0
  ·have e:k = 9 * (k / 9):=by omega
   rw [e,h1,b1 _ hj]
  ·obtain ⟨i,hi,ei⟩:∃ i,i < 8/\k = 9 * (k / 9) + 1 + i:=⟨k % 9 - 1,by omega,by omega⟩
   have h3:=h2 i hi
   rw [yxl hj',(yif A d S (k / 9)).2 i hi,<- ei] at h3
   exact h3
theorem ymd (A:FA) (d:List Int) (S:FX × Sn) (M:Nat):Sgs (rtx A d S M):=fun x hx=>by
 obtain ⟨j,_,rfl⟩:=List.mem_map.mp hx
 exact (yif A d S j).1
theorem yl1 {n:Nat} {kd:Nat->Fin 3} {ps:Nat->List Int} {pre us d:List Int} (hb:∀ k,k < (dec us).length->vh us k = xq (fa0 n ps) d (rS n kd ps pre) k):∀ k,k <= (dec us).length->rst (fa0 n ps) d (rS n kd ps pre) k = (fX n kd ps pre us k,snK (xr n kd ps pre us) (vh us) k)
 | 0,_=>rfl
 | k + 1,hk=>by
  have ih:=yl1 hb k (by omega)
  have e2:vh us k = j3 d (snK (xr n kd ps pre us) (vh us) k) (xr n kd ps pre us k):=by
   rw [hb k (by omega)]
   show j3 d (rst (fa0 n ps) d (rS n kd ps pre) k).2 (chX (fa0 n ps) (rst (fa0 n ps) d (rS n kd ps pre) k).1) = _
   rw [ih]
   rfl
  have hk':(dec us)[k]? = some (vh us k):=by unfold vh; rw [List.getElem?_eq_getElem (by omega)]; rfl
  show rnx (fa0 n ps) d (rst (fa0 n ps) d (rS n kd ps pre) k) = _
  rw [ih]
  show ((fX n kd ps pre us k).see (fa0 n ps) (j3 d (snK (xr n kd ps pre us) (vh us) k) (xr n kd ps pre us k)),nar (snK (xr n kd ps pre us) (vh us) k) (xr n kd ps pre us k) (j3 d (snK (xr n kd ps pre us) (vh us) k) (xr n kd ps pre us k))) = (fX n kd ps pre us (k + 1),nar (snK (xr n kd ps pre us) (vh us) k) (xr n kd ps pre us k) (vh us k))
  rw [<- e2]
  have e3:fX n kd ps pre us (k + 1) = (fX n kd ps pre us k).see (fa0 n ps) (vh us k):=by
   unfold fX
   rw [zz hk']
  rw [e3]
theorem yfw {n:Nat} {kd:Nat->Fin 3} {ps:Nat->List Int} {pre d:List Int} {M:Nat} (h:ROk (fa0 n ps) d (rS n kd ps pre) M) :
  j4 n kd ps pre (rtx (fa0 n ps) d (rS n kd ps pre) M) = d.take (rTL (fa0 n ps) d (rS n kd ps pre) M)/\(j4 n kd ps pre (rtx (fa0 n ps) d (rS n kd ps pre) M)).length = rTL (fa0 n ps) d (rS n kd ps pre) M:=by
 have hdl:=u0 (rtx (fa0 n ps) d (rS n kd ps pre) M)
 rw [je] at hdl
 have e:=yl1 (n:=n) (kd:=kd) (ps:=ps) (pre:=pre) (us:=rtx (fa0 n ps) d (rS n kd ps pre) M) (d:=d) (fun k hk=>yn7 h.b1 h.b0 k (by omega)) _ (Nat.le_refl _)
 have e2:j4 n kd ps pre (rtx (fa0 n ps) d (rS n kd ps pre) M) = tL (rst (fa0 n ps) d (rS n kd ps pre) (9 * M + 1)).2:=by
  rw [<- hdl,e]
  rfl
 rw [e2]
 exact ⟨h.tk.symm,rfl⟩
theorem yzz {x:Sn} {c b:Int} (h:Ok x) (hc:Ch c):(nar x c b).2.1 < 1099511627776:=by
 obtain ⟨a1,a2,a3⟩:=yf7 h.w0 h.w1 hc
 have h1:=h.w1
 unfold nar ren
 (repeat' split) <;> (dsimp only at *; omega)
theorem yoz {n:Nat} {kd:Nat->Fin 3} {ps:Nat->List Int} {pre ts:List Int} (n1:1 <= n) (n6:n <= 6) (hp:yjd pre):1 <= (j4 n kd ps pre ts).length:=by
 have hdl:=u0 ts
 obtain ⟨m,hm⟩:∃ m,(dec ts).length = m + 1:=⟨9 * ts.length,by omega⟩
 unfold j4
 rw [ymq,hm]
 have hc:∀ j,j < m + 1->Ch (xr n kd ps pre ts j):=fun j _=>ycz n1 n6 hp j
 have o1:=(z9 (bt:=vh ts) m fun j hj=>hc j (by omega)).1
 have o2:=(z9 (bt:=vh ts) (m + 1) hc).1
 have hw:(snK (xr n kd ps pre ts) (vh ts) (m + 1)).2.1 < 1099511627776:=yzz (x:=snK (xr n kd ps pre ts) (vh ts) m) (b:=vh ts m) o1.ok (hc m (by omega))
 have hk:=ymb (yc3 o2.ok)
 have h5:=o2.sz5
 have h4:pw (tK (snK (xr n kd ps pre ts) (vh ts) (m + 1))) < pw 5:=by rw [pw5]; omega
 have:=yy4 h4
 omega
theorem ym0:yn ["looks","data","most","learned","foreteller","row"] ["looks","data","most","learned"] (ya ydb):=⟨rfl,rfl,rfl,by decide +kernel,rfl,by decide +kernel,by decide +kernel⟩
def ylx (K:W.Frag) (a:Ads):Sp:=fun vs H Q E=>∃ (L dt:Addr) (lx:V) (n:Nat) (lk:Nat->Addr) (kd:Nat->Fin 3) (tp:Nat->Addr) (ps:Nat->List Int) (d:List Int) (mo N w:Nat) (lt:Nat->Addr) (tt:Nat->List Int),vs = [.ref L,.ref dt,.int mo,lx]/\yze H L dt lx n lk kd tp ps d mo N w lt tt /\
 (∀ (M:Nat) (t r:Addr) (H':Hp),M <= mo->ROk (fa0 n ps) d (rS n kd ps (wz tt N)) M->H t = none->H r = none->H' t = some (.tup [.ref r,.int (rTL (fa0 n ps) d (rS n kd ps (wz tt N)) M)])->H' r = some (.lst ((rtx (fa0 n ps) d (rS n kd ps (wz tt N)) M).map V.int))->vm H H'->Q (.ref t) H') /\
 ((∀ M,M <= mo->¬ ROk (fa0 n ps) d (rS n kd ps (wz tt N)) M)->∀ H',vm H H'->E (.ref a.C_NP) none H')
theorem yqw (T:Txt K mg a):we P w K mg base (CXe P w) 11 a.f_q63 a.d_q63 ["looks","data","most","learned"] (ylx K a):=by
 refine T.F_q63.okE ym0 (fun vs H Q E h=>?_) (fun cdv A outer s H vs Q E hr h=>?_)
 ·obtain ⟨L,dt,lx,n,lk,kd,tp,ps,d,mo,N,w,lt,tt,rfl,_⟩:=h
  rfl
 ·obtain ⟨L,dt,lx,n,lk,kd,tp,ps,d,mo,N,w,lt,tt,rfl,hI,kQ,kE⟩:=h
  have hb1:=hI.b
  have n1:=hI.n1
  have n6:=hI.n6
  have hmo:=yxj hI.mo1
  refine yq (vd (i:=4) ym0.nd rfl (Or.inl rfl) (ycq T.k_Ft (yp5 T) (hr.mono (by decide)) rfl T.m_Ft T.B_q36 .nil v8 (yb (pv 0) yg (yc rfl)))) ?_
  refine yq (vd (i:=5) ym0.nd rfl (Or.inl rfl) (vv (yy6 T) (hr.mono (by decide)) rfl T.m_q7 T.F_q7.kp T.B_q7 .nil v8 (yb (pv 1) yg (yc rfl)))) ?_
  refine yq (vj (vv (vaa T) (hr.mono (by decide)) rfl T.m_q8 T.F_q8.kp T.B_q8 .nil v8 (yb (pv 2) yg (yc rfl)))) ?_
  refine yq (vj (yz (yqu T) (hr.mono (by decide)) rfl T.m_q56 T.F_q56.kp T.B_q56 .nil vf (yb (pv 4) (yb (yz (yqo T) (hr.mono (by decide)) rfl T.m_q55 T.F_q55.kp T.B_q55 .nil vf (yb (pv 3) yg (yc rfl))) yg (yc rfl)) (yc rfl)))) ?_
  refine ⟨_,(yi (yv (vv (yvk T) (hr.mono (by decide)) rfl T.m_q62 T.F_q62.kp T.B_q62 .nil v8 (yb (pv 4) (yb (pv 5) (yb (pv 2) yg (yc rfl)) (yc rfl)) (yc rfl))))),?_⟩
  try dsimp only [wc]
  refine yo (σ':=[some _,some _,some _,some _,none,none]) rfl ?_
  walk_at "rd"
  intro p dp np ndp nep
  have S0:vm H (upd (upd H dp (.own p)) p (.ins a.C_Ft dp [])):=fun b o e=>by rw [yu (ye e np),yu (ye e ndp)]; exact e
  refine ⟨p,dp,.ref L,rfl,yd,.inr ⟨L,n,lk,kd,tp,ps,rfl,S0 _ _ hI.l,n1,n6,hI.r.same S0,fun A f O H1 N1 B1=>⟨rfl,?_⟩⟩⟩
  obtain ⟨hft,rfl,rfl,rfl,rfl,oO,oB,oM,oL⟩:=N1
  have S1:vm H H1:=fun b o e=>B1 b o (S0 b o e) (ye e np)
  have fresh:∀ {c:Addr},upd (upd H dp (.own p)) p (.ins a.C_Ft dp []) c = none->H c = none:=fun h=>S0.free h
  have hel0:H A.el = none:=fresh (oL A.el (.inr (.inl rfl)))
  walk_at "rd"
  refine ⟨.ref dt,_,rfl,.lst (S1 _ _ hI.dat),.inr ⟨d.map V.int,yil (S1 _ _ hI.dat) hI.by' hI.dl,fun rw H2 hrw0 hrw2 S2=>?_⟩⟩
  have S12:=S1.trans S2
  have hft2:=hft.same S2
  have nrw:rw ≠ A.el:=(ye hft.el hrw0).symm
  walk_at "rd"
  refine ⟨.int mo,_,rfl,.int _,fun _=>?_,fun z=>(by rw [hmo] at z; cases z)⟩
  walk_at "rd"
  refine yfu (hI.lr.same S12) hI.w1 hI.N1 fun cl0 cx H3 h0 h3 hx S3=>?_
  walk_at "rd"
  refine ⟨p,A,FX0 A.n A.kd,f,O,6,cl0,N,w,cx,tt,rfl,hft2.same S3,rfl,rfl,h3,(ye hft2.el h0).symm,fun i hi=>⟨⟨(hx i hi).2,(hI.lr.2 i hi).s,(hI.lr.2 i hi).z⟩,(ye hft2.el (hx i hi).1).symm⟩,hI.w1,by omega,fun ml el pl sl f1 O1 m1 H4 hF4 hm4 go4 sg4 nd4=>?_⟩
  have go4:=FGo.ahead S3 go4
  have kp4:=go4.kpa hft2
  have hrw4:=kp4 _ _ hrw2 rfl nrw
  have eX:(FX0 A.n A.kd).run A (wz tt N) = (FX0 A.n A.kd).run (fa0 A.n A.ps) (wz tt N):=yc4 A _ _
  rw [eX] at hF4 sg4 nd4
  have eS:(((FX0 A.n A.kd).run (fa0 A.n A.ps) (wz tt N),s0):FX × Sn) = rS A.n A.kd A.ps (wz tt N):=rfl
  generalize (FX0 A.n A.kd).run (fa0 A.n A.ps) (wz tt N) = XX at hF4 sg4 nd4 eS
  have fin:∀ {el2:Addr} {O2:Nat->Addr->Prop} {H5:Hp},FGo p (A.re ml el pl sl) O1 H4 H5 el2 O2->vm H H5:=fun go5 c o e=>by
   have go:=go4.trans go5
   refine go.fr c o (S12 _ _ e) (fun z=>?_) (fun z=>?_) (fun z=>?_) (fun i hi w'=>?_)
   ·rw [z,np] at e
    cases e
   ·rw [z,fresh oM] at e
    cases e
   ·rw [z,hel0] at e
    cases e
   ·rw [fresh (oO i c hi w')] at e
    cases e
  walk_at "rd"
  refine ⟨p,A.re ml el pl sl,XX,f1,O1,m1,rw,d,mo,rfl,hF4,hrw4.2,hrw4.1,hI.by',hI.dl,hI.mo1,by omega,by rw [nd4]; decide,by rw [sg4]; exact Nat.zero_le _,fun M t r el2 O2 H5 hM hok ht0 hr0 ht hr go5=>?_,fun hno el2 O2 H5 go5=>?_⟩
  ·rw [yte,eS] at ht
   rw [yry,eS] at hr
   rw [ROk.fa0,eS] at hok
   exact kQ M t r H5 hM hok (S12.free (go4.free ht0)) (S12.free (go4.free hr0)) ht hr (fin go5)
  ·refine kE (fun M hM hok=>hno M hM ?_) H5 (fin go5)
   rw [ROk.fa0,eS]
   exact hok
theorem yqv:yn ["looks","data","most","learned","first"] ["looks","data","most","learned"] (ya yex):=⟨rfl,rfl,rfl,by decide +kernel,rfl,by decide +kernel,by decide +kernel⟩
def ysa (K:W.Frag) (a:Ads):Sp:=fun vs H Q E=>∃ (L dt:Addr) (lx:V) (n:Nat) (lk:Nat->Addr) (kd:Nat->Fin 3) (tp:Nat->Addr) (ps:Nat->List Int) (d:List Int) (mo N w:Nat) (lt:Nat->Addr) (tt:Nat->List Int),vs = [.ref L,.ref dt,.int mo,lx]/\yze H L dt lx n lk kd tp ps d mo N w lt tt /\
 (∀ (M:Nat) (r:Addr) (H':Hp),M <= mo->ROk (fa0 n ps) d (rS n kd ps (wz tt N)) M->rTL (fa0 n ps) d (rS n kd ps (wz tt N)) M = d.length->H r = none->H' r = some (.lst ((rtx (fa0 n ps) d (rS n kd ps (wz tt N)) M).map V.int))->vm H H'->Q (.ref r) H') /\
 ((∀ M,M <= mo->ROk (fa0 n ps) d (rS n kd ps (wz tt N)) M->rTL (fa0 n ps) d (rS n kd ps (wz tt N)) M ≠ d.length)->∀ H',vm H H'->E (.ref a.C_NP) none H')
theorem ROk.le {A:FA} {d:List Int} {S:FX × Sn} {N:Nat} (h:ROk A d S N):rTL A d S N <= d.length:=by
 have e:=congrArg List.length h.tk
 rw [List.length_take] at e
 unfold rTL
 omega
theorem yx0 (T:Txt K mg a):we P w K mg base (CXe P w) 12 a.f_q64 a.d_q64 ["looks","data","most","learned"] (ysa K a):=by
 refine T.F_q64.okE yqv (fun vs H Q E h=>?_) (fun cdv A outer s H vs Q E hr h=>?_)
 ·obtain ⟨L,dt,lx,n,lk,kd,tp,ps,d,mo,N,w,lt,tt,rfl,_⟩:=h
  rfl
 ·obtain ⟨L,dt,lx,n,lk,kd,tp,ps,d,mo,N,w,lt,tt,rfl,hI,kQ,kE⟩:=h
  refine yq (vd (i:=4) yqv.nd rfl (Or.inl rfl) (vv (yqw T) (hr.mono (by decide)) rfl T.m_q63 T.F_q63.kp T.B_q63 .nil v8 (yb (pv 0) (yb (pv 1) (yb (pv 2) (yb (pv 3) yg (yc rfl)) (yc rfl)) (yc rfl)) (yc rfl)))) ?_
  refine yq (wd (y7 ygg (x5 zn (pv 4) yj (fun _ _=>rfl)) (yr yw rfl T.z_len (by decide +kernel) (yb (pv 1) yg (yc rfl))) (vg _)) (yi (xp rfl T.m_NP T.r_NP (yb xy yg (yc rfl)))) ve) ?_
  refine ⟨_,(yi (yv (x5 zn (pv 4) yj (fun _ _=>rfl)))),?_⟩
  try dsimp only [wc]
  refine yo (σ':=[some _,some _,some _,some _,none]) rfl ?_
  walk_at "rd"
  refine ⟨L,dt,lx,n,lk,kd,tp,ps,d,mo,N,w,lt,tt,rfl,hI,fun M t r H1 hM hok ht0 hr0 ht1 hr1 S1=>?_,fun hno H1 S1=>kE (fun M hM hok=>absurd hok (hno M hM)) H1 S1⟩
  have hle:=hok.le
  have hun:∀ M',ROk (fa0 n ps) d (rS n kd ps (wz tt N)) M'->M' = M:=fun M' h'=>hok.uniq h'.b1 h'.b0
  generalize hTL:rTL (fa0 n ps) d (rS n kd ps (wz tt N)) M = tl at ht1 hle
  walk_at "rd"
  refine z6 (SqT.of ht1) (vz (j:=1) rfl) ?_
  walk_at "rd"
  refine x3 (SqL.of (S1 _ _ hI.dat)) ?_
  rw [List.length_map]
  walk_at "rd"
  refine uw (fun hc=>?_) (fun hc=>?_)
  ·walk_at "rd"
   exact ⟨by walk_at "len",kE (fun M' _ h'=>by rw [hun M' h',hTL]; omega) H1 S1⟩
  ·walk_at "rd"
   refine z6 (SqT.of ht1) (vz (j:=0) rfl) ?_
   exact kQ M r H1 hM hok (by rw [hTL]; omega) hr0 hr1 S1
theorem ym7:yn ["_law_script","_law_k","_law_cell"] ["_law_script","_law_k"] (ya yd4):=⟨rfl,rfl,rfl,by decide +kernel,rfl,by decide +kernel,by decide +kernel⟩
def yx9 (K:W.Frag):Sp:=fun vs H Q _=>∃ (l:Addr) (ns:List Int) (j:Nat),vs = [.ref l,.int j]/\SqL K H l (ns.map V.int)/\j <= 1000/\∀ n:Int,0 <= n->n < 2147483647->Q (.int n) H
theorem ybv (T:Txt K mg a):we P w K mg base CX0 1 a.f_q65 a.d_q65 ["_law_script","_law_k"] (yx9 K):=by
 refine T.F_q65.ok ym7 (fun vs H Q E h=>?_) (fun cdv A outer s H vs Q E hr h=>?_)
 ·obtain ⟨l,ns,j,rfl,_⟩:=h
  rfl
 ·obtain ⟨l,ns,j,rfl,hl,hj,k⟩:=h
  refine ⟨_,(yk (vd (i:=2) ym7.nd rfl (Or.inl rfl) yj) (yk (yf8 (wd (y7 ygg (pv 1) (yr yw rfl T.z_len (by decide +kernel) (yb (pv 0) yg (yc rfl))) (vg _)) (yi (vd (i:=2) ym7.nd rfl (Or.inl rfl) (ym vt (x5 xm (pv 0) (pv 1) (fun _ _=>rfl)) yj))) ve)) (yi (yv (ym vt (ym wk (ym vw (ym vw (ym vw (ym wk (pv 2) (pv 2)) (ym wk yj (pv 2))) (ym wk (ym wk yj (pv 1)) (pv 1))) yj) yj) yj))))),?_⟩
  try dsimp only [wc]
  refine yo (σ':=[some _,some _,none]) rfl ?_
  walk_at "rd"
  refine yni (fun σ' G=>H = G/\∃ c:Int,σ' = [some (.ref l),some (.int j),some (.int c)]/\0 <= c/\c < 2147483629) ?_ ?_
  ·walk_at "rd"
   refine x3 hl ?_
   rw [List.length_map]
   walk_at "rd"
   refine uw (fun hb=>?_) (fun hb=>?_)
   ·have hj':j < ns.length:=by omega
    walk_at "rd"
    refine yae (v:=V.int ns[j]) hl (vz (by rw [List.getElem?_map,List.getElem?_eq_getElem hj']; rfl)) ?_
    walk_at "rd"
    exact ⟨rfl,_,rfl,Int.emod_nonneg _ (by decide),Int.emod_lt_of_pos _ (by decide)⟩
   ·walk_at "rd"
    exact ⟨rfl,0,rfl,by decide,by decide⟩
  ·rintro σ' G ⟨rfl,c,rfl,c0,c1⟩
   have j0:(0:Int) <= (j:Int)/\(j:Int) <= 1000:=by omega
   have j2:(0:Int) <= 5 * (j:Int)/\5 * (j:Int) <= 5000:=by omega
   walk_at "rd"
   exact k _ (Int.emod_nonneg _ (by decide)) (Int.emod_lt_of_pos _ (by decide))
theorem yai:yn ["_law_cell","_law_most","_law_many","_law_looks_here","_law_k","_law_marks","_law_places"] ["_law_cell","_law_most"] (ya yds):=⟨rfl,rfl,rfl,by decide +kernel,rfl,by decide +kernel,by decide +kernel⟩
def yow:Sp:=fun vs H Q _=>∃ (c:Int) (m:Nat),vs = [.int c,.int m]/\0 <= c/\c < 2147483647/\1 <= m/\m <= 6/\∀ r (n:Nat) (lk:Nat->Addr) (kd:Nat->Fin 3) (tp:Nat->Addr) (ps:Nat->List Int) H',H r = none->H' r = some (.lst (xl lk n))->1 <= n->n <= 6->ybg H' n lk kd tp ps->vm H H'->Q (.ref r) H'
theorem yv3 (T:Txt K mg a):we P w K mg base CX0 1 a.f_q66 a.d_q66 ["_law_cell","_law_most"] yow:=by
 refine T.F_q66.ok yai (fun vs H Q E h=>?_) (fun cdv A outer s H vs Q E hr h=>?_)
 ·obtain ⟨c,m,rfl,_⟩:=h
  rfl
 ·obtain ⟨c,m,rfl,c0,c1,m1,m6,k⟩:=h
  have mp:(0:Int) < (m:Int):=by omega
  refine ⟨_,(yk (vd (i:=2) yai.nd rfl (Or.inl rfl) (ym vw yj (ym vt (pv 0) (pv 1)))) (yk (vd (i:=3) yai.nd rfl (Or.inl rfl) (wx yg)) (yk (z8 PassesOwn.never rfl (zg rfl T.z_range (yb (pv 2) yg (yc rfl))) (w6 (i:=4) yai.nd rfl (Or.inl rfl)) (yk (vd (i:=0) yai.nd rfl (Or.inl rfl) (ym vt (ym vw (ym vw (ym wk (pv 0) yj) (ym wk yj (pv 4))) yj) yj)) (yk (vd (i:=5) yai.nd rfl (Or.inr rfl) (ym yq3 (ym vt (ym vk (pv 0) yj) yj) (ym vt (ym vk (pv 0) yj) yj))) (yk (yf8 (wd (y7 x4 (ym vt (ym vk (pv 0) yj) yj) yj (vg _)) (yi (vd (i:=5) yai.nd rfl (Or.inr rfl) (ym vt (ym vk (pv 0) yj) yj))) ve)) (yk (ynu (i:=6) (js:=[5]) (ys:=["_law_marks"]) yai.nd rfl rfl rfl (yk1 rfl T.z_range (yb yj (yb yj yg (yc rfl)) (yc rfl))) (fun C s2 H2 fp=>(y7 x4 (ym yq3 (ym yqd (pv 1) (ym ue (pv 0) yj)) yj) yj (vg _))) (fun C s2 H2 fp=>(pv 0)) rfl rfl (hyc:=(all_cons rfl v9)) (hrel:=(all_cons rfl v9))) (yi (vj (yen PySem.F.plainAttrs_list PySem.F.slot_list_append PySem.F.type_list_append wo (pv 3) (yb (yi0 (yb (x5 xm (wx (yb xy (yb xy (yb xy yg (yc rfl)) (yc rfl)) (yc rfl))) (ym vt (pv 0) yj) (fun _ _=>rfl)) (yb (x8 ji rfl T.z_tuple (by decide +kernel) (yb (xo u3 (pv 6) uh (ug yj)) yg (yc rfl))) yg (yc rfl)) (yc rfl))) yg (yc rfl)))))))))) (yi (yv (pv 3)))))),?_⟩
  try dsimp only [wc]
  refine yo (σ':=[some _,some _,none,none,none,none,none]) rfl ?_
  walk_at "rd"
  obtain ⟨n,hn,n1,n6⟩:∃ n:Nat,1 + c % (m:Int) = (n:Int)/\1 <= n/\n <= 6:=by
   have h0:=Int.emod_nonneg c (show (m:Int) ≠ 0 by omega)
   have h1:=Int.emod_lt_of_pos c mp
   exact ⟨(1 + c % (m:Int)).toNat,by omega,by omega,by omega⟩
  rw [hn]
  refine ⟨by walk_at "len",fun L hL0=>?_⟩
  with_reducible first | refine yy hL0 fun H1 S1 hL1=>?_ | refine new_obj hL0 fun H1 S1 hL1=>?_
  walk_at "rd"
  refine ⟨_,rfl,by omega,by omega,jn (n:=n) (fun i σ2 G=>∃ (c:Int) (v1 v2 v3:Option V) (lk:Nat->Addr) (kd:Nat->Fin 3) (tp:Nat->Addr) (ps:Nat->List Int),σ2 = [some (.int c),some (.int m),some (.int n),some (.ref L),v1,v2,v3]/\0 <= c/\c < 2147483647/\G L = some (.lst (xl lk i))/\ybg G i lk kd tp ps/\vm H G)
   ⟨c,_,_,_,fun _=>0,fun _=>0,fun _=>0,fun _=>[],rfl,c0,c1,hL1,fun j hj=>absurd hj (Nat.not_lt_zero j),S1⟩ ?_ ?_⟩
  ·clear hn c0 c1 c
   rintro i σ2 G hi ⟨c,v1,v2,v3,lk,kd,tp,ps,rfl,c0,c1,gL,gR,SG⟩
   walk_at "rd"
   have d0:0 <= (c * 48271 + 11 * (0 + (i:Int)) + 7) % 2147483647:=Int.emod_nonneg _ (by decide)
   have d1:(c * 48271 + 11 * (0 + (i:Int)) + 7) % 2147483647 < 2147483647:=Int.emod_lt_of_pos _ (by decide)
   generalize (c * 48271 + 11 * (0 + (i:Int)) + 7) % 2147483647 = d at d0 d1 ⊢
   refine yni (fun σ' G'=>G = G'/\∃ mk:Int,σ' = [some (.int d),some (.int m),some (.int n),some (.ref L),some (.int (0 + (i:Int))),some (.int mk),v3]) ?_ ?_
   ·walk_at "rd"
    refine uw (fun hb=>?_) (fun hb=>?_)
    ·walk_at "rd"
     exact ⟨rfl,_,rfl⟩
    ·walk_at "rd"
     exact ⟨rfl,_,rfl⟩
   rintro σ' G' ⟨rfl,mk,rfl⟩
   walk_at "rd"
   refine ⟨1,9,rfl,⟨by decide,by decide,by decide,by decide⟩,fun D hD=>?_⟩
   refine ygz (lo:=1) (n:=8) (fun j G'=>∃ qs:List Int,G' D = some (.lst (qs.map V.int))/\(∀ p ∈ qs,1 <= p/\p <= (j:Int))/\qs.Pairwise (· < ·)/\qs.length <= j/\vm G G') ⟨[],yd,fun _ z=>(nomatch z),List.Pairwise.nil,Nat.le_refl _,vn hD⟩ (fun j G' hj z=>?_) (fun G3 z=>?_)
   ·obtain ⟨qs,h1,h2,h3,h4,S⟩:=z
    walk_at "rd"
    refine i_I (by omega) ?_
    walk_at "rd"
    refine uw (fun hb=>?_) (fun hb=>?_)
    ·walk_at "rd"
     refine xu (n:=8) h1 (v7 (by rw [List.length_map]; omega)) hj ?_
     refine ⟨qs ++ [1 + (j:Int)],by rw [yd,List.map_append]; rfl,fun p hp=>?_,?_,by rw [List.length_append]; show _ + 1 <= _; omega,fun b o e=>yp (ye e hD) (S b o e)⟩
     ·rcases List.mem_append.mp hp with h | h
      ·have:=h2 p h
       omega
      ·rw [List.mem_singleton.mp h]
       omega
     ·refine List.pairwise_append.mpr ⟨h3,List.pairwise_singleton _ _,fun x hx y hy=>?_⟩
      rw [List.mem_singleton.mp hy]
      have:=h2 x hx
      omega
    ·exact yll (n:=8) hj ⟨qs,h1,fun p hp=>by have:=h2 p hp; omega,h3,by omega,S⟩
   obtain ⟨qs,hq3,hp,hw,_,S3⟩:=z
   have gL3:=S3 _ _ gL
   walk_at "rd"
   refine ybj gL3 ?_
   walk_at "rd"
   refine ⟨by walk_at "len",fun q2 hq2=>?_⟩
   with_reducible first | refine yy hq2 fun G4 T4 hq4=>?_ | refine new_obj hq2 fun G4 T4 hq4=>?_
   walk_at "rd"
   obtain ⟨kk,hk⟩:=yss d
   refine yae (SqL.of hq4) hk ?_
   walk_at "rd"
   refine ybl (SqL.of (T4 _ _ hq3)) fun u hu=>?_
   have ec:ye0 (qs.map V.int) none (some 4) = (qs.take 4).map V.int:=by rw [List.map_take]; exact z0 4
   rw [ec]
   with_reducible first | refine yy hu fun G5 T5 hu5=>?_ | refine new_obj hu fun G5 T5 hu5=>?_
   refine ⟨u,_,rfl,.inl ⟨SqL.of hu5,fun tp' htp=>?_⟩⟩
   with_reducible first | refine yy htp fun G6 T6 htp6=>?_ | refine new_obj htp fun G6 T6 htp6=>?_
   walk_at "rd"
   refine ⟨by walk_at "len",fun t ht=>?_⟩
   with_reducible first | refine yy ht fun G7 T7 ht7=>?_ | refine new_obj ht fun G7 T7 ht7=>?_
   have T37:=T4.trans (T5.trans (T6.trans T7))
   have gL7:=T37 _ _ gL3
   have S07:=S3.trans T37
   walk_at "rd"
   refine uc gL7 (v7 (by rw [wj]; omega)) ?_
   have g7:LkG G7 (.ref t) kk tp' (qs.take 4):=⟨t,rfl,ht7,T7 _ _ htp6,ylb (by rw [List.length_take]; omega) (fun p h=>hp p (List.mem_of_mem_take h)) hw.take⟩
   walk_at "rd"
   refine ⟨d,_,_,_,upN lk i t,upN kd i kk,upN tp i tp',upN ps i (qs.take 4),rfl,d0,d1,?_,fun j hj=>?_,fun b o e=>yp (ye e hL0) (S07 _ _ (SG b o e))⟩
   ·rw [yd,zh,wv]
    congr 3
    exact ul fun j hj=>(wq hj).symm
   ·by_cases z:j = i
    ·subst z
     rw [wv,wv,wv,wv]
     exact g7.upd gL7
    ·have hji:j < i:=by omega
     rw [wq hji,wq hji,wq hji,wq hji]
     exact ((gR j hji).same S07).upd gL7
  ·rintro σ2 G ⟨c,v1,v2,v3,lk,kd,tp,ps,rfl,c0,c1,gL,gR,SG⟩
   walk_at "rd"
   exact k L n lk kd tp ps G hL0 gL n1 n6 gR SG
theorem ymu:yn ["_law_cells","_law_size","_law_way","_law_signs","_law_k"] ["_law_cells","_law_size","_law_way"] (ya yev):=⟨rfl,rfl,rfl,by decide +kernel,rfl,by decide +kernel,by decide +kernel⟩
def you (K:W.Frag):Sp:=fun vs H Q _=>∃ (l:Addr) (ns:List Int) (z:Nat) (w:Int),vs = [.ref l,.int z,.int w]/\H l = some (.lst (ns.map V.int))/\ns.length <= 63/\z <= 50/\∀ r (ts:List Int) H',H r = none->H' r = some (.lst (ts.map V.int))->Sgs ts->ts.length = z->vm H H'->Q (.ref r) H'
theorem yre (T:Txt K mg a):we P w K mg base CX0 1 a.f_q67 a.d_q67 ["_law_cells","_law_size","_law_way"] (you K):=by
 refine T.F_q67.ok ymu (fun vs H Q E h=>?_) (fun cdv A outer s H vs Q E hr h=>?_)
 ·obtain ⟨l,ns,z,w,rfl,_⟩:=h
  rfl
 ·obtain ⟨l,ns,z,w,rfl,hl,hlen,hz,k⟩:=h
  refine ⟨_,(yk (vd (i:=3) ymu.nd rfl (Or.inr rfl) (ym yjb (wx (yb yj yg (yc rfl))) (pv 1))) (yk (wd (y7 x4 (pv 1) yj (vg _)) (yi (yv (pv 3))) ve) (yk (z8 PassesOwn.never rfl (zg rfl T.z_range (yb (yr yw rfl T.z_len (by decide +kernel) (yb (pv 0) yg (yc rfl))) yg (yc rfl))) (w6 (i:=4) ymu.nd rfl (Or.inl rfl)) (yi (yww (ym vt (ym vw (ym vw (ym wk (x5 xm (pv 3) (ym vt (pv 4) (pv 1)) (fun _ _=>rfl)) yj) (ym vt (x5 xm (pv 0) (pv 4) (fun _ _=>rfl)) yj)) (pv 4)) yj) (yxs (pv 3) (ym vt (pv 4) (pv 1)) yob)))) (yk (wd (y7 x4 (ym vt (pv 2) yj) yj (vg _)) (yi (yv (ym yjb (wx (yb (x5 xm (pv 3) yj (fun _ _=>rfl)) yg (yc rfl))) (pv 1)))) ve) (yk (wd (y7 x4 (ym vt (pv 2) yj) yj (vg _)) (yi (yv (uz (js:=[2,3]) (ys:=["_law_way","_law_signs"]) rfl (wt (pv 3)) (fun C s2 H2 fp=>(x5 (r:=yui K) xm (wx (yb (x5 (r:=yui K) xm (pv 2) yj (fun _ _=>rfl)) (yb (ym vt (ym vk (pv 1) yj) yj) yg (yc rfl)) (yc rfl))) (ym vt (pv 0) yj) (fun _ _=>rfl))) rfl rfl (hyc:=(all_cons rfl (all_cons rfl v9))) (hrel:=(all_cons rfl (all_cons rfl v9)))))) ve) (yk (wd (y7 x4 (ym vt (pv 2) yj) yj (vg _)) (yi (yv (u4 rfl (wt (pv 3)) (fun C s2 H2 fp=>(x5 (r:=yui K) xm (wx (yb yj (yb yj (yb yj (yb yj yg (yc rfl)) (yc rfl)) (yc rfl)) (yc rfl))) (ym vt (pv 0) yj) (fun _ _=>rfl)))))) ve) (yi (yv (pv 3))))))))),?_⟩
  try dsimp only [wc]
  refine yo (σ':=[some _,some _,some _,none,none]) rfl ?_
  walk_at "rd"
  refine ⟨by walk_at "len",fun u hu=>?_⟩
  with_reducible first | refine yy hu fun H1 S1 hu1=>?_ | refine new_obj hu fun H1 S1 hu1=>?_
  walk_at "rd"
  refine ⟨u,z,_,rfl,rfl,hu1,by omega,by omega,xx (by show 1 * (z:Int).toNat <= 16000000; omega),fun g hg0=>?_⟩
  rw [jk]
  with_reducible first | refine yy hg0 fun H2 S2 hg2=>?_ | refine new_obj hg0 fun H2 S2 hg2=>?_
  have ez:((z:Nat):Int).toNat = z:=by omega
  rw [ez] at hg2
  have S12:=S1.trans S2
  have hg00:H g = none:=S1.free hg0
  walk_at "rd"
  refine uw (fun hb=>?_) (fun hb=>?_)
  ·walk_at "rd"
   refine k g _ _ hg00 hg2 (fun x hx=>?_) List.length_replicate S12
   rw [List.eq_of_mem_replicate hx]
   exact ⟨by decide,by decide⟩
  ·have zp:(0:Int) < (z:Int):=by omega
   walk_at "rd"
   refine x3 (SqL.of (S12 _ _ hl)) ?_
   rw [List.length_map]
   walk_at "rd"
   refine ⟨_,rfl,by omega,by omega,jn (n:=ns.length) (fun i σ2 G=>∃ (v:Option V) (sg:List Int),σ2 = [some (.ref l),some (.int z),some (.int w),some (.ref g),v]/\G g = some (.lst (sg.map V.int))/\Sgs sg/\sg.length = z/\vm H G) ⟨_,_,rfl,hg2,fun x hx=>by rw [List.eq_of_mem_replicate hx]; exact ⟨by decide,by decide⟩,List.length_replicate,S12⟩ ?_ ?_⟩
   ·rintro i σ2 G hi ⟨v,sg,rfl,hgG,hsg,hsl,SG⟩
    have e0:(0:Int) + (i:Int) = (i:Int):=Int.zero_add _
    rw [e0]
    obtain ⟨j,hj,hjz⟩:∃ j:Nat,(i:Int) % (z:Int) = (j:Int)/\j < z:=by
     have h0:=Int.emod_nonneg (i:Int) (show (z:Int) ≠ 0 by omega)
     have h1:=Int.emod_lt_of_pos (i:Int) zp
     exact ⟨((i:Int) % (z:Int)).toNat,by omega,by omega⟩
    have hj':j < sg.length:=by omega
    have hat:atI (sg.map V.int) (j:Int) = some (V.int sg[j]):=vz (by rw [List.getElem?_map,List.getElem?_eq_getElem hj']; rfl)
    have hnt:atI (ns.map V.int) (i:Int) = some (V.int ns[i]):=vz (by rw [List.getElem?_map,List.getElem?_eq_getElem hi]; rfl)
    generalize sg[j] = sgj at hat
    generalize ns[i] = nsi at hnt
    walk_at "rd"
    rw [hj]
    refine yae (SqL.of hgG) hat ?_
    walk_at "rd"
    refine yae (SqL.of (SG _ _ hl)) hnt ?_
    walk_at "rd"
    rw [hj]
    have y0:0 <= (sgj * 31 + nsi % 256 + (i:Int)) % 256:=Int.emod_nonneg _ (by decide)
    have y1:(sgj * 31 + nsi % 256 + (i:Int)) % 256 < 256:=Int.emod_lt_of_pos _ (by decide)
    generalize (sgj * 31 + nsi % 256 + (i:Int)) % 256 = y at y0 y1 ⊢
    refine ⟨g,_,_,j,rfl,rfl,hgG,?_,?_⟩
    ·unfold ixN
     rw [if_pos (by omega),if_pos (by rw [List.length_map]; omega)]
     rfl
    ·refine ⟨_,sg.set j y,rfl,by rw [yd,List.map_set],fun x hx=>?_,by rw [List.length_set]; exact hsl,fun b o e=>yp (ye e hg00) (SG b o e)⟩
     rcases List.mem_or_eq_of_mem_set hx with h | h
     ·exact hsg x h
     ·rw [h]
      omega
   ·rintro σ2 G ⟨v,sg,rfl,hgG,hsg,hsl,SG⟩
    walk_at "rd"
    refine uw (fun hb1=>?_) (fun hb1=>?_)
    ·have h0:0 < sg.length:=by omega
     have hat:atI (sg.map V.int) 0 = some (V.int sg[0]):=vz (j:=0) (by rw [List.getElem?_map,List.getElem?_eq_getElem h0]; rfl)
     have hs0:=hsg sg[0] (List.getElem_mem h0)
     generalize sg[0] = s00 at hat hs0
     walk_at "rd"
     refine yae (SqL.of hgG) hat ?_
     walk_at "rd"
     refine ⟨by walk_at "len",fun u2 hu2=>?_⟩
     with_reducible first | refine yy hu2 fun G1 T1 hu21=>?_ | refine new_obj hu2 fun G1 T1 hu21=>?_
     walk_at "rd"
     refine ⟨u2,z,_,rfl,rfl,hu21,by omega,by omega,xx (by show 1 * (z:Int).toNat <= 16000000; omega),fun r hr0=>?_⟩
     rw [jk,ez]
     exact k r _ _ ((SG.trans T1).free hr0) yd (fun x hx=>by rw [List.eq_of_mem_replicate hx]; exact hs0) List.length_replicate (SG.trans (T1.trans (vn hr0)))
    ·walk_at "rd"
     refine uw (fun hb2=>?_) (fun hb2=>?_)
     ·walk_at "rd"
      refine ⟨g,rfl,⟨_,SqL.of hgG⟩,fun D hD=>?_⟩
      refine j6 (K:=K) (xs:=sg.map V.int) (fun i G'=>∃ ts:List Int,G' D = some (.lst (ts.map V.int))/\Sgs ts/\ts.length = i/\vm G G') ⟨[],yd,fun _ z=>(nomatch z),rfl,vn hD⟩ (fun i G' _ ⟨_,_,_,_,S⟩=>SqL.of (S _ _ hgG)) (fun i y G' hy hi z'=>?_) (fun G' z'=>?_)
      ·obtain ⟨ts,h1,h2,h3,S⟩:=z'
       obtain ⟨x,rfl,_,_,hix⟩:=uq hy
       have h0:0 < sg.length:=by omega
       have hat:atI (sg.map V.int) 0 = some (V.int sg[0]):=vz (j:=0) (by rw [List.getElem?_map,List.getElem?_eq_getElem h0]; rfl)
       have hs0:=hsg sg[0] (List.getElem_mem h0)
       generalize sg[0] = s00 at hat hs0
       walk_at "rd"
       refine yae (SqL.of (S _ _ hgG)) hat ?_
       walk_at "rd"
       refine ⟨by walk_at "len",fun u2 hu2=>?_⟩
       have w0:0 <= w / 4 % 256/\w / 4 % 256 <= 255:=by omega
       generalize w / 4 % 256 = ww at w0
       with_reducible first | refine yy hu2 fun G1 T1 hu21=>?_ | refine new_obj hu2 fun G1 T1 hu21=>?_
       walk_at "rd"
       obtain ⟨v,hv,ha⟩:=yhs (xs:=[V.int s00,V.int ww]) (i:=x % 2) (Int.emod_nonneg _ (by decide)) (by show _ < (2:Int); exact Int.emod_lt_of_pos _ (by decide))
       refine yae (SqL.of hu21) ha ?_
       obtain ⟨t,rfl,t0⟩:∃ t,v = V.int t/\0 <= t/\t <= 255:=by
        simp only [List.mem_cons,List.not_mem_nil,or_false] at hv
        rcases hv with rfl | rfl
        ·exact ⟨_,rfl,hs0⟩
        ·exact ⟨_,rfl,w0⟩
       refine xu (n:=(sg.map V.int).length) (T1 _ _ h1) (v7 (by rw [List.length_map,h3]; omega)) hi ?_
       refine ⟨ts ++ [t],by rw [yd,List.map_append]; rfl,fun y hy=>?_,by rw [List.length_append,h3]; rfl,fun b o e=>yp (ye e hD) (T1 _ _ (S b o e))⟩
       rcases List.mem_append.mp hy with h | h
       ·exact h2 y h
       ·rw [List.mem_singleton.mp h]
        exact t0
      ·obtain ⟨ts,h1,h2,h3,S⟩:=z'
       rw [List.length_map] at h3
       exact k D ts G' (SG.free hD) h1 h2 (by omega) (SG.trans S)
     ·walk_at "rd"
      refine uw (fun hb3=>?_) (fun hb3=>?_)
      ·walk_at "rd"
       refine ⟨g,rfl,⟨_,SqL.of hgG⟩,fun D hD=>?_⟩
       refine uo (K:=K) (xs:=sg.map V.int) (fun i G'=>∃ ts:List Int,G' D = some (.lst (ts.map V.int))/\Sgs ts/\ts.length = i/\vm G G') ⟨[],yd,fun _ z=>(nomatch z),rfl,vn hD⟩ (fun i G' _ ⟨_,_,_,_,S⟩=>SqL.of (S _ _ hgG)) (fun i y G' hy hi z'=>?_) (fun G' z'=>?_)
       ·obtain ⟨ts,h1,h2,h3,S⟩:=z'
        obtain ⟨x,rfl,_,_,hix⟩:=uq hy
        walk_at "rd"
        refine ⟨by walk_at "len",fun u2 hu2=>?_⟩
        with_reducible first | refine yy hu2 fun G1 T1 hu21=>?_ | refine new_obj hu2 fun G1 T1 hu21=>?_
        walk_at "rd"
        obtain ⟨v,hv,ha⟩:=yhs (xs:=[V.int 0,V.int 255,V.int 1,V.int 128]) (i:=x % 4) (Int.emod_nonneg _ (by decide)) (by show _ < (4:Int); exact Int.emod_lt_of_pos _ (by decide))
        refine yae (SqL.of hu21) ha ?_
        obtain ⟨t,rfl,t0,t1⟩:∃ t,v = V.int t/\0 <= t/\t <= 255:=by
         simp only [List.mem_cons,List.not_mem_nil,or_false] at hv
         rcases hv with rfl | rfl | rfl | rfl <;> exact ⟨_,rfl,by decide,by decide⟩
        refine xu (n:=(sg.map V.int).length) (T1 _ _ h1) (v7 (by rw [List.length_map,h3]; omega)) hi ?_
        refine ⟨ts ++ [t],by rw [yd,List.map_append]; rfl,fun y hy=>?_,by rw [List.length_append,h3]; rfl,fun b o e=>yp (ye e hD) (T1 _ _ (S b o e))⟩
        rcases List.mem_append.mp hy with h | h
        ·exact h2 y h
        ·rw [List.mem_singleton.mp h]
         exact ⟨t0,t1⟩
       ·obtain ⟨ts,h1,h2,h3,S⟩:=z'
        rw [List.length_map] at h3
        exact k D ts G' (SG.free hD) h1 h2 (by omega) (SG.trans S)
      ·walk_at "rd"
       exact k g sg G hg00 hgG hsg hsl SG
theorem yjc:yn ["_law_script","_law_k","_law_many","_law_most","_law_learned_here","_law_j","_law_cell"] ["_law_script","_law_k","_law_many","_law_most"] (ya ydz):=⟨rfl,rfl,rfl,by decide +kernel,rfl,by decide +kernel,by decide +kernel⟩
def ypb (K:W.Frag):Sp:=fun vs H Q _=>∃ (l:Addr) (ns:List Int) (j m w:Nat),vs = [.ref l,.int j,.int m,.int w]/\SqL K H l (ns.map V.int)/\j <= 100/\m <= 10/\w <= 10/\∀ r (lt:Nat->Addr) (tt:Nat->List Int) H',H r = none->H' r = some (.lst (xl lt m))->(∀ i,i < m->ybf H' (lt i) (tt i) w)->vm H H'->Q (.ref r) H'
theorem yw7 (T:Txt K mg a):we P w K mg base CX0 2 a.f_q68 a.d_q68 ["_law_script","_law_k","_law_many","_law_most"] (ypb K):=by
 refine T.F_q68.ok yjc (fun vs H Q E h=>?_) (fun cdv A outer s H vs Q E hr h=>?_)
 ·obtain ⟨l,ns,j,m,w,rfl,_⟩:=h
  rfl
 ·obtain ⟨l,ns,j,m,w,rfl,hl,hj,hm,hw,k⟩:=h
  have wp:(0:Int) < (w:Int) + 1:=by omega
  refine ⟨_,(yk (vd (i:=4) yjc.nd rfl (Or.inl rfl) (wx yg)) (yk (z8 PassesOwn.never rfl (zg rfl T.z_range (yb (pv 2) yg (yc rfl))) (w6 (i:=5) yjc.nd rfl (Or.inl rfl)) (yk (vd (i:=6) yjc.nd rfl (Or.inl rfl) (yz (ybv T) (hr.mono (by decide)) rfl T.m_q65 T.F_q65.kp T.B_q65 .nil vf (yb (pv 0) (yb (ym vw (pv 1) (pv 5)) yg (yc rfl)) (yc rfl)))) (yi (vj (yen PySem.F.plainAttrs_list PySem.F.slot_list_append PySem.F.type_list_append wo (pv 4) (yb (yz (yre T) (hr.mono (by decide)) rfl T.m_q67 T.F_q67.kp T.B_q67 .nil vf (yb (wx (yb (ym vk (pv 6) yj) (yb (ym vk (pv 6) yj) (yb (ym vk (pv 6) yj) yg (yc rfl)) (yc rfl)) (yc rfl))) (yb (ym vt (pv 6) (ym vw (pv 3) yj)) (yb (ym vt (ym vk (pv 6) yj) yj) yg (yc rfl)) (yc rfl)) (yc rfl))) yg (yc rfl))))))) (yi (yv (pv 4))))),?_⟩
  try dsimp only [wc]
  refine yo (σ':=[some _,some _,some _,some _,none,none,none]) rfl ?_
  walk_at "rd"
  refine ⟨by walk_at "len",fun L hL0=>?_⟩
  with_reducible first | refine yy hL0 fun H1 S1 hL1=>?_ | refine new_obj hL0 fun H1 S1 hL1=>?_
  walk_at "rd"
  refine ⟨_,rfl,by omega,by omega,jn (n:=m) (fun i σ2 G=>∃ (v1 v2:Option V) (lt:Nat->Addr) (tt:Nat->List Int),σ2 = [some (.ref l),some (.int j),some (.int m),some (.int w),some (.ref L),v1,v2]/\G L = some (.lst (xl lt i))/\(∀ q,q < i->ybf G (lt q) (tt q) w/\lt q ≠ L)/\vm H G)
   ⟨_,_,fun _=>0,fun _=>[],rfl,hL1,fun q hq=>absurd hq (Nat.not_lt_zero q),S1⟩ ?_ ?_⟩
  ·rintro i σ2 G hi ⟨v1,v2,lt,tt,rfl,gL,gT,SG⟩
   have e0:(0:Int) + (i:Int) = (i:Int):=Int.zero_add _
   rw [e0]
   walk_at "rd"
   refine ⟨l,ns,j + i,by rw [Int.natCast_add]; rfl,SG.seq hl,by omega,fun c c0 c1=>?_⟩
   walk_at "rd"
   refine ybj gL ?_
   walk_at "rd"
   refine ⟨by walk_at "len",fun u hu=>?_⟩
   with_reducible first | refine yy hu fun G1 T1 hu1=>?_ | refine new_obj hu fun G1 T1 hu1=>?_
   walk_at "rd"
   obtain ⟨z,hz,hzw⟩:∃ z:Nat,c % ((w:Int) + 1) = (z:Int)/\z <= w:=by
    have h0:=Int.emod_nonneg c (show (w:Int) + 1 ≠ 0 by omega)
    have h1:=Int.emod_lt_of_pos c wp
    exact ⟨(c % ((w:Int) + 1)).toNat,by omega,by omega⟩
   rw [hz]
   refine ⟨u,[c / 7,c / 1801,c / 460001],z,_,rfl,hu1,by show 3 <= 63; decide,by omega,fun t ts G2 ht0 ht2 hts htl T2=>?_⟩
   have T12:=T1.trans T2
   walk_at "rd"
   have gL2:=T12 _ _ gL
   refine uc gL2 (v7 (by rw [wj]; omega)) ?_
   have ntL:t ≠ L:=(ye (T1 _ _ gL) ht0).symm
   walk_at "rd"
   refine ⟨_,_,upN lt i t,upN tt i ts,rfl,?_,fun q hq=>?_,fun b o e=>yp (ye e hL0) (T12 _ _ (SG b o e))⟩
   ·rw [yd,zh,wv]
    congr 3
    exact ul fun j hj=>(wq hj).symm
   ·by_cases y:q = i
    ·rw [y,wv,wv]
     exact ⟨⟨yp ntL ht2,hts,by omega⟩,ntL⟩
    ·have hqi:q < i:=by omega
     rw [wq hqi,wq hqi]
     obtain ⟨g1,g2⟩:=gT q hqi
     exact ⟨⟨yp g2 (T12 _ _ g1.l),g1.s,g1.z⟩,g2⟩
  ·rintro σ2 G ⟨v1,v2,lt,tt,rfl,gL,gT,SG⟩
   walk_at "rd"
   exact k L lt tt G hL0 gL (fun i hi=>(gT i hi).1) SG
def vbs (ns:List Int):Prop:=∀ b ∈ ns,0 <= b/\b <= 255
structure vch (G0 G:Hp) (D:Addr) (N:Nat) (cx:Nat->Addr) (tt:Nat->List Int):Prop where
 d:G D = some (.lst (xl cx N))
 c:∀ j,j < N->G (cx j) = some (.lst ((tt j).map V.int))/\cx j ≠ D
 s:vm G0 G
theorem yqi:yn ["_law_found","_law_byte"] ["_law_found"] (ya yde):=⟨rfl,rfl,rfl,by decide +kernel,rfl,by decide +kernel,by decide +kernel⟩
def yo8 (K:W.Frag):Sp:=fun vs H Q _=>∃ (f:Addr) (ns:List Int),vs = [.ref f]/\H f = some (.lst (ns.map V.int))/\vbs ns/\Q (.bl true) H
theorem yql (T:Txt K mg a):we P w K mg base CX0 1 a.f_q69 a.d_q69 ["_law_found"] (yo8 K):=by
 refine T.F_q69.ok yqi (fun vs H Q E h=>?_) (fun cdv A outer s H vs Q E hr h=>?_)
 ·obtain ⟨f,ns,rfl,_⟩:=h
  rfl
 ·obtain ⟨f,ns,rfl,hf,hb,k⟩:=h
  refine ⟨_,(yk (wd (xa (xj (yr vx rfl T.z_isinstance (by decide +kernel) (yb (pv 0) (yb (ur (T:="list") rfl T.z_list (by decide +kernel)) yg (yc rfl)) (yc rfl))))) (yi (yv ybk)) ve) (yk (z8 PassesOwn.never rfl (wt (pv 0)) (w6 (i:=1) yqi.nd rfl (Or.inl rfl)) (yi (wd (PW.pt (yaf (xa (xj (yr vx rfl T.z_isinstance (by decide +kernel) (yb (pv 1) (yb (ur (T:="int") rfl T.z_int (by decide +kernel)) yg (yc rfl)) (yc rfl))))) (yaf (xj (yr vx rfl T.z_isinstance (by decide +kernel) (yb (pv 1) (yb (ur (T:="bool") rfl T.z_bool (by decide +kernel)) yg (yc rfl)) (yc rfl)))) (ybb (xa (yar uv uv yj (pv 1) yj)))))) (yi (yv ybk)) ve))) (yi (yv ybk)))),?_⟩
  try dsimp only [wc]
  refine yo (σ':=[some _,none]) rfl ?_
  walk_at "rd"
  refine jz (.lst hf) (ycw _ _) ?_
  walk_at "rd"
  refine ⟨f,rfl,⟨_,SqL.of hf⟩,zu (K:=K) (a:=f) (xs:=ns.map V.int) (fun i σ2 G=>(∃ v,σ2 = [some (.ref f),v])/\H = G) ⟨⟨_,rfl⟩,rfl⟩ (fun i σ2 G _ ⟨_,e⟩=>e ▸ SqL.of hf) ?_ ?_⟩
  ·rintro i y σ2 G hy ⟨⟨v,rfl⟩,rfl⟩
   obtain ⟨c,rfl,hcm,_,_⟩:=uq hy
   obtain ⟨c0,c1⟩:=hb c hcm
   walk_at "rd"
   refine jz (.int c) (ycw _ _) ?_
   walk_at "rd"
   refine jz (.int c) yvw ?_
   walk_at "rd"
   refine yge c0 ?_
   walk_at "rd"
   refine ynm c1 ?_
   walk_at "rd"
   exact ⟨⟨_,rfl⟩,rfl⟩
  ·rintro σ2 G ⟨⟨v,rfl⟩,rfl⟩
   walk_at "rd"
   exact k
theorem yxw {xs:List V}:ye0 xs none (some (-1)) = xs.take (xs.length - 1):=by
 unfold ye0
 rw [HT.sIx_none,List.drop_zero,Nat.sub_zero]
 congr 1
 unfold HT.sIx
 simp
 omega
theorem ycy {x:Int} (h:0 <= x/\x <= 255):Byt [x]:=fun y hy=>by rw [List.mem_singleton.mp hy]; exact h
theorem ycp {xs:List Int} (h:Byt xs) (k:Nat):Byt (xs.take k):=fun y hy=>h y (List.mem_of_mem_take hy)
theorem yh8 {xs:List Int} (h:Byt xs) (k:Nat):Byt (xs.drop k):=fun y hy=>h y (List.mem_of_mem_drop hy)
theorem yby:yn ["_law_data","_law_way","_law_cell","_law_at","_law_byte","_law_some","_law_k"] ["_law_data","_law_way","_law_cell"] (ya yes):=⟨rfl,rfl,rfl,by decide +kernel,rfl,by decide +kernel,by decide +kernel⟩
def ysz (K:W.Frag):Sp:=fun vs H Q _=>∃ (dt:Addr) (T:List Int) (ki c:Int),vs = [.ref dt,.int ki,.int c]/\H dt = some (.lst (T.map V.int))/\Byt T/\1 <= T.length/\T.length <= 5500/\0 <= ki/\ki < 2147483647/\0 <= c/\c < 2147483647 /\
 ∀ r (bs:List Int) H',H r = none->H' r = some (.lst (bs.map V.int))->Byt bs->bs.length <= 5600->(ki % 6 = 1->bs = T.take (T.length - 1))->(ki % 6 = 2->∃ e,e ≠ []/\bs = T ++ e)->vm H H'->Q (.ref r) H'
theorem ywf (T:Txt K mg a):we P w K mg base CX0 1 a.f_q70 a.d_q70 ["_law_data","_law_way","_law_cell"] (ysz K):=by
 refine T.F_q70.ok yby (fun vs H Q E h=>?_) (fun cdv A outer s H vs Q E hr h=>?_)
 ·obtain ⟨dt,T',ki,c,rfl,_⟩:=h
  rfl
 ·obtain ⟨dt,D,ki,c,rfl,hdt,hby,hl1,hl2,k0,k1,c0,c1,k⟩:=h
  have lp:(0:Int) < (D.length:Int):=by omega
  refine yq (vd (i:=3) yby.nd rfl (Or.inl rfl) (ym vt (ym vk (pv 1) yj) (yr yw rfl T.z_len (by decide +kernel) (yb (pv 0) yg (yc rfl))))) ?_
  refine yq (vd (i:=4) yby.nd rfl (Or.inl rfl) (ym vt (pv 2) yj)) ?_
  refine yq (wd (y7 x4 (ym vt (pv 1) yj) yj (vg _)) (yi (yv (ym ybc (ym ybc (xo u3 (pv 0) uh (ug (pv 3))) (wx (yb (ym vt (ym vw (ym vw (x5 xm (pv 0) (pv 3) (fun _ _=>rfl)) yj) (ym vt (pv 4) yj)) yj) yg (yc rfl)))) (xo u3 (pv 0) (ug (ym vw (pv 3) yj)) uh)))) ve) ?_
  refine yq (wd (y7 x4 (ym vt (pv 1) yj) yj (vg _)) (yi (yv (xo u3 (pv 0) uh (ug (yy1 yqa yj))))) ve) ?_
  refine yq (wd (y7 x4 (ym vt (pv 1) yj) yj (vg _)) (yi (yv (ym ybc (ym ybc (pv 0) (wx (yb (pv 4) yg (yc rfl)))) (ym yjb (wx (yb yj yg (yc rfl))) (ym vt (ym vk (pv 2) yj) yj))))) ve) ?_
  refine yq (wd (y7 x4 (ym vt (pv 1) yj) yj (vg _)) (yi (yv (ym ybc (ym ybc (xo u3 (pv 0) uh (ug (pv 3))) (wx (yb (pv 4) yg (yc rfl)))) (xo u3 (pv 0) (ug (pv 3)) uh)))) ve) ?_
  refine yq (wd (y7 x4 (ym vt (pv 1) yj) yj (vg _)) (yi (yv (uz (js:=[0]) (ys:=["_law_data"]) rfl (zg rfl T.z_range (yb (yr yw rfl T.z_len (by decide +kernel) (yb (pv 0) yg (yc rfl))) yg (yc rfl))) (fun C s2 H2 fp=>(x5 (r:=yui K) xm (pv 1) (ym ue (ym ue (yr (r:=yyo K) ylh rfl T.z_len (by decide +kernel) (yb (pv 1) yg (yc rfl))) yj) (pv 0)) (fun _ _=>rfl))) rfl rfl (hyc:=(all_cons rfl v9)) (hrel:=(all_cons rfl v9))))) ve) ?_
  refine yq (vd (i:=5) yby.nd rfl (Or.inl rfl) (wx yg)) ?_
  refine yq (z8 PassesOwn.never rfl (zg rfl T.z_range (yb (ym vt (ym vk (pv 1) yj) yj) yg (yc rfl))) (w6 (i:=6) yby.nd rfl (Or.inl rfl)) (yk (vj (yen PySem.F.plainAttrs_list PySem.F.slot_list_append PySem.F.type_list_append wo (pv 5) (yb (x5 xm (wx (yb (pv 4) (yb yj (yb yj (yb (ym vt (ym vk (pv 2) yj) yj) yg (yc rfl)) (yc rfl)) (yc rfl)) (yc rfl))) (ym vt (ym vw (ym vk (pv 2) yj) (pv 6)) yj) (fun _ _=>rfl)) yg (yc rfl)))) (yi (vd (i:=4) yby.nd rfl (Or.inl rfl) (ym vt (ym vw (ym vw (ym wk (pv 4) yj) (ym wk yj (pv 6))) yj) yj))))) ?_
  refine ⟨_,(yi (yv (pv 5))),?_⟩
  try dsimp only [wc]
  refine yo (σ':=[some _,some _,some _,none,none,none,none]) rfl ?_
  walk_at "rd"
  refine x3 (SqL.of hdt) ?_
  rw [List.length_map]
  walk_at "rd"
  obtain ⟨p,hp,hpl⟩:∃ p:Nat,ki / 6 % (D.length:Int) = (p:Int)/\p < D.length:=by
   have h0:=Int.emod_nonneg (ki / 6) (show (D.length:Int) ≠ 0 by omega)
   have h1:=Int.emod_lt_of_pos (ki / 6) lp
   exact ⟨(ki / 6 % (D.length:Int)).toNat,by omega,by omega⟩
  rw [hp]
  have b0:0 <= c % 256/\c % 256 <= 255:=by omega
  generalize c % 256 = b at b0
  walk_at "rd"
  refine uw (fun h6=>?_) (fun h6=>?_)
  ·walk_at "rd"
   refine ybl (SqL.of hdt) fun v1 hv1=>?_
   rw [z0,<- List.map_take]
   with_reducible first | refine yy hv1 fun G1 T1 hv11=>?_ | refine new_obj hv1 fun G1 T1 hv11=>?_
   have hat:atI (D.map V.int) (p:Int) = some (V.int D[p]):=vz (by rw [List.getElem?_map,List.getElem?_eq_getElem hpl]; rfl)
   generalize D[p] = dp at hat
   walk_at "rd"
   refine yae (SqL.of (T1 _ _ hdt)) hat ?_
   walk_at "rd"
   have y0:0 <= (dp + 1 + b % 255) % 256/\(dp + 1 + b % 255) % 256 <= 255:=by omega
   generalize (dp + 1 + b % 255) % 256 = y at y0
   refine ⟨by walk_at "len",fun v2 hv2=>?_⟩
   with_reducible first | refine yy hv2 fun G2 T2 hv22=>?_ | refine new_obj hv2 fun G2 T2 hv22=>?_
   refine ⟨v1,v2,_,_,rfl,rfl,T2 _ _ hv11,hv22,xx (by rw [List.length_map,List.length_take]; show _ + 1 <= _; omega),fun v3 hv3=>?_⟩
   have e3:(D.take p).map V.int ++ [V.int y] = (D.take p ++ [y]).map V.int:=by rw [List.map_append]; rfl
   rw [e3]
   with_reducible first | refine yy hv3 fun G3 T3 hv33=>?_ | refine new_obj hv3 fun G3 T3 hv33=>?_
   have T13:=T1.trans (T2.trans T3)
   walk_at "rd"
   refine ybl (SqL.of (T13 _ _ hdt)) fun v4 hv4=>?_
   rw [show (some ((p:Int) + 1)) = some (((p + 1:Nat)):Int) from rfl,yh5,<- List.map_drop]
   with_reducible first | refine yy hv4 fun G4 T4 hv44=>?_ | refine new_obj hv4 fun G4 T4 hv44=>?_
   refine ⟨v3,v4,_,_,rfl,rfl,T4 _ _ hv33,hv44,xx (by rw [List.length_map,List.length_map,List.length_append,List.length_take,List.length_drop]; show _ + 1 + _ <= _; omega),fun v5 hv5=>?_⟩
   rw [<- List.map_append]
   exact k v5 _ _ ((T13.trans T4).free hv5) yd (ub (ub (ycp hby p) (ycy y0)) (yh8 hby _)) (by rw [List.length_append,List.length_append,List.length_take,List.length_drop]; show _ + 1 + _ <= _; omega) (fun z=>by omega) (fun z=>by omega) ((T13.trans T4).trans (vn hv5))
  walk_at "rd"
  refine uw (fun h61=>?_) (fun h61=>?_)
  ·walk_at "rd"
   refine ybl (SqL.of hdt) fun v1 hv1=>?_
   rw [yxw,<- List.map_take,List.length_map]
   exact k v1 _ _ hv1 yd (ycp hby _) (by rw [List.length_take]; omega) (fun _=>rfl) (fun z=>by omega) (vn hv1)
  walk_at "rd"
  refine uw (fun h62=>?_) (fun h62=>?_)
  ·walk_at "rd"
   refine ⟨by walk_at "len",fun v2 hv2=>?_⟩
   with_reducible first | refine yy hv2 fun G2 T2 hv22=>?_ | refine new_obj hv2 fun G2 T2 hv22=>?_
   refine ⟨dt,v2,_,_,rfl,rfl,T2 _ _ hdt,hv22,xx (by rw [List.length_map]; show _ + 1 <= _; omega),fun v3 hv3=>?_⟩
   have e3:D.map V.int ++ [V.int b] = (D ++ [b]).map V.int:=by rw [List.map_append]; rfl
   rw [e3]
   with_reducible first | refine yy hv3 fun G3 T3 hv33=>?_ | refine new_obj hv3 fun G3 T3 hv33=>?_
   walk_at "rd"
   refine ⟨by walk_at "len",fun v4 hv4=>?_⟩
   with_reducible first | refine yy hv4 fun G4 T4 hv44=>?_ | refine new_obj hv4 fun G4 T4 hv44=>?_
   walk_at "rd"
   obtain ⟨z,hz,hz2⟩:∃ z:Nat,c / 256 % 3 = (z:Int)/\z <= 2:=⟨(c / 256 % 3).toNat,by omega,by omega⟩
   rw [hz]
   refine ⟨v4,z,_,rfl,rfl,hv44,by omega,by omega,xx (by show 1 * (z:Int).toNat <= 16000000; omega),fun v5 hv5=>?_⟩
   have ez:((z:Nat):Int).toNat = z:=by omega
   rw [jk,ez]
   with_reducible first | refine yy hv5 fun G5 T5 hv55=>?_ | refine new_obj hv5 fun G5 T5 hv55=>?_
   refine ⟨v3,v5,_,_,rfl,rfl,T5 _ _ (T4 _ _ hv33),hv55,xx (by rw [List.length_map,List.length_map,List.length_append,List.length_replicate]; show _ + 1 + _ <= _; omega),fun v6 hv6=>?_⟩
   rw [<- List.map_append]
   have T15:=T2.trans (T3.trans (T4.trans T5))
   exact k v6 _ _ (T15.free hv6) yd (ub (ub hby (ycy b0)) fun x hx=>by rw [List.eq_of_mem_replicate hx]; exact ⟨by decide,by decide⟩) (by rw [List.length_append,List.length_append,List.length_replicate]; show _ + 1 + _ <= _; omega) (fun z=>by omega) (fun _=>⟨[b] ++ List.replicate z 0,(by intro z; cases z),by rw [List.append_assoc]⟩) (T15.trans (vn hv6))
  walk_at "rd"
  refine uw (fun h63=>?_) (fun h63=>?_)
  ·walk_at "rd"
   refine ybl (SqL.of hdt) fun v1 hv1=>?_
   rw [z0,<- List.map_take]
   with_reducible first | refine yy hv1 fun G1 T1 hv11=>?_ | refine new_obj hv1 fun G1 T1 hv11=>?_
   walk_at "rd"
   refine ⟨by walk_at "len",fun v2 hv2=>?_⟩
   with_reducible first | refine yy hv2 fun G2 T2 hv22=>?_ | refine new_obj hv2 fun G2 T2 hv22=>?_
   refine ⟨v1,v2,_,_,rfl,rfl,T2 _ _ hv11,hv22,xx (by rw [List.length_map,List.length_take]; show _ + 1 <= _; omega),fun v3 hv3=>?_⟩
   have e3:(D.take p).map V.int ++ [V.int b] = (D.take p ++ [b]).map V.int:=by rw [List.map_append]; rfl
   rw [e3]
   with_reducible first | refine yy hv3 fun G3 T3 hv33=>?_ | refine new_obj hv3 fun G3 T3 hv33=>?_
   have T13:=T1.trans (T2.trans T3)
   walk_at "rd"
   refine ybl (SqL.of (T13 _ _ hdt)) fun v4 hv4=>?_
   rw [yh5,<- List.map_drop]
   with_reducible first | refine yy hv4 fun G4 T4 hv44=>?_ | refine new_obj hv4 fun G4 T4 hv44=>?_
   refine ⟨v3,v4,_,_,rfl,rfl,T4 _ _ hv33,hv44,xx (by rw [List.length_map,List.length_map,List.length_append,List.length_take,List.length_drop]; show _ + 1 + _ <= _; omega),fun v5 hv5=>?_⟩
   rw [<- List.map_append]
   exact k v5 _ _ ((T13.trans T4).free hv5) yd (ub (ub (ycp hby p) (ycy b0)) (yh8 hby _)) (by rw [List.length_append,List.length_append,List.length_take,List.length_drop]; show _ + 1 + _ <= _; omega) (fun z=>by omega) (fun z=>by omega) ((T13.trans T4).trans (vn hv5))
  walk_at "rd"
  refine uw (fun h64=>?_) (fun h64=>?_)
  ·walk_at "rd"
   refine x3 (SqL.of hdt) ?_
   rw [List.length_map]
   walk_at "rd"
   refine ⟨_,rfl,by omega,by omega,fun R hR=>?_⟩
   refine yfa (n:=D.length) (fun i=>V.int (D[D.length - 1 - i]?.getD 0)) hR (fun i G hi S hG=>?_) (fun G S hG=>?_)
   ·have e0:(0:Int) + (i:Int) = (i:Int):=Int.zero_add _
    rw [e0]
    walk_at "rd"
    refine x3 (SqL.of (S _ _ hdt)) ?_
    rw [List.length_map]
    walk_at "rd"
    have hq:D.length - 1 - i < D.length:=by omega
    rw [show (D.length:Int) - 1 - (i:Int) = ((D.length - 1 - i:Nat):Int) by omega]
    refine yae (SqL.of (S _ _ hdt)) (vz (v:=V.int D[D.length - 1 - i]) (by rw [List.getElem?_map,List.getElem?_eq_getElem hq]; rfl)) ?_
    exact Mp.doneR hR (v7 (by omega)) hi S hG (by show V.int _ = V.int (D[D.length - 1 - i]?.getD 0); rw [List.getElem?_eq_getElem hq]; rfl)
   ·have e:(List.range D.length).map (fun i=>V.int (D[D.length - 1 - i]?.getD 0)) = ((List.range D.length).map fun i=>D[D.length - 1 - i]?.getD 0).map V.int:=by rw [List.map_map]; rfl
    rw [e] at hG
    exact k R _ G hR hG (fun x hx=>by
     obtain ⟨i,hi,rfl⟩:=List.mem_map.mp hx
     exact yp9 hby _) (by rw [List.length_map,List.length_range]; omega) (fun z=>by omega) (fun z=>by omega) S
  walk_at "rd"
  refine ⟨by walk_at "len",fun S hS0=>?_⟩
  with_reducible first | refine yy hS0 fun H1 S1 hS1=>?_ | refine new_obj hS0 fun H1 S1 hS1=>?_
  walk_at "rd"
  obtain ⟨z,hz,hz6⟩:∃ z:Nat,ki / 6 % 5 = (z:Int)/\z <= 4:=⟨(ki / 6 % 5).toNat,by omega,by omega⟩
  rw [hz]
  refine ⟨_,rfl,by omega,by omega,jn (n:=z) (fun i σ2 G=>∃ (v1:Option V) (x:Int) (bs:List Int),σ2 = [some (.ref dt),some (.int ki),some (.int c),some (.int p),some (.int x),some (.ref S),v1]/\0 <= x/\x <= 255/\G S = some (.lst (bs.map V.int))/\Byt bs/\bs.length = i/\vm H G) ⟨_,b,[],rfl,b0.1,b0.2,hS1,fun _ z=>(nomatch z),rfl,S1⟩ ?_ ?_⟩
  ·rintro i σ2 G hi ⟨v1,x,bs,rfl,x0,x1,gS,hb,hbl,SG⟩
   have e0:(0:Int) + (i:Int) = (i:Int):=Int.zero_add _
   rw [e0]
   walk_at "rd"
   refine ybj gS ?_
   walk_at "rd"
   refine ⟨by walk_at "len",fun u hu=>?_⟩
   have w0:0 <= c / 256 % 256/\c / 256 % 256 <= 255:=by omega
   generalize c / 256 % 256 = w at w0
   with_reducible first | refine yy hu fun G1 T1 hu1=>?_ | refine new_obj hu fun G1 T1 hu1=>?_
   walk_at "rd"
   obtain ⟨v,hv,ha⟩:=yhs (xs:=[V.int x,V.int 0,V.int 255,V.int w]) (i:=(c / 65536 + (i:Int)) % 4) (Int.emod_nonneg _ (by decide)) (by show _ < (4:Int); exact Int.emod_lt_of_pos _ (by decide))
   refine yae (SqL.of hu1) ha ?_
   obtain ⟨t,rfl,t0⟩:∃ t,v = V.int t/\0 <= t/\t <= 255:=by
    simp only [List.mem_cons,List.not_mem_nil,or_false] at hv
    rcases hv with rfl | rfl | rfl | rfl
    ·exact ⟨_,rfl,x0,x1⟩
    ·exact ⟨_,rfl,by decide,by decide⟩
    ·exact ⟨_,rfl,by decide,by decide⟩
    ·exact ⟨_,rfl,w0⟩
   walk_at "rd"
   refine uc (T1 _ _ gS) (v7 (by rw [List.length_map]; omega)) ?_
   walk_at "rd"
   refine ⟨_,_,bs ++ [t],rfl,Int.emod_nonneg _ (by decide),by have:=Int.emod_lt_of_pos (x * 77 + 13 * (i:Int) + 1) (show (0:Int) < 256 by decide); omega,by rw [yd,List.map_append]; rfl,ub hb (ycy t0),by rw [List.length_append,hbl]; rfl,fun b o e=>yp (ye e hS0) (T1 _ _ (SG b o e))⟩
  ·rintro σ2 G ⟨v1,x,bs,rfl,x0,x1,gS,hb,hbl,SG⟩
   walk_at "rd"
   exact k S bs G hS0 gS hb (by omega) (fun z=>absurd z h61) (fun z=>absurd z h62) SG
theorem yiv:yn ["_law_looks_here","_law_data","_law_most","_law_learned_here","_law_found"] ["_law_looks_here","_law_data","_law_most","_law_learned_here"] (ya ydh):=⟨rfl,rfl,rfl,by decide +kernel,rfl,by decide +kernel,by decide +kernel⟩
def ypa (K:W.Frag):Sp:=fun vs H Q _=>∃ (L dt:Addr) (lx:V) (n:Nat) (lk:Nat->Addr) (kd:Nat->Fin 3) (tp:Nat->Addr) (ps:Nat->List Int) (d:List Int) (mo N w:Nat) (lt:Nat->Addr) (tt:Nat->List Int),vs = [.ref L,.ref dt,.int mo,lx]/\yze H L dt lx n lk kd tp ps d mo N w lt tt /\
 (∀ (M:Nat) (r:Addr) (H':Hp),M <= mo->ROk (fa0 n ps) d (rS n kd ps (wz tt N)) M->rTL (fa0 n ps) d (rS n kd ps (wz tt N)) M = d.length->H r = none->H' r = some (.lst ((rtx (fa0 n ps) d (rS n kd ps (wz tt N)) M).map V.int))->vm H H'->Q (.ref r) H') /\
 ((∀ M,M <= mo->ROk (fa0 n ps) d (rS n kd ps (wz tt N)) M->rTL (fa0 n ps) d (rS n kd ps (wz tt N)) M ≠ d.length)->∀ H',vm H H'->Q .non H')
theorem yvr (T:Txt K mg a):we P w K mg base CX0 13 a.f_q71 a.d_q71 ["_law_looks_here","_law_data","_law_most","_law_learned_here"] (ypa K):=by
 refine T.F_q71.ok yiv (fun vs H Q E h=>?_) (fun cdv A outer s H vs Q E hr h=>?_)
 ·obtain ⟨L,dt,lx,n,lk,kd,tp,ps,d,mo,N,w,lt,tt,rfl,_⟩:=h
  rfl
 ·obtain ⟨L,dt,lx,n,lk,kd,tp,ps,d,mo,N,w,lt,tt,rfl,hI,kQ,kN⟩:=h
  refine ⟨_,(yk (vd (i:=4) yiv.nd rfl (Or.inl rfl) yah) (yk (ymk (fun pn Ex=>(yi (vd (i:=4) yiv.nd rfl (Or.inl rfl) (vv (yx0 T) (hr.mono (by decide)) rfl T.m_q64 T.F_q64.kp T.B_q64 .nil yhw (yb (pv 0) (yb (pv 1) (yb (pv 2) (yb (pv 3) yg (yc rfl)) (yc rfl)) (yc rfl)) (yc rfl)))))) ⟨rfl,rfl⟩ (yl4 rfl T.m_NP (fun pn x=>(yi (vd (i:=4) yiv.nd rfl (Or.inl rfl) yah))) yqm)) (yi (yv (pv 4))))),?_⟩
  try dsimp only [wc]
  refine yo (σ':=[some _,some _,some _,some _,none]) rfl ?_
  walk_at "rd"
  refine yrn ?_
  walk_at "rd"
  refine ⟨L,dt,lx,n,lk,kd,tp,ps,d,mo,N,w,lt,tt,rfl,hI,fun M r H1 hM hok he hr0 hr1 S1=>?_,fun hno H1 S1=>?_⟩
  ·walk_at "rd"
   exact kQ M r H1 hM hok he hr0 hr1 S1
  ·refine yy5 T.em_NP_NP ?_
   walk_at "rd"
   exact kN hno H1 S1
theorem yiu:yn ["_law_looks_here","_law_data","_law_most","_law_learned_here","_law_found"] ["_law_looks_here","_law_data","_law_most","_law_learned_here"] (ya ydv):=⟨rfl,rfl,rfl,by decide +kernel,rfl,by decide +kernel,by decide +kernel⟩
def ysr (K:W.Frag):Sp:=fun vs H Q _=>∃ (L dt:Addr) (lx:V) (n:Nat) (lk:Nat->Addr) (kd:Nat->Fin 3) (tp:Nat->Addr) (ps:Nat->List Int) (d:List Int) (mo N w:Nat) (lt:Nat->Addr) (tt:Nat->List Int),vs = [.ref L,.ref dt,.int mo,lx]/\yze H L dt lx n lk kd tp ps d mo N w lt tt /\
 (∀ (M:Nat) (t r:Addr) (H':Hp),M <= mo->ROk (fa0 n ps) d (rS n kd ps (wz tt N)) M->H t = none->H r = none->H' t = some (.tup [.ref r,.int (rTL (fa0 n ps) d (rS n kd ps (wz tt N)) M)])->H' r = some (.lst ((rtx (fa0 n ps) d (rS n kd ps (wz tt N)) M).map V.int))->vm H H'->Q (.ref t) H') /\
 ((∀ M,M <= mo->¬ ROk (fa0 n ps) d (rS n kd ps (wz tt N)) M)->∀ H',vm H H'->Q .non H')
theorem yyi (T:Txt K mg a):we P w K mg base CX0 12 a.f_q72 a.d_q72 ["_law_looks_here","_law_data","_law_most","_law_learned_here"] (ysr K):=by
 refine T.F_q72.ok yiu (fun vs H Q E h=>?_) (fun cdv A outer s H vs Q E hr h=>?_)
 ·obtain ⟨L,dt,lx,n,lk,kd,tp,ps,d,mo,N,w,lt,tt,rfl,_⟩:=h
  rfl
 ·obtain ⟨L,dt,lx,n,lk,kd,tp,ps,d,mo,N,w,lt,tt,rfl,hI,kQ,kN⟩:=h
  refine ⟨_,(yk (vd (i:=4) yiu.nd rfl (Or.inl rfl) yah) (yk (ymk (fun pn Ex=>(yi (vd (i:=4) yiu.nd rfl (Or.inl rfl) (vv (yqw T) (hr.mono (by decide)) rfl T.m_q63 T.F_q63.kp T.B_q63 .nil yhw (yb (pv 0) (yb (pv 1) (yb (pv 2) (yb (pv 3) yg (yc rfl)) (yc rfl)) (yc rfl)) (yc rfl)))))) ⟨rfl,rfl⟩ (yl4 rfl T.m_NP (fun pn x=>(yi (vd (i:=4) yiu.nd rfl (Or.inl rfl) yah))) yqm)) (yi (yv (pv 4))))),?_⟩
  try dsimp only [wc]
  refine yo (σ':=[some _,some _,some _,some _,none]) rfl ?_
  walk_at "rd"
  refine yrn ?_
  walk_at "rd"
  refine ⟨L,dt,lx,n,lk,kd,tp,ps,d,mo,N,w,lt,tt,rfl,hI,fun M t r H1 hM hok ht0 hr0 ht1 hr1 S1=>?_,fun hno H1 S1=>?_⟩
  ·walk_at "rd"
   exact kQ M t r H1 hM hok ht0 hr0 ht1 hr1 S1
  ·refine yy5 T.em_NP_NP ?_
   walk_at "rd"
   exact kN hno H1 S1
theorem vb8 {x:Int} (h1:x ≠ 1) (h2:x ≠ 2):inV (.int x) [.int 1,.int 2] = false:=by
 have e1:¬ (1:Int) = x:=fun z=>h1 z.symm
 have e2:¬ (2:Int) = x:=fun z=>h2 z.symm
 simp [inV,eqV,e1,e2]
theorem u6:yn ["_law_script","_law_way","_law_looks_here","_law_learned_here","_law_text_here","_law_data","_law_kind","_law_some","_law_most","_law_handed","_law_found","_law_first_here"] ["_law_script"] (ya ydy):=⟨rfl,rfl,rfl,by decide +kernel,rfl,by decide +kernel,by decide +kernel⟩
def yja (K:W.Frag):Sp:=fun vs H Q _=>∃ (l:Addr) (ns:List Int),vs = [.ref l]/\SqL K H l (ns.map V.int)/\ns.length <= 63/\∀ H',Q (.bl true) H'
theorem ywb (T:Txt K mg a):we P w K mg base CX0 14 a.f_law a.d_law ["_law_script"] (yja K):=by
 refine T.F_law.ok u6 (fun vs H Q E h=>?_) (fun cdv A outer s H vs Q E hr h=>?_)
 ·obtain ⟨l,ns,rfl,_⟩:=h
  rfl
 ·obtain ⟨l,ns,rfl,hS,hlen,k⟩:=h
  refine yq (vd (i:=1) u6.nd rfl (Or.inl rfl) (yz (ybv T) (hr.mono (by decide)) rfl T.m_q65 T.F_q65.kp T.B_q65 .nil vf (yb (pv 0) (yb yj yg (yc rfl)) (yc rfl)))) ?_
  refine yq (vd (i:=2) u6.nd rfl (Or.inl rfl) (yz (yv3 T) (hr.mono (by decide)) rfl T.m_q66 T.F_q66.kp T.B_q66 .nil vf (yb (yz (ybv T) (hr.mono (by decide)) rfl T.m_q65 T.F_q65.kp T.B_q65 .nil vf (yb (pv 0) (yb yj yg (yc rfl)) (yc rfl))) (yb yj yg (yc rfl)) (yc rfl)))) ?_
  refine yq (vd (i:=3) u6.nd rfl (Or.inl rfl) (yz (yw7 T) (hr.mono (by decide)) rfl T.m_q68 T.F_q68.kp T.B_q68 .nil vf (yb (pv 0) (yb yj (yb (ym vt (pv 1) yj) (yb yj yg (yc rfl)) (yc rfl)) (yc rfl)) (yc rfl)))) ?_
  refine yq (vd (i:=4) u6.nd rfl (Or.inl rfl) (yz (yre T) (hr.mono (by decide)) rfl T.m_q67 T.F_q67.kp T.B_q67 .nil vf (yb (xo u3 (pv 0) (ug yj) uh) (yb (ym vt (ym vk (pv 1) yj) yj) (yb (yz (ybv T) (hr.mono (by decide)) rfl T.m_q65 T.F_q65.kp T.B_q65 .nil vf (yb (pv 0) (yb yj yg (yc rfl)) (yc rfl))) yg (yc rfl)) (yc rfl)) (yc rfl)))) ?_
  refine yq (vd (i:=5) u6.nd rfl (Or.inl rfl) (yz (yne T) (hr.mono (by decide)) rfl T.m_q58 T.F_q58.kp T.B_q58 .nil vf (yb (pv 2) (yb (pv 4) (yb (pv 3) yg (yc rfl)) (yc rfl)) (yc rfl)))) ?_
  refine yq (vd (i:=6) u6.nd rfl (Or.inl rfl) (ym vk (pv 1) yj)) ?_
  refine yq (vd (i:=7) u6.nd rfl (Or.inl rfl) (yz (ywf T) (hr.mono (by decide)) rfl T.m_q70 T.F_q70.kp T.B_q70 .nil vf (yb (pv 5) (yb (pv 6) (yb (yz (ybv T) (hr.mono (by decide)) rfl T.m_q65 T.F_q65.kp T.B_q65 .nil vf (yb (pv 0) (yb yj yg (yc rfl)) (yc rfl))) yg (yc rfl)) (yc rfl)) (yc rfl)))) ?_
  refine yq (vd (i:=8) u6.nd rfl (Or.inl rfl) (ym vt (yz (ybv T) (hr.mono (by decide)) rfl T.m_q65 T.F_q65.kp T.B_q65 .nil vf (yb (pv 0) (yb yj yg (yc rfl)) (yc rfl))) yj)) ?_
  refine yq (vd (i:=9) u6.nd rfl (Or.inl rfl) (x8 xt rfl T.z_list (by decide +kernel) (yb (pv 7) yg (yc rfl)))) ?_
  refine yq (vd (i:=10) u6.nd rfl (Or.inl rfl) (yz (yvr T) (hr.mono (by decide)) rfl T.m_q71 T.F_q71.kp T.B_q71 .nil vf (yb (pv 2) (yb (pv 9) (yb (pv 8) (yb (pv 3) yg (yc rfl)) (yc rfl)) (yc rfl)) (yc rfl)))) ?_
  refine yq (vd (i:=11) u6.nd rfl (Or.inl rfl) (yz (yyi T) (hr.mono (by decide)) rfl T.m_q72 T.F_q72.kp T.B_q72 .nil vf (yb (pv 2) (yb (pv 9) (yb (pv 8) (yb (pv 3) yg (yc rfl)) (yc rfl)) (yc rfl)) (yc rfl)))) ?_
  refine yq (wd (y7 (ym1 hr.units) (pv 9) (pv 7) (vg _)) (yi (yv ybk)) ve) ?_
  refine yq (wd (y7 yst (pv 10) yah (vg _)) (yk (wd (PW.pt (yaf (xa (xj (yz (yql T) (hr.mono (by decide)) rfl T.m_q69 T.F_q69.kp T.B_q69 .nil vf (yb (pv 10) yg (yc rfl))))) (yaf (y7 ynk (yr yw rfl T.z_len (by decide +kernel) (yb (pv 10) yg (yc rfl))) (pv 8) (vg _)) (ybb (y7 (ym1 hr.units) (yz (yne T) (hr.mono (by decide)) rfl T.m_q58 T.F_q58.kp T.B_q58 .nil vf (yb (pv 2) (yb (pv 10) (yb (pv 3) yg (yc rfl)) (yc rfl)) (yc rfl))) (pv 7) (vg _)))))) (yi (yv ybk)) ve) (yk (wd (y7 yf2 (ym vt (pv 6) yj) (yi0 (yb yj (yb yj yg (yc rfl)) (yc rfl))) (by with_unfolding_all rfl)) (yi (yv ybk)) ve) (yi (yv (jd (ymo hr.units) (pv 11) (yi0 (yb (pv 10) (yb (yr yw rfl T.z_len (by decide +kernel) (yb (pv 7) yg (yc rfl))) yg (yc rfl)) (yc rfl))) (vg _)))))) ve) ?_
  refine yq (wd (PW.pt (yxf (y7 (ymo hr.units) (pv 7) (pv 5) (vg _)) (ysj (y7 uv (yr yw rfl T.z_len (by decide +kernel) (yb (pv 4) yg (yc rfl))) (pv 8) (vg _))))) (yi (yv ybk)) ve) ?_
  refine yq (wd (y7 ymw (pv 11) yah (vg _)) (yi (yv ybk)) ve) ?_
  refine yq (wd (PW.pt (yaf (xa (xj (yz (yql T) (hr.mono (by decide)) rfl T.m_q69 T.F_q69.kp T.B_q69 .nil vf (yb (x5 zn (pv 11) yj (fun _ _=>rfl)) yg (yc rfl))))) (yaf (y7 ynk (yr yw rfl T.z_len (by decide +kernel) (yb (x5 zn (pv 11) yj (fun _ _=>rfl)) yg (yc rfl))) (pv 8) (vg _)) (ybb (y7 yyl (x5 zn (pv 11) yj (fun _ _=>rfl)) (yr yw rfl T.z_len (by decide +kernel) (yb (pv 7) yg (yc rfl))) (vg _)))))) (yi (yv ybk)) ve) ?_
  refine ⟨_,(yi (yv (jd (ymo hr.units) (yz (yne T) (hr.mono (by decide)) rfl T.m_q58 T.F_q58.kp T.B_q58 .nil vf (yb (pv 2) (yb (x5 zn (pv 11) yj (fun _ _=>rfl)) (yb (pv 3) yg (yc rfl)) (yc rfl)) (yc rfl))) (xo u3 (pv 7) uh (ug (x5 zn (pv 11) yj (fun _ _=>rfl)))) (vg _)))),?_⟩
  try dsimp only [wc]
  refine yo (σ':=[some _,none,none,none,none,none,none,none,none,none,none,none]) rfl ?_
  walk_at "rd"
  refine ⟨l,ns,0,rfl,hS,by decide,fun wy w0 w1=>?_⟩
  walk_at "rd"
  refine ⟨l,ns,1,rfl,hS,by decide,fun c1 c10 c11=>?_⟩
  walk_at "rd"
  refine ⟨c1,2,rfl,c10,c11,by decide,by decide,fun L n lk kd tp ps H1 hL0 hL1 n1 n6 hR1 S1=>?_⟩
  walk_at "rd"
  obtain ⟨N,hN,N3⟩:∃ N:Nat,wy % 2 = (N:Int)/\N < 3:=⟨(wy % 2).toNat,by omega,by omega⟩
  rw [hN]
  refine ⟨l,ns,2,N,2,rfl,S1.seq hS,by decide,by omega,by decide,fun ll lt tt H2 hll0 hll2 hlt S2=>?_⟩
  have S12:=S1.trans S2
  walk_at "rd"
  refine ybl (S12.seq hS) fun u hu=>?_
  obtain ⟨ms,hms,hml,_⟩:=yr5 ns (some 6) none
  rw [hms]
  with_reducible first | refine yy hu fun H3 S3 hu3=>?_ | refine new_obj hu fun H3 S3 hu3=>?_
  walk_at "rd"
  refine ⟨l,ns,3,rfl,(S12.trans S3).seq hS,by decide,fun c5 _ _=>?_⟩
  walk_at "rd"
  obtain ⟨z,hz,hz2⟩:∃ z:Nat,wy / 2 % 3 = (z:Int)/\z <= 2:=⟨(wy / 2 % 3).toNat,by omega,by omega⟩
  rw [hz]
  refine ⟨u,ms,z,c5,rfl,hu3,by omega,by omega,fun tx ts H4 htx0 htx4 hts htz S4=>?_⟩
  have S24:=S3.trans S4
  have S14:=S2.trans S24
  have S04:=S12.trans S24
  have bdN:∀ {b:Nat},b <= 100->6 + 6 * (N * (9 * 2 + 1)) + 6 * (9 * b + 1) + 20 < 1000000:=fun {b} h'=>by
   have:N * 19 <= 2 * 19:=Nat.mul_le_mul_right _ (by omega)
   omega
  have hpre:=yfv tt N
  have tlG:∀ {G:Hp} {q:Addr} {us:List Int},vm H4 G->G q = some (.lst (us.map V.int))->Sgs us->us.length <= 100->vbq G L q (.ref ll) n lk kd tp ps us N 2 lt tt:=fun S hq hu hl=>⟨S _ _ (S14 _ _ hL1),n1,n6,(hR1.same S14).same S,⟨hq,hu,by omega⟩,ynq.of (S _ _ (S24 _ _ hll2)) fun i hi=>((hlt i hi).same S24).same S,by decide,by omega,bdN (by omega)⟩
  have hch:∀ (us:List Int) j,j < (dec us).length->Ch (xr n kd ps (wz tt N) us j):=fun us j _=>ycz n1 n6 hpre j
  walk_at "rd"
  refine ⟨L,tx,.ref ll,n,lk,kd,tp,ps,ts,N,2,lt,tt,rfl,tlG (vm.refl _) htx4 hts (by omega),by omega,fun F H6 hF0 hF6 S6=>?_⟩
  have hol:=ynz (kd:=kd) (ps:=ps) (ts:=ts) n1 n6 hpre (by omega)
  have hop:=yoz (kd:=kd) (ps:=ps) (ts:=ts) n1 n6 hpre
  have hF6:H6 F = some (.lst ((j4 n kd ps (wz tt N) ts).map V.int)):=hF6
  have hTb:Byt (j4 n kd ps (wz tt N) ts):=ymt _
  obtain ⟨bk1,bk2,bk3⟩:=yoo (kd:=kd) (ps:=ps) (bs:=[]) n1 n6 hpre hts fun _ z=>(nomatch z)
  rw [List.append_nil] at bk1 bk2 bk3
  walk_at "rd"
  refine ⟨l,ns,4,rfl,(S04.trans S6).seq hS,by decide,fun c4 c40 c41=>?_⟩
  walk_at "rd"
  have k0:0 <= wy / 6/\wy / 6 < 2147483647:=by omega
  generalize wy / 6 = ki at k0
  refine ⟨F,j4 n kd ps (wz tt N) ts,ki,c4,rfl,hF6,hTb,hop,hol,k0.1,k0.2,c40,c41,fun B bs H7 hB0 hB7 hbb hbl hk1 hk2 S7=>?_⟩
  have S47:=S6.trans S7
  walk_at "rd"
  refine ⟨l,ns,5,rfl,(S04.trans S47).seq hS,by decide,fun c6 c60 c61=>?_⟩
  walk_at "rd"
  obtain ⟨mo,hmo,mo3⟩:∃ mo:Nat,c6 % 4 = (mo:Int)/\mo <= 3:=⟨(c6 % 4).toNat,by omega,by omega⟩
  rw [hmo]
  walk_at "rd"
  refine yid (SqL.of hB7) fun hd hhd0=>?_
  with_reducible first | refine yy hhd0 fun H8 S8 hhd8=>?_ | refine new_obj hhd0 fun H8 S8 hhd8=>?_
  have S48:=S47.trans S8
  have bdM:6 + 6 * (N * (9 * 2 + 1)) + 54 * mo + 200 < 1000000:=by
   have:N * 19 <= 2 * 19:=Nat.mul_le_mul_right _ (by omega)
   omega
  have ri:∀ {G:Hp},vm H8 G->yze G L hd (.ref ll) n lk kd tp ps bs mo N 2 lt tt:=fun S=>⟨(S48.trans S) _ _ (S14 _ _ hL1),n1,n6,(hR1.same S14).same (S48.trans S),S _ _ hhd8,hbb,by omega,by omega,ynq.of ((S48.trans S) _ _ (S24 _ _ hll2)) fun i hi=>((hlt i hi).same S24).same (S48.trans S),by decide,by omega,bdM⟩
  have sI:∀ {G:Hp} {q:Addr} {xs:List Int},G q = some (.lst (xs.map V.int))->Sd K G (.ref q) (.list (xs.map PyData.int)) 1:=fun h=>Sd.lst (SqL.of h) (Sds.ints _)
  have hB8:=S8 _ _ hB7
  walk_at "rd"
  refine ⟨L,hd,.ref ll,n,lk,kd,tp,ps,bs,mo,N,2,lt,tt,rfl,ri (vm.refl _),fun M r H9 hM hok he hr0 hr9 S9=>?_,fun hno H9 S9=>?_⟩
  ·obtain ⟨cv1,cv2⟩:=yfw hok
   rw [he,List.take_length] at cv1
   have hus:=ymd (fa0 n ps) bs (rS n kd ps (wz tt N)) M
   have hul:=je (fa0 n ps) bs (rS n kd ps (wz tt N)) M
   walk_at "rd"
   refine ⟨L,hd,.ref ll,n,lk,kd,tp,ps,bs,mo,N,2,lt,tt,rfl,ri S9,fun M2 t r2 HA hM2 hok2 ht0 hr20 htA hrA SA=>?_,fun hno2 HA SA=>(hno2 M hM hok).elim⟩
   obtain rfl:M2 = M:=hok.uniq hok2.b1 hok2.b0
   rw [he] at htA
   generalize rtx (fa0 n ps) bs (rS n kd ps (wz tt N)) M2 = us at cv1 hus hul hr9 hrA
   have S8A:=S9.trans SA
   walk_at "rd"
   refine yc6 bs bs (SqL.of (S8A _ _ hhd8)) (SqL.of (S8A _ _ hB8)) ?_
   rw [decide_eq_true rfl]
   walk_at "rd"
   refine ypl (fun z=>nomatch z) ?_
   walk_at "rd"
   refine ⟨r,us,rfl,SA _ _ hr9,hus,?_⟩
   walk_at "rd"
   refine x3 (SqL.of (SA _ _ hr9)) ?_
   rw [List.length_map,hul]
   walk_at "rd"
   refine jy (by omega) ?_
   walk_at "rd"
   refine ⟨L,r,.ref ll,n,lk,kd,tp,ps,us,N,2,lt,tt,rfl,tlG (S48.trans S8A) (SA _ _ hr9) hus (by omega),by omega,fun P HB hP0 hPB SB=>?_⟩
   have hPB:HB P = some (.lst ((j4 n kd ps (wz tt N) us).map V.int)):=hPB
   rw [cv1] at hPB
   have S8B:=S8A.trans SB
   walk_at "rd"
   refine yc6 bs bs (SqL.of hPB) (SqL.of (S8B _ _ hB8)) ?_
   rw [decide_eq_true rfl]
   walk_at "rd"
   have nk1:ki % 6 ≠ 1:=fun z=>by
    have e:=hk1 z
    have e2:ts = us:=yl8 hts hus (hch ts) (hch us) (by
     show (j4 n kd ps (wz tt N) ts).take (j4 n kd ps (wz tt N) us).length = j4 n kd ps (wz tt N) us
     rw [cv1,e,List.length_take,Nat.min_eq_left (by omega)])
    have e3:=congrArg List.length e
    rw [<- cv1,<- e2,List.length_take] at e3
    omega
   have nk2:ki % 6 ≠ 2:=fun z=>by
    obtain ⟨e,hne,e1⟩:=hk2 z
    have e2:us = ts:=yl8 hus hts (hch us) (hch ts) (by
     show (j4 n kd ps (wz tt N) us).take (j4 n kd ps (wz tt N) ts).length = j4 n kd ps (wz tt N) ts
     rw [cv1,e1,List.take_left])
    have e3:=congrArg List.length e1
    rw [<- cv1,e2,List.length_append] at e3
    exact hne (List.eq_nil_of_length_eq_zero (by omega))
   refine ⟨by walk_at "len",fun tw htw=>?_⟩
   with_reducible first | refine yy htw fun HC SC htwC=>?_ | refine new_obj htw fun HC SC htwC=>?_
   refine ⟨tw,[.int 1,.int 2],rfl,.inr (SqT.of htwC),rfl,rfl,?_⟩
   rw [vb8 nk1 nk2]
   have S8C:=S8B.trans SC
   walk_at "rd"
   refine yno ?_
   walk_at "rd"
   refine x3 (SqL.of (S8C _ _ hB8)) ?_
   rw [List.length_map]
   walk_at "rd"
   refine ⟨by walk_at "len",fun u9 hu9=>?_⟩
   with_reducible first | refine yy hu9 fun HD SD hu9D=>?_ | refine new_obj hu9 fun HD SD hu9D=>?_
   have SAD:=SB.trans (SC.trans SD)
   refine vag (Sd.tup (SqT.of (SAD _ _ htA)) (.cons (sI (SAD _ _ hrA)) (.cons (Sd.int _) .nil))) (Sd.tup (SqT.of hu9D) (.cons (sI (SAD _ _ (SA _ _ hr9))) (.cons (Sd.int _) .nil))) (by decide) ?_
   exact k _
  ·have first:∀ {HA:Hp} (w:V),vm H8 HA->True:=fun _ _=>trivial
   have nts:bs = j4 n kd ps (wz tt N) ts->¬ ts.length <= mo:=fun e hle=>hno ts.length hle (by rw [e]; exact bk1) (by rw [e]; exact bk3)
   have F8:=S8 _ _ (S7 _ _ hF6)
   have X8:H8 tx = some (.lst (ts.map V.int)):=S48 _ _ htx4
   walk_at "rd"
   refine ⟨L,hd,.ref ll,n,lk,kd,tp,ps,bs,mo,N,2,lt,tt,rfl,ri S9,fun M2 t r2 HA hM2 hok2 ht0 hr20 htA hrA SA=>?_,fun hno2 HA SA=>?_⟩
   ·have S8A:=S9.trans SA
    obtain ⟨cv1,cv2⟩:=yfw hok2
    have hle:=hok2.le
    have hne:=hno M2 hM2 hok2
    have hus:=ymd (fa0 n ps) bs (rS n kd ps (wz tt N)) M2
    have hul:=je (fa0 n ps) bs (rS n kd ps (wz tt N)) M2
    generalize rtx (fa0 n ps) bs (rS n kd ps (wz tt N)) M2 = us at cv1 cv2 hus hul hrA
    generalize rTL (fa0 n ps) bs (rS n kd ps (wz tt N)) M2 = tl at cv1 cv2 hle hne htA
    walk_at "rd"
    refine yc6 bs bs (SqL.of (S8A _ _ hhd8)) (SqL.of (S8A _ _ hB8)) ?_
    rw [decide_eq_true rfl]
    walk_at "rd"
    refine yyv ?_
    walk_at "rd"
    refine yc6 bs (j4 n kd ps (wz tt N) ts) (SqL.of (S8A _ _ hB8)) (SqL.of (S8A _ _ F8)) ?_
    have j5:∀ {Z:Prop},Z->Z:=fun z=>z
    by_cases hbt:bs = j4 n kd ps (wz tt N) ts
    ·have h1:=nts hbt
     rw [decide_eq_true hbt]
     walk_at "rd"
     refine x3 (SqL.of (S8A _ _ X8)) ?_
     rw [List.length_map]
     walk_at "rd"
     refine jy (by omega) ?_
     walk_at "rd"
     refine jy (fun z=>nomatch z) ?_
     walk_at "rd"
     refine z6 (SqT.of htA) (vz (j:=0) rfl) ?_
     walk_at "rd"
     refine ⟨r2,us,rfl,hrA,hus,?_⟩
     walk_at "rd"
     refine z6 (SqT.of htA) (vz (j:=0) rfl) ?_
     walk_at "rd"
     refine x3 (SqL.of hrA) ?_
     rw [List.length_map,hul]
     walk_at "rd"
     refine jy (by omega) ?_
     walk_at "rd"
     refine z6 (SqT.of htA) (vz (j:=1) rfl) ?_
     walk_at "rd"
     refine x3 (SqL.of (S8A _ _ hB8)) ?_
     rw [List.length_map]
     walk_at "rd"
     refine jy (by omega) ?_
     walk_at "rd"
     refine z6 (SqT.of htA) (vz (j:=0) rfl) ?_
     walk_at "rd"
     refine ⟨L,r2,.ref ll,n,lk,kd,tp,ps,us,N,2,lt,tt,rfl,tlG (S48.trans S8A) hrA hus (by omega),by omega,fun P HB hP0 hPB SB=>?_⟩
     have hPB:HB P = some (.lst ((j4 n kd ps (wz tt N) us).map V.int)):=hPB
     rw [cv1] at hPB
     have S8B:=S8A.trans SB
     walk_at "rd"
     refine z6 (SqT.of (SB _ _ htA)) (vz (j:=1) rfl) ?_
     walk_at "rd"
     refine ybl (SqL.of (S8B _ _ hB8)) fun q5 hq5=>?_
     rw [z0,<- List.map_take]
     with_reducible first | refine yy hq5 fun HC SC hq5C=>?_ | refine new_obj hq5 fun HC SC hq5C=>?_
     refine yc6 (bs.take tl) (bs.take tl) (SqL.of (SC _ _ hPB)) (SqL.of hq5C) ?_
     rw [decide_eq_true rfl]
     exact k _
    ·rw [decide_eq_false hbt]
     walk_at "rd"
     refine jy (fun z=>nomatch z) ?_
     walk_at "rd"
     refine z6 (SqT.of htA) (vz (j:=0) rfl) ?_
     walk_at "rd"
     refine ⟨r2,us,rfl,hrA,hus,?_⟩
     walk_at "rd"
     refine z6 (SqT.of htA) (vz (j:=0) rfl) ?_
     walk_at "rd"
     refine x3 (SqL.of hrA) ?_
     rw [List.length_map,hul]
     walk_at "rd"
     refine jy (by omega) ?_
     walk_at "rd"
     refine z6 (SqT.of htA) (vz (j:=1) rfl) ?_
     walk_at "rd"
     refine x3 (SqL.of (S8A _ _ hB8)) ?_
     rw [List.length_map]
     walk_at "rd"
     refine jy (by omega) ?_
     walk_at "rd"
     refine z6 (SqT.of htA) (vz (j:=0) rfl) ?_
     walk_at "rd"
     refine ⟨L,r2,.ref ll,n,lk,kd,tp,ps,us,N,2,lt,tt,rfl,tlG (S48.trans S8A) hrA hus (by omega),by omega,fun P HB hP0 hPB SB=>?_⟩
     have hPB:HB P = some (.lst ((j4 n kd ps (wz tt N) us).map V.int)):=hPB
     rw [cv1] at hPB
     have S8B:=S8A.trans SB
     walk_at "rd"
     refine z6 (SqT.of (SB _ _ htA)) (vz (j:=1) rfl) ?_
     walk_at "rd"
     refine ybl (SqL.of (S8B _ _ hB8)) fun q5 hq5=>?_
     rw [z0,<- List.map_take]
     with_reducible first | refine yy hq5 fun HC SC hq5C=>?_ | refine new_obj hq5 fun HC SC hq5C=>?_
     refine yc6 (bs.take tl) (bs.take tl) (SqL.of (SC _ _ hPB)) (SqL.of hq5C) ?_
     rw [decide_eq_true rfl]
     exact k _
   ·have S8A:=S9.trans SA
    walk_at "rd"
    refine yc6 bs bs (SqL.of (S8A _ _ hhd8)) (SqL.of (S8A _ _ hB8)) ?_
    rw [decide_eq_true rfl]
    walk_at "rd"
    refine yyv ?_
    walk_at "rd"
    refine yc6 bs (j4 n kd ps (wz tt N) ts) (SqL.of (S8A _ _ hB8)) (SqL.of (S8A _ _ F8)) ?_
    by_cases hbt:bs = j4 n kd ps (wz tt N) ts
    ·have h1:=nts hbt
     rw [decide_eq_true hbt]
     walk_at "rd"
     refine x3 (SqL.of (S8A _ _ X8)) ?_
     rw [List.length_map]
     walk_at "rd"
     refine jy (by omega) ?_
     walk_at "rd"
     refine yt6 ?_
     walk_at "rd"
     exact k _
    ·rw [decide_eq_false hbt]
     walk_at "rd"
     refine yt6 ?_
     walk_at "rd"
     exact k _
end
theorem all_mk {l:W.OpenLaw} {w:World} {K:W.Frag} {h:Heap} {mg:Str->Option Value} {fa:Addr} (X:K.In h) (G:h.Ns mainGlobals mg) (hfa:mg "law" = some (.ref fa))
  {C_Even:Addr}
  {C_Quick:Addr}
  {C_Run:Addr}
  {C_Mx:Addr}
  {C_Book:Addr}
  {C_Span:Addr}
  {C_Ft:Addr}
  {C_Sk:Addr}
  {C_NT:Addr}
  {C_NY:Addr}
  {C_NoMost:Addr}
  {C_NC:Addr}
  {C_NB:Addr}
  {C_NL:Addr}
  {C_NP:Addr}
  {f_q1:Addr} {oc_q1 kV_q1 dc_q1 pm_q1 cd_q1 ct_q1:Value} {od_q1 an_q1:Option Addr} {sl_q1:Array (Option Value)}
  {f_q2:Addr} {oc_q2 kV_q2 dc_q2 pm_q2 cd_q2 ct_q2:Value} {od_q2 an_q2:Option Addr} {sl_q2:Array (Option Value)}
  {f_q3:Addr} {oc_q3 kV_q3 dc_q3 pm_q3 cd_q3 ct_q3:Value} {od_q3 an_q3:Option Addr} {sl_q3:Array (Option Value)}
  {f_q4:Addr} {oc_q4 kV_q4 dc_q4 pm_q4 cd_q4 ct_q4:Value} {od_q4 an_q4:Option Addr} {sl_q4:Array (Option Value)}
  {f_q5:Addr} {oc_q5 kV_q5 dc_q5 pm_q5 cd_q5 ct_q5:Value} {od_q5 an_q5:Option Addr} {sl_q5:Array (Option Value)}
  {f_q6:Addr} {oc_q6 kV_q6 dc_q6 pm_q6 cd_q6 ct_q6:Value} {od_q6 an_q6:Option Addr} {sl_q6:Array (Option Value)}
  {f_q7:Addr} {oc_q7 kV_q7 dc_q7 pm_q7 cd_q7 ct_q7:Value} {od_q7 an_q7:Option Addr} {sl_q7:Array (Option Value)}
  {f_q8:Addr} {oc_q8 kV_q8 dc_q8 pm_q8 cd_q8 ct_q8:Value} {od_q8 an_q8:Option Addr} {sl_q8:Array (Option Value)}
  {f_q9:Addr} {oc_q9 kV_q9 dc_q9 pm_q9 cd_q9 ct_q9:Value} {od_q9 an_q9:Option Addr} {sl_q9:Array (Option Value)}
  {f_q10:Addr} {oc_q10 kV_q10 dc_q10 pm_q10 cd_q10 ct_q10:Value} {od_q10 an_q10:Option Addr} {sl_q10:Array (Option Value)}
  {f_q11:Addr} {oc_q11 kV_q11 dc_q11 pm_q11 cd_q11 ct_q11:Value} {od_q11 an_q11:Option Addr} {sl_q11:Array (Option Value)}
  {f_q12:Addr} {oc_q12 kV_q12 dc_q12 pm_q12 cd_q12 ct_q12:Value} {od_q12 an_q12:Option Addr} {sl_q12:Array (Option Value)}
  {f_q13:Addr} {oc_q13 kV_q13 dc_q13 pm_q13 cd_q13 ct_q13:Value} {od_q13 an_q13:Option Addr} {sl_q13:Array (Option Value)}
  {f_q14:Addr} {oc_q14 kV_q14 dc_q14 pm_q14 cd_q14 ct_q14:Value} {od_q14 an_q14:Option Addr} {sl_q14:Array (Option Value)}
  {f_q15:Addr} {oc_q15 kV_q15 dc_q15 pm_q15 cd_q15 ct_q15:Value} {od_q15 an_q15:Option Addr} {sl_q15:Array (Option Value)}
  {f_q16:Addr} {oc_q16 kV_q16 dc_q16 pm_q16 cd_q16 ct_q16:Value} {od_q16 an_q16:Option Addr} {sl_q16:Array (Option Value)}
  {f_q17:Addr} {oc_q17 kV_q17 dc_q17 pm_q17 cd_q17 ct_q17:Value} {od_q17 an_q17:Option Addr} {sl_q17:Array (Option Value)}
  {f_q18:Addr} {oc_q18 kV_q18 dc_q18 pm_q18 cd_q18 ct_q18:Value} {od_q18 an_q18:Option Addr} {sl_q18:Array (Option Value)}
  {f_q19:Addr} {oc_q19 kV_q19 dc_q19 pm_q19 cd_q19 ct_q19:Value} {od_q19 an_q19:Option Addr} {sl_q19:Array (Option Value)}
  {f_q20:Addr} {oc_q20 kV_q20 dc_q20 pm_q20 cd_q20 ct_q20:Value} {od_q20 an_q20:Option Addr} {sl_q20:Array (Option Value)}
  {f_q21:Addr} {oc_q21 kV_q21 dc_q21 pm_q21 cd_q21 ct_q21:Value} {od_q21 an_q21:Option Addr} {sl_q21:Array (Option Value)}
  {f_q22:Addr} {oc_q22 kV_q22 dc_q22 pm_q22 cd_q22 ct_q22:Value} {od_q22 an_q22:Option Addr} {sl_q22:Array (Option Value)}
  {f_q23:Addr} {oc_q23 kV_q23 dc_q23 pm_q23 cd_q23 ct_q23:Value} {od_q23 an_q23:Option Addr} {sl_q23:Array (Option Value)}
  {f_q24:Addr} {oc_q24 kV_q24 dc_q24 pm_q24 cd_q24 ct_q24:Value} {od_q24 an_q24:Option Addr} {sl_q24:Array (Option Value)}
  {f_q25:Addr} {oc_q25 kV_q25 dc_q25 pm_q25 cd_q25 ct_q25:Value} {od_q25 an_q25:Option Addr} {sl_q25:Array (Option Value)}
  {f_q26:Addr} {oc_q26 kV_q26 dc_q26 pm_q26 cd_q26 ct_q26:Value} {od_q26 an_q26:Option Addr} {sl_q26:Array (Option Value)}
  {f_q27:Addr} {oc_q27 kV_q27 dc_q27 pm_q27 cd_q27 ct_q27:Value} {od_q27 an_q27:Option Addr} {sl_q27:Array (Option Value)}
  {f_q28:Addr} {oc_q28 kV_q28 dc_q28 pm_q28 cd_q28 ct_q28:Value} {od_q28 an_q28:Option Addr} {sl_q28:Array (Option Value)}
  {f_q29:Addr} {oc_q29 kV_q29 dc_q29 pm_q29 cd_q29 ct_q29:Value} {od_q29 an_q29:Option Addr} {sl_q29:Array (Option Value)}
  {f_q30:Addr} {oc_q30 kV_q30 dc_q30 pm_q30 cd_q30 ct_q30:Value} {od_q30 an_q30:Option Addr} {sl_q30:Array (Option Value)}
  {f_q31:Addr} {oc_q31 kV_q31 dc_q31 pm_q31 cd_q31 ct_q31:Value} {od_q31 an_q31:Option Addr} {sl_q31:Array (Option Value)}
  {f_q32:Addr} {oc_q32 kV_q32 dc_q32 pm_q32 cd_q32 ct_q32:Value} {od_q32 an_q32:Option Addr} {sl_q32:Array (Option Value)}
  {f_q33:Addr} {oc_q33 kV_q33 dc_q33 pm_q33 cd_q33 ct_q33:Value} {od_q33 an_q33:Option Addr} {sl_q33:Array (Option Value)}
  {f_q34:Addr} {oc_q34 kV_q34 dc_q34 pm_q34 cd_q34 ct_q34:Value} {od_q34 an_q34:Option Addr} {sl_q34:Array (Option Value)}
  {f_q35:Addr} {oc_q35 kV_q35 dc_q35 pm_q35 cd_q35 ct_q35:Value} {od_q35 an_q35:Option Addr} {sl_q35:Array (Option Value)}
  {f_q36:Addr} {oc_q36 kV_q36 dc_q36 pm_q36 cd_q36 ct_q36:Value} {od_q36 an_q36:Option Addr} {sl_q36:Array (Option Value)}
  {f_q37:Addr} {oc_q37 kV_q37 dc_q37 pm_q37 cd_q37 ct_q37:Value} {od_q37 an_q37:Option Addr} {sl_q37:Array (Option Value)}
  {f_q38:Addr} {oc_q38 kV_q38 dc_q38 pm_q38 cd_q38 ct_q38:Value} {od_q38 an_q38:Option Addr} {sl_q38:Array (Option Value)}
  {f_q39:Addr} {oc_q39 kV_q39 dc_q39 pm_q39 cd_q39 ct_q39:Value} {od_q39 an_q39:Option Addr} {sl_q39:Array (Option Value)}
  {f_q40:Addr} {oc_q40 kV_q40 dc_q40 pm_q40 cd_q40 ct_q40:Value} {od_q40 an_q40:Option Addr} {sl_q40:Array (Option Value)}
  {f_q41:Addr} {oc_q41 kV_q41 dc_q41 pm_q41 cd_q41 ct_q41:Value} {od_q41 an_q41:Option Addr} {sl_q41:Array (Option Value)}
  {f_q42:Addr} {oc_q42 kV_q42 dc_q42 pm_q42 cd_q42 ct_q42:Value} {od_q42 an_q42:Option Addr} {sl_q42:Array (Option Value)}
  {f_q43:Addr} {oc_q43 kV_q43 dc_q43 pm_q43 cd_q43 ct_q43:Value} {od_q43 an_q43:Option Addr} {sl_q43:Array (Option Value)}
  {f_q44:Addr} {oc_q44 kV_q44 dc_q44 pm_q44 cd_q44 ct_q44:Value} {od_q44 an_q44:Option Addr} {sl_q44:Array (Option Value)}
  {f_q45:Addr} {oc_q45 kV_q45 dc_q45 pm_q45 cd_q45 ct_q45:Value} {od_q45 an_q45:Option Addr} {sl_q45:Array (Option Value)}
  {f_q46:Addr} {oc_q46 kV_q46 dc_q46 pm_q46 cd_q46 ct_q46:Value} {od_q46 an_q46:Option Addr} {sl_q46:Array (Option Value)}
  {f_q47:Addr} {oc_q47 kV_q47 dc_q47 pm_q47 cd_q47 ct_q47:Value} {od_q47 an_q47:Option Addr} {sl_q47:Array (Option Value)}
  {f_q48:Addr} {oc_q48 kV_q48 dc_q48 pm_q48 cd_q48 ct_q48:Value} {od_q48 an_q48:Option Addr} {sl_q48:Array (Option Value)}
  {f_q49:Addr} {oc_q49 kV_q49 dc_q49 pm_q49 cd_q49 ct_q49:Value} {od_q49 an_q49:Option Addr} {sl_q49:Array (Option Value)}
  {f_q50:Addr} {oc_q50 kV_q50 dc_q50 pm_q50 cd_q50 ct_q50:Value} {od_q50 an_q50:Option Addr} {sl_q50:Array (Option Value)}
  {f_q51:Addr} {oc_q51 kV_q51 dc_q51 pm_q51 cd_q51 ct_q51:Value} {od_q51 an_q51:Option Addr} {sl_q51:Array (Option Value)}
  {f_q52:Addr} {oc_q52 kV_q52 dc_q52 pm_q52 cd_q52 ct_q52:Value} {od_q52 an_q52:Option Addr} {sl_q52:Array (Option Value)}
  {f_q53:Addr} {oc_q53 kV_q53 dc_q53 pm_q53 cd_q53 ct_q53:Value} {od_q53 an_q53:Option Addr} {sl_q53:Array (Option Value)}
  {f_q54:Addr} {oc_q54 kV_q54 dc_q54 pm_q54 cd_q54 ct_q54:Value} {od_q54 an_q54:Option Addr} {sl_q54:Array (Option Value)}
  {f_q55:Addr} {oc_q55 kV_q55 dc_q55 pm_q55 cd_q55 ct_q55:Value} {od_q55 an_q55:Option Addr} {sl_q55:Array (Option Value)}
  {f_q56:Addr} {oc_q56 kV_q56 dc_q56 pm_q56 cd_q56 ct_q56:Value} {od_q56 an_q56:Option Addr} {sl_q56:Array (Option Value)}
  {f_q57:Addr} {oc_q57 kV_q57 dc_q57 pm_q57 cd_q57 ct_q57:Value} {od_q57 an_q57:Option Addr} {sl_q57:Array (Option Value)}
  {f_q58:Addr} {oc_q58 kV_q58 dc_q58 pm_q58 cd_q58 ct_q58:Value} {od_q58 an_q58:Option Addr} {sl_q58:Array (Option Value)}
  {D_q58:Addr} {Do_q58:Option Addr} {Dn_q58:Nat} {Ds_q58:Array (Option Value)}
  {f_q59:Addr} {oc_q59 kV_q59 dc_q59 pm_q59 cd_q59 ct_q59:Value} {od_q59 an_q59:Option Addr} {sl_q59:Array (Option Value)}
  {f_q60:Addr} {oc_q60 kV_q60 dc_q60 pm_q60 cd_q60 ct_q60:Value} {od_q60 an_q60:Option Addr} {sl_q60:Array (Option Value)}
  {f_q61:Addr} {oc_q61 kV_q61 dc_q61 pm_q61 cd_q61 ct_q61:Value} {od_q61 an_q61:Option Addr} {sl_q61:Array (Option Value)}
  {f_q62:Addr} {oc_q62 kV_q62 dc_q62 pm_q62 cd_q62 ct_q62:Value} {od_q62 an_q62:Option Addr} {sl_q62:Array (Option Value)}
  {f_q63:Addr} {oc_q63 kV_q63 dc_q63 pm_q63 cd_q63 ct_q63:Value} {od_q63 an_q63:Option Addr} {sl_q63:Array (Option Value)}
  {D_q63:Addr} {Do_q63:Option Addr} {Dn_q63:Nat} {Ds_q63:Array (Option Value)} {Dt_q63_0:Tok}
  {f_q64:Addr} {oc_q64 kV_q64 dc_q64 pm_q64 cd_q64 ct_q64:Value} {od_q64 an_q64:Option Addr} {sl_q64:Array (Option Value)}
  {D_q64:Addr} {Do_q64:Option Addr} {Dn_q64:Nat} {Ds_q64:Array (Option Value)} {Dt_q64_0:Tok}
  {f_q65:Addr} {oc_q65 kV_q65 dc_q65 pm_q65 cd_q65 ct_q65:Value} {od_q65 an_q65:Option Addr} {sl_q65:Array (Option Value)}
  {f_q66:Addr} {oc_q66 kV_q66 dc_q66 pm_q66 cd_q66 ct_q66:Value} {od_q66 an_q66:Option Addr} {sl_q66:Array (Option Value)}
  {f_q67:Addr} {oc_q67 kV_q67 dc_q67 pm_q67 cd_q67 ct_q67:Value} {od_q67 an_q67:Option Addr} {sl_q67:Array (Option Value)}
  {f_q68:Addr} {oc_q68 kV_q68 dc_q68 pm_q68 cd_q68 ct_q68:Value} {od_q68 an_q68:Option Addr} {sl_q68:Array (Option Value)}
  {f_q69:Addr} {oc_q69 kV_q69 dc_q69 pm_q69 cd_q69 ct_q69:Value} {od_q69 an_q69:Option Addr} {sl_q69:Array (Option Value)}
  {f_q70:Addr} {oc_q70 kV_q70 dc_q70 pm_q70 cd_q70 ct_q70:Value} {od_q70 an_q70:Option Addr} {sl_q70:Array (Option Value)}
  {f_q71:Addr} {oc_q71 kV_q71 dc_q71 pm_q71 cd_q71 ct_q71:Value} {od_q71 an_q71:Option Addr} {sl_q71:Array (Option Value)}
  {f_q72:Addr} {oc_q72 kV_q72 dc_q72 pm_q72 cd_q72 ct_q72:Value} {od_q72 an_q72:Option Addr} {sl_q72:Array (Option Value)}
  {f_law:Addr} {oc_law kV_law dc_law pm_law cd_law ct_law:Value} {od_law an_law:Option Addr} {sl_law:Array (Option Value)}
  {t_LEAST:Tok}
  {t_ONE:Tok}
  {t_MOST_SIGNS:Tok}
  {t_MOST_BYTES:Tok}
  {t_MOST_COUNTED:Tok}
  {t_FARTHEST:Tok}
  {t_MOST_PLACES:Tok}
  {t_MOST_LOOKS:Tok}
  {t_NO_SIGN:Tok}
  {t_FIRST_WEIGHT:Tok}
  {t_OWN_PARTS:Tok}
  {t_MOST_FIGURES:Tok}
  {t_NODES_END:Tok}
  {t_FIRST_WIDTH:Tok}
  {t_FIRST_SIZE:Tok}
  {t_LEAST_WIDTH:Tok}
  {W_WORTHS:Addr} {wd_WORTHS:Option Addr} {wn_WORTHS:Nat} {ws_WORTHS:Array (Option Value)} {wt_WORTHS_0 wt_WORTHS_1 wt_WORTHS_2 wt_WORTHS_3 wt_WORTHS_4 wt_WORTHS_5 wt_WORTHS_6 wt_WORTHS_7:Tok}
  {W_KINDS:Addr} {wd_KINDS:Option Addr} {wn_KINDS:Nat} {ws_KINDS:Array (Option Value)} {wt_KINDS_0 wt_KINDS_1 wt_KINDS_2:Tok}
  (aC_Even:W.nsIn K mainGlobals "Even" = some (some (.ref C_Even)))
  (aC_Quick:W.nsIn K mainGlobals "Quick" = some (some (.ref C_Quick)))
  (aC_Run:W.nsIn K mainGlobals "Run" = some (some (.ref C_Run)))
  (aC_Mx:W.nsIn K mainGlobals "Mixer" = some (some (.ref C_Mx)))
  (aC_Book:W.nsIn K mainGlobals "Book" = some (some (.ref C_Book)))
  (aC_Span:W.nsIn K mainGlobals "Span" = some (some (.ref C_Span)))
  (aC_Ft:W.nsIn K mainGlobals "Foreteller" = some (some (.ref C_Ft)))
  (aC_Sk:W.nsIn K mainGlobals "Seeker" = some (some (.ref C_Sk)))
  (aC_NT:W.nsIn K mainGlobals "NoText" = some (some (.ref C_NT)))
  (aC_NY:W.nsIn K mainGlobals "NoBytes" = some (some (.ref C_NY)))
  (aC_NoMost:W.nsIn K mainGlobals "NoMost" = some (some (.ref C_NoMost)))
  (aC_NC:W.nsIn K mainGlobals "NoChance" = some (some (.ref C_NC)))
  (aC_NB:W.nsIn K mainGlobals "NoBit" = some (some (.ref C_NB)))
  (aC_NL:W.nsIn K mainGlobals "NoLooks" = some (some (.ref C_NL)))
  (aC_NP:W.nsIn K mainGlobals "NoPress" = some (some (.ref C_NP)))
  (a_q1:W.nsIn K mainGlobals "is_whole" = some (some (.ref f_q1)))
  (l_q1:K.lookup f_q1 = some ⟨oc_q1,od_q1,.func (W.fnOf "is_whole" "is_whole" (yh ypq) (yf ypq) (ya ypq) .none kV_q1 dc_q1 pm_q1 an_q1 cd_q1 ct_q1),sl_q1⟩)
  (c_q1:W.codeIn K cd_q1 "is_whole" = true)
  (k_q1:W.keepIn K (.ref f_q1) = true)
  (a_q2:W.nsIn K mainGlobals "is_bit" = some (some (.ref f_q2)))
  (l_q2:K.lookup f_q2 = some ⟨oc_q2,od_q2,.func (W.fnOf "is_bit" "is_bit" (yh ypr) (yf ypr) (ya ypr) .none kV_q2 dc_q2 pm_q2 an_q2 cd_q2 ct_q2),sl_q2⟩)
  (c_q2:W.codeIn K cd_q2 "is_bit" = true)
  (k_q2:W.keepIn K (.ref f_q2) = true)
  (a_q3:W.nsIn K mainGlobals "is_chance" = some (some (.ref f_q3)))
  (l_q3:K.lookup f_q3 = some ⟨oc_q3,od_q3,.func (W.fnOf "is_chance" "is_chance" (yh ypn) (yf ypn) (ya ypn) .none kV_q3 dc_q3 pm_q3 an_q3 cd_q3 ct_q3),sl_q3⟩)
  (c_q3:W.codeIn K cd_q3 "is_chance" = true)
  (k_q3:W.keepIn K (.ref f_q3) = true)
  (a_q4:W.nsIn K mainGlobals "is_sign" = some (some (.ref f_q4)))
  (l_q4:K.lookup f_q4 = some ⟨oc_q4,od_q4,.func (W.fnOf "is_sign" "is_sign" (yh yp1) (yf yp1) (ya yp1) .none kV_q4 dc_q4 pm_q4 an_q4 cd_q4 ct_q4),sl_q4⟩)
  (c_q4:W.codeIn K cd_q4 "is_sign" = true)
  (k_q4:W.keepIn K (.ref f_q4) = true)
  (a_q5:W.nsIn K mainGlobals "is_list_of_signs" = some (some (.ref f_q5)))
  (l_q5:K.lookup f_q5 = some ⟨oc_q5,od_q5,.func (W.fnOf "is_list_of_signs" "is_list_of_signs" (yh ypz) (yf ypz) (ya ypz) .none kV_q5 dc_q5 pm_q5 an_q5 cd_q5 ct_q5),sl_q5⟩)
  (c_q5:W.codeIn K cd_q5 "is_list_of_signs" = true)
  (k_q5:W.keepIn K (.ref f_q5) = true)
  (a_q6:W.nsIn K mainGlobals "checked_text" = some (some (.ref f_q6)))
  (l_q6:K.lookup f_q6 = some ⟨oc_q6,od_q6,.func (W.fnOf "checked_text" "checked_text" (yh ypt) (yf ypt) (ya ypt) .none kV_q6 dc_q6 pm_q6 an_q6 cd_q6 ct_q6),sl_q6⟩)
  (c_q6:W.codeIn K cd_q6 "checked_text" = true)
  (k_q6:W.keepIn K (.ref f_q6) = true)
  (a_q7:W.nsIn K mainGlobals "checked_bytes" = some (some (.ref f_q7)))
  (l_q7:K.lookup f_q7 = some ⟨oc_q7,od_q7,.func (W.fnOf "checked_bytes" "checked_bytes" (yh ypv) (yf ypv) (ya ypv) .none kV_q7 dc_q7 pm_q7 an_q7 cd_q7 ct_q7),sl_q7⟩)
  (c_q7:W.codeIn K cd_q7 "checked_bytes" = true)
  (k_q7:W.keepIn K (.ref f_q7) = true)
  (a_q8:W.nsIn K mainGlobals "check_most" = some (some (.ref f_q8)))
  (l_q8:K.lookup f_q8 = some ⟨oc_q8,od_q8,.func (W.fnOf "check_most" "check_most" (yh ypx) (yf ypx) (ya ypx) .none kV_q8 dc_q8 pm_q8 an_q8 cd_q8 ct_q8),sl_q8⟩)
  (c_q8:W.codeIn K cd_q8 "check_most" = true)
  (k_q8:W.keepIn K (.ref f_q8) = true)
  (a_q9:W.nsIn K mainGlobals "check_chance" = some (some (.ref f_q9)))
  (l_q9:K.lookup f_q9 = some ⟨oc_q9,od_q9,.func (W.fnOf "check_chance" "check_chance" (yh ypo) (yf ypo) (ya ypo) .none kV_q9 dc_q9 pm_q9 an_q9 cd_q9 ct_q9),sl_q9⟩)
  (c_q9:W.codeIn K cd_q9 "check_chance" = true)
  (k_q9:W.keepIn K (.ref f_q9) = true)
  (a_q10:W.nsIn K mainGlobals "check_bit" = some (some (.ref f_q10)))
  (l_q10:K.lookup f_q10 = some ⟨oc_q10,od_q10,.func (W.fnOf "check_bit" "check_bit" (yh ydr) (yf ydr) (ya ydr) .none kV_q10 dc_q10 pm_q10 an_q10 cd_q10 ct_q10),sl_q10⟩)
  (c_q10:W.codeIn K cd_q10 "check_bit" = true)
  (k_q10:W.keepIn K (.ref f_q10) = true)
  (a_q11:W.nsIn K mainGlobals "gives" = some (some (.ref f_q11)))
  (l_q11:K.lookup f_q11 = some ⟨oc_q11,od_q11,.func (W.fnOf "gives" "gives" (yh yd6) (yf yd6) (ya yd6) .none kV_q11 dc_q11 pm_q11 an_q11 cd_q11 ct_q11),sl_q11⟩)
  (c_q11:W.codeIn K cd_q11 "gives" = true)
  (k_q11:W.keepIn K (.ref f_q11) = true)
  (a_q12:W.nsIn K mainGlobals "bits_of" = some (some (.ref f_q12)))
  (l_q12:K.lookup f_q12 = some ⟨oc_q12,od_q12,.func (W.fnOf "bits_of" "bits_of" (yh yc8) (yf yc8) (ya yc8) .none kV_q12 dc_q12 pm_q12 an_q12 cd_q12 ct_q12),sl_q12⟩)
  (c_q12:W.codeIn K cd_q12 "bits_of" = true)
  (k_q12:W.keepIn K (.ref f_q12) = true)
  (a_q13:W.nsIn K mainGlobals "decisions_of" = some (some (.ref f_q13)))
  (l_q13:K.lookup f_q13 = some ⟨oc_q13,od_q13,.func (W.fnOf "decisions_of" "decisions_of" (yh yd2) (yf yd2) (ya yd2) .none kV_q13 dc_q13 pm_q13 an_q13 cd_q13 ct_q13),sl_q13⟩)
  (c_q13:W.codeIn K cd_q13 "decisions_of" = true)
  (k_q13:W.keepIn K (.ref f_q13) = true)
  (a_q14:W.findIn K (.ref C_Even) "__init__" = some (some (.ref f_q14)))
  (i_q14:W.isFn K (.ref f_q14) = true)
  (l_q14:K.lookup f_q14 = some ⟨oc_q14,od_q14,.func (W.fnOf "__init__" "Even.__init__" (yh yd1) (yf yd1) (ya yd1) .none kV_q14 dc_q14 pm_q14 an_q14 cd_q14 ct_q14),sl_q14⟩)
  (c_q14:W.codeIn K cd_q14 "Even.__init__" = true)
  (k_q14:W.keepIn K (.ref f_q14) = true)
  (a_q15:W.findIn K (.ref C_Even) "chance" = some (some (.ref f_q15)))
  (i_q15:W.isFn K (.ref f_q15) = true)
  (l_q15:K.lookup f_q15 = some ⟨oc_q15,od_q15,.func (W.fnOf "chance" "Even.chance" (yh yey) (yf yey) (ya yey) .none kV_q15 dc_q15 pm_q15 an_q15 cd_q15 ct_q15),sl_q15⟩)
  (c_q15:W.codeIn K cd_q15 "Even.chance" = true)
  (k_q15:W.keepIn K (.ref f_q15) = true)
  (a_q16:W.findIn K (.ref C_Even) "seen" = some (some (.ref f_q16)))
  (i_q16:W.isFn K (.ref f_q16) = true)
  (l_q16:K.lookup f_q16 = some ⟨oc_q16,od_q16,.func (W.fnOf "seen" "Even.seen" (yh yd5) (yf yd5) (ya yd5) .none kV_q16 dc_q16 pm_q16 an_q16 cd_q16 ct_q16),sl_q16⟩)
  (c_q16:W.codeIn K cd_q16 "Even.seen" = true)
  (k_q16:W.keepIn K (.ref f_q16) = true)
  (a_q17:W.findIn K (.ref C_Quick) "__init__" = some (some (.ref f_q17)))
  (i_q17:W.isFn K (.ref f_q17) = true)
  (l_q17:K.lookup f_q17 = some ⟨oc_q17,od_q17,.func (W.fnOf "__init__" "Quick.__init__" (yh ydq) (yf ydq) (ya ydq) .none kV_q17 dc_q17 pm_q17 an_q17 cd_q17 ct_q17),sl_q17⟩)
  (c_q17:W.codeIn K cd_q17 "Quick.__init__" = true)
  (k_q17:W.keepIn K (.ref f_q17) = true)
  (a_q18:W.findIn K (.ref C_Quick) "chance" = some (some (.ref f_q18)))
  (i_q18:W.isFn K (.ref f_q18) = true)
  (l_q18:K.lookup f_q18 = some ⟨oc_q18,od_q18,.func (W.fnOf "chance" "Quick.chance" (yh yel) (yf yel) (ya yel) .none kV_q18 dc_q18 pm_q18 an_q18 cd_q18 ct_q18),sl_q18⟩)
  (c_q18:W.codeIn K cd_q18 "Quick.chance" = true)
  (k_q18:W.keepIn K (.ref f_q18) = true)
  (a_q19:W.findIn K (.ref C_Quick) "seen" = some (some (.ref f_q19)))
  (i_q19:W.isFn K (.ref f_q19) = true)
  (l_q19:K.lookup f_q19 = some ⟨oc_q19,od_q19,.func (W.fnOf "seen" "Quick.seen" (yh yep) (yf yep) (ya yep) .none kV_q19 dc_q19 pm_q19 an_q19 cd_q19 ct_q19),sl_q19⟩)
  (c_q19:W.codeIn K cd_q19 "Quick.seen" = true)
  (k_q19:W.keepIn K (.ref f_q19) = true)
  (a_q20:W.findIn K (.ref C_Run) "__init__" = some (some (.ref f_q20)))
  (i_q20:W.isFn K (.ref f_q20) = true)
  (l_q20:K.lookup f_q20 = some ⟨oc_q20,od_q20,.func (W.fnOf "__init__" "Run.__init__" (yh yew) (yf yew) (ya yew) .none kV_q20 dc_q20 pm_q20 an_q20 cd_q20 ct_q20),sl_q20⟩)
  (c_q20:W.codeIn K cd_q20 "Run.__init__" = true)
  (k_q20:W.keepIn K (.ref f_q20) = true)
  (a_q21:W.findIn K (.ref C_Run) "chance" = some (some (.ref f_q21)))
  (i_q21:W.isFn K (.ref f_q21) = true)
  (l_q21:K.lookup f_q21 = some ⟨oc_q21,od_q21,.func (W.fnOf "chance" "Run.chance" (yh ydj) (yf ydj) (ya ydj) .none kV_q21 dc_q21 pm_q21 an_q21 cd_q21 ct_q21),sl_q21⟩)
  (c_q21:W.codeIn K cd_q21 "Run.chance" = true)
  (k_q21:W.keepIn K (.ref f_q21) = true)
  (a_q22:W.findIn K (.ref C_Run) "seen" = some (some (.ref f_q22)))
  (i_q22:W.isFn K (.ref f_q22) = true)
  (l_q22:K.lookup f_q22 = some ⟨oc_q22,od_q22,.func (W.fnOf "seen" "Run.seen" (yh yea) (yf yea) (ya yea) .none kV_q22 dc_q22 pm_q22 an_q22 cd_q22 ct_q22),sl_q22⟩)
  (c_q22:W.codeIn K cd_q22 "Run.seen" = true)
  (k_q22:W.keepIn K (.ref f_q22) = true)
  (a_q23:W.nsIn K mainGlobals "slot_of" = some (some (.ref f_q23)))
  (l_q23:K.lookup f_q23 = some ⟨oc_q23,od_q23,.func (W.fnOf "slot_of" "slot_of" (yh ydg) (yf ydg) (ya ydg) .none kV_q23 dc_q23 pm_q23 an_q23 cd_q23 ct_q23),sl_q23⟩)
  (c_q23:W.codeIn K cd_q23 "slot_of" = true)
  (k_q23:W.keepIn K (.ref f_q23) = true)
  (a_q24:W.nsIn K mainGlobals "is_kind" = some (some (.ref f_q24)))
  (l_q24:K.lookup f_q24 = some ⟨oc_q24,od_q24,.func (W.fnOf "is_kind" "is_kind" (yh ydc) (yf ydc) (ya ydc) .none kV_q24 dc_q24 pm_q24 an_q24 cd_q24 ct_q24),sl_q24⟩)
  (c_q24:W.codeIn K cd_q24 "is_kind" = true)
  (k_q24:W.keepIn K (.ref f_q24) = true)
  (a_q25:W.nsIn K mainGlobals "is_place" = some (some (.ref f_q25)))
  (l_q25:K.lookup f_q25 = some ⟨oc_q25,od_q25,.func (W.fnOf "is_place" "is_place" (yh yd9) (yf yd9) (ya yd9) .none kV_q25 dc_q25 pm_q25 an_q25 cd_q25 ct_q25),sl_q25⟩)
  (c_q25:W.codeIn K cd_q25 "is_place" = true)
  (k_q25:W.keepIn K (.ref f_q25) = true)
  (a_q26:W.nsIn K mainGlobals "are_places" = some (some (.ref f_q26)))
  (l_q26:K.lookup f_q26 = some ⟨oc_q26,od_q26,.func (W.fnOf "are_places" "are_places" (yh yda) (yf yda) (ya yda) .none kV_q26 dc_q26 pm_q26 an_q26 cd_q26 ct_q26),sl_q26⟩)
  (c_q26:W.codeIn K cd_q26 "are_places" = true)
  (k_q26:W.keepIn K (.ref f_q26) = true)
  (a_q27:W.nsIn K mainGlobals "is_look" = some (some (.ref f_q27)))
  (l_q27:K.lookup f_q27 = some ⟨oc_q27,od_q27,.func (W.fnOf "is_look" "is_look" (yh yd7) (yf yd7) (ya yd7) .none kV_q27 dc_q27 pm_q27 an_q27 cd_q27 ct_q27),sl_q27⟩)
  (c_q27:W.codeIn K cd_q27 "is_look" = true)
  (k_q27:W.keepIn K (.ref f_q27) = true)
  (a_q28:W.nsIn K mainGlobals "checked_looks" = some (some (.ref f_q28)))
  (l_q28:K.lookup f_q28 = some ⟨oc_q28,od_q28,.func (W.fnOf "checked_looks" "checked_looks" (yh ydi) (yf ydi) (ya ydi) .none kV_q28 dc_q28 pm_q28 an_q28 cd_q28 ct_q28),sl_q28⟩)
  (c_q28:W.codeIn K cd_q28 "checked_looks" = true)
  (k_q28:W.keepIn K (.ref f_q28) = true)
  (a_q29:W.nsIn K mainGlobals "sign_back" = some (some (.ref f_q29)))
  (l_q29:K.lookup f_q29 = some ⟨oc_q29,od_q29,.func (W.fnOf "sign_back" "sign_back" (yh yek) (yf yek) (ya yek) .none kV_q29 dc_q29 pm_q29 an_q29 cd_q29 ct_q29),sl_q29⟩)
  (c_q29:W.codeIn K cd_q29 "sign_back" = true)
  (k_q29:W.keepIn K (.ref f_q29) = true)
  (a_q30:W.nsIn K mainGlobals "context_of" = some (some (.ref f_q30)))
  (l_q30:K.lookup f_q30 = some ⟨oc_q30,od_q30,.func (W.fnOf "context_of" "context_of" (yh yed) (yf yed) (ya yed) .none kV_q30 dc_q30 pm_q30 an_q30 cd_q30 ct_q30),sl_q30⟩)
  (c_q30:W.codeIn K cd_q30 "context_of" = true)
  (k_q30:W.keepIn K (.ref f_q30) = true)
  (a_q31:W.findIn K (.ref C_Book) "__init__" = some (some (.ref f_q31)))
  (i_q31:W.isFn K (.ref f_q31) = true)
  (l_q31:K.lookup f_q31 = some ⟨oc_q31,od_q31,.func (W.fnOf "__init__" "Book.__init__" (yh ydk) (yf ydk) (ya ydk) .none kV_q31 dc_q31 pm_q31 an_q31 cd_q31 ct_q31),sl_q31⟩)
  (c_q31:W.codeIn K cd_q31 "Book.__init__" = true)
  (k_q31:W.keepIn K (.ref f_q31) = true)
  (a_q32:W.findIn K (.ref C_Book) "slot_at" = some (some (.ref f_q32)))
  (i_q32:W.isFn K (.ref f_q32) = true)
  (l_q32:K.lookup f_q32 = some ⟨oc_q32,od_q32,.func (W.fnOf "slot_at" "Book.slot_at" (yh yd8) (yf yd8) (ya yd8) .none kV_q32 dc_q32 pm_q32 an_q32 cd_q32 ct_q32),sl_q32⟩)
  (c_q32:W.codeIn K cd_q32 "Book.slot_at" = true)
  (k_q32:W.keepIn K (.ref f_q32) = true)
  (a_q33:W.findIn K (.ref C_Mx) "__init__" = some (some (.ref f_q33)))
  (i_q33:W.isFn K (.ref f_q33) = true)
  (l_q33:K.lookup f_q33 = some ⟨oc_q33,od_q33,.func (W.fnOf "__init__" "Mixer.__init__" (yh yd3) (yf yd3) (ya yd3) .none kV_q33 dc_q33 pm_q33 an_q33 cd_q33 ct_q33),sl_q33⟩)
  (c_q33:W.codeIn K cd_q33 "Mixer.__init__" = true)
  (k_q33:W.keepIn K (.ref f_q33) = true)
  (a_q34:W.findIn K (.ref C_Mx) "mixed" = some (some (.ref f_q34)))
  (i_q34:W.isFn K (.ref f_q34) = true)
  (l_q34:K.lookup f_q34 = some ⟨oc_q34,od_q34,.func (W.fnOf "mixed" "Mixer.mixed" (yh yet) (yf yet) (ya yet) .none kV_q34 dc_q34 pm_q34 an_q34 cd_q34 ct_q34),sl_q34⟩)
  (c_q34:W.codeIn K cd_q34 "Mixer.mixed" = true)
  (k_q34:W.keepIn K (.ref f_q34) = true)
  (a_q35:W.findIn K (.ref C_Mx) "learn" = some (some (.ref f_q35)))
  (i_q35:W.isFn K (.ref f_q35) = true)
  (l_q35:K.lookup f_q35 = some ⟨oc_q35,od_q35,.func (W.fnOf "learn" "Mixer.learn" (yh ydf) (yf ydf) (ya ydf) .none kV_q35 dc_q35 pm_q35 an_q35 cd_q35 ct_q35),sl_q35⟩)
  (c_q35:W.codeIn K cd_q35 "Mixer.learn" = true)
  (k_q35:W.keepIn K (.ref f_q35) = true)
  (a_q36:W.findIn K (.ref C_Ft) "__init__" = some (some (.ref f_q36)))
  (i_q36:W.isFn K (.ref f_q36) = true)
  (l_q36:K.lookup f_q36 = some ⟨oc_q36,od_q36,.func (W.fnOf "__init__" "Foreteller.__init__" (yh yc5) (yf yc5) (ya yc5) .none kV_q36 dc_q36 pm_q36 an_q36 cd_q36 ct_q36),sl_q36⟩)
  (c_q36:W.codeIn K cd_q36 "Foreteller.__init__" = true)
  (k_q36:W.keepIn K (.ref f_q36) = true)
  (a_q37:W.findIn K (.ref C_Ft) "arrive" = some (some (.ref f_q37)))
  (i_q37:W.isFn K (.ref f_q37) = true)
  (l_q37:K.lookup f_q37 = some ⟨oc_q37,od_q37,.func (W.fnOf "arrive" "Foreteller.arrive" (yh yeu) (yf yeu) (ya yeu) .none kV_q37 dc_q37 pm_q37 an_q37 cd_q37 ct_q37),sl_q37⟩)
  (c_q37:W.codeIn K cd_q37 "Foreteller.arrive" = true)
  (k_q37:W.keepIn K (.ref f_q37) = true)
  (a_q38:W.findIn K (.ref C_Ft) "chances" = some (some (.ref f_q38)))
  (i_q38:W.isFn K (.ref f_q38) = true)
  (l_q38:K.lookup f_q38 = some ⟨oc_q38,od_q38,.func (W.fnOf "chances" "Foreteller.chances" (yh ydt) (yf ydt) (ya ydt) .none kV_q38 dc_q38 pm_q38 an_q38 cd_q38 ct_q38),sl_q38⟩)
  (c_q38:W.codeIn K cd_q38 "Foreteller.chances" = true)
  (k_q38:W.keepIn K (.ref f_q38) = true)
  (a_q39:W.findIn K (.ref C_Ft) "chance" = some (some (.ref f_q39)))
  (i_q39:W.isFn K (.ref f_q39) = true)
  (l_q39:K.lookup f_q39 = some ⟨oc_q39,od_q39,.func (W.fnOf "chance" "Foreteller.chance" (yh ydu) (yf ydu) (ya ydu) .none kV_q39 dc_q39 pm_q39 an_q39 cd_q39 ct_q39),sl_q39⟩)
  (c_q39:W.codeIn K cd_q39 "Foreteller.chance" = true)
  (k_q39:W.keepIn K (.ref f_q39) = true)
  (a_q40:W.findIn K (.ref C_Ft) "see" = some (some (.ref f_q40)))
  (i_q40:W.isFn K (.ref f_q40) = true)
  (l_q40:K.lookup f_q40 = some ⟨oc_q40,od_q40,.func (W.fnOf "see" "Foreteller.see" (yh yez) (yf yez) (ya yez) .none kV_q40 dc_q40 pm_q40 an_q40 cd_q40 ct_q40),sl_q40⟩)
  (c_q40:W.codeIn K cd_q40 "Foreteller.see" = true)
  (k_q40:W.keepIn K (.ref f_q40) = true)
  (a_q41:W.findIn K (.ref C_Ft) "step" = some (some (.ref f_q41)))
  (i_q41:W.isFn K (.ref f_q41) = true)
  (l_q41:K.lookup f_q41 = some ⟨oc_q41,od_q41,.func (W.fnOf "step" "Foreteller.step" (yh yeg) (yf yeg) (ya yeg) .none kV_q41 dc_q41 pm_q41 an_q41 cd_q41 ct_q41),sl_q41⟩)
  (c_q41:W.codeIn K cd_q41 "Foreteller.step" = true)
  (k_q41:W.keepIn K (.ref f_q41) = true)
  (a_q42:W.findIn K (.ref C_Ft) "step_in_sign" = some (some (.ref f_q42)))
  (i_q42:W.isFn K (.ref f_q42) = true)
  (l_q42:K.lookup f_q42 = some ⟨oc_q42,od_q42,.func (W.fnOf "step_in_sign" "Foreteller.step_in_sign" (yh yeb) (yf yeb) (ya yeb) .none kV_q42 dc_q42 pm_q42 an_q42 cd_q42 ct_q42),sl_q42⟩)
  (c_q42:W.codeIn K cd_q42 "Foreteller.step_in_sign" = true)
  (k_q42:W.keepIn K (.ref f_q42) = true)
  (a_q43:W.nsIn K mainGlobals "written" = some (some (.ref f_q43)))
  (l_q43:K.lookup f_q43 = some ⟨oc_q43,od_q43,.func (W.fnOf "written" "written" (yh yec) (yf yec) (ya yec) .none kV_q43 dc_q43 pm_q43 an_q43 cd_q43 ct_q43),sl_q43⟩)
  (c_q43:W.codeIn K cd_q43 "written" = true)
  (k_q43:W.keepIn K (.ref f_q43) = true)
  (a_q44:W.nsIn K mainGlobals "first_block" = some (some (.ref f_q44)))
  (l_q44:K.lookup f_q44 = some ⟨oc_q44,od_q44,.func (W.fnOf "first_block" "first_block" (yh ydo) (yf ydo) (ya ydo) .none kV_q44 dc_q44 pm_q44 an_q44 cd_q44 ct_q44),sl_q44⟩)
  (c_q44:W.codeIn K cd_q44 "first_block" = true)
  (k_q44:W.keepIn K (.ref f_q44) = true)
  (a_q45:W.findIn K (.ref C_Span) "__init__" = some (some (.ref f_q45)))
  (i_q45:W.isFn K (.ref f_q45) = true)
  (l_q45:K.lookup f_q45 = some ⟨oc_q45,od_q45,.func (W.fnOf "__init__" "Span.__init__" (yh yem) (yf yem) (ya yem) .none kV_q45 dc_q45 pm_q45 an_q45 cd_q45 ct_q45),sl_q45⟩)
  (c_q45:W.codeIn K cd_q45 "Span.__init__" = true)
  (k_q45:W.keepIn K (.ref f_q45) = true)
  (a_q46:W.findIn K (.ref C_Span) "cut" = some (some (.ref f_q46)))
  (i_q46:W.isFn K (.ref f_q46) = true)
  (l_q46:K.lookup f_q46 = some ⟨oc_q46,od_q46,.func (W.fnOf "cut" "Span.cut" (yh ydm) (yf ydm) (ya ydm) .none kV_q46 dc_q46 pm_q46 an_q46 cd_q46 ct_q46),sl_q46⟩)
  (c_q46:W.codeIn K cd_q46 "Span.cut" = true)
  (k_q46:W.keepIn K (.ref f_q46) = true)
  (a_q47:W.findIn K (.ref C_Span) "narrow" = some (some (.ref f_q47)))
  (i_q47:W.isFn K (.ref f_q47) = true)
  (l_q47:K.lookup f_q47 = some ⟨oc_q47,od_q47,.func (W.fnOf "narrow" "Span.narrow" (yh yeo) (yf yeo) (ya yeo) .none kV_q47 dc_q47 pm_q47 an_q47 cd_q47 ct_q47),sl_q47⟩)
  (c_q47:W.codeIn K cd_q47 "Span.narrow" = true)
  (k_q47:W.keepIn K (.ref f_q47) = true)
  (a_q48:W.findIn K (.ref C_Span) "holds_block" = some (some (.ref f_q48)))
  (i_q48:W.isFn K (.ref f_q48) = true)
  (l_q48:K.lookup f_q48 = some ⟨oc_q48,od_q48,.func (W.fnOf "holds_block" "Span.holds_block" (yh yee) (yf yee) (ya yee) .none kV_q48 dc_q48 pm_q48 an_q48 cd_q48 ct_q48),sl_q48⟩)
  (c_q48:W.codeIn K cd_q48 "Span.holds_block" = true)
  (k_q48:W.keepIn K (.ref f_q48) = true)
  (a_q49:W.findIn K (.ref C_Span) "told" = some (some (.ref f_q49)))
  (i_q49:W.isFn K (.ref f_q49) = true)
  (l_q49:K.lookup f_q49 = some ⟨oc_q49,od_q49,.func (W.fnOf "told" "Span.told" (yh yej) (yf yej) (ya yej) .none kV_q49 dc_q49 pm_q49 an_q49 cd_q49 ct_q49),sl_q49⟩)
  (c_q49:W.codeIn K cd_q49 "Span.told" = true)
  (k_q49:W.keepIn K (.ref f_q49) = true)
  (a_q50:W.findIn K (.ref C_Sk) "__init__" = some (some (.ref f_q50)))
  (i_q50:W.isFn K (.ref f_q50) = true)
  (l_q50:K.lookup f_q50 = some ⟨oc_q50,od_q50,.func (W.fnOf "__init__" "Seeker.__init__" (yh ydx) (yf ydx) (ya ydx) .none kV_q50 dc_q50 pm_q50 an_q50 cd_q50 ct_q50),sl_q50⟩)
  (c_q50:W.codeIn K cd_q50 "Seeker.__init__" = true)
  (k_q50:W.keepIn K (.ref f_q50) = true)
  (a_q51:W.findIn K (.ref C_Sk) "follow" = some (some (.ref f_q51)))
  (i_q51:W.isFn K (.ref f_q51) = true)
  (l_q51:K.lookup f_q51 = some ⟨oc_q51,od_q51,.func (W.fnOf "follow" "Seeker.follow" (yh ydl) (yf ydl) (ya ydl) .none kV_q51 dc_q51 pm_q51 an_q51 cd_q51 ct_q51),sl_q51⟩)
  (c_q51:W.codeIn K cd_q51 "Seeker.follow" = true)
  (k_q51:W.keepIn K (.ref f_q51) = true)
  (a_q52:W.findIn K (.ref C_Sk) "byte_at" = some (some (.ref f_q52)))
  (i_q52:W.isFn K (.ref f_q52) = true)
  (l_q52:K.lookup f_q52 = some ⟨oc_q52,od_q52,.func (W.fnOf "byte_at" "Seeker.byte_at" (yh ydn) (yf ydn) (ya ydn) .none kV_q52 dc_q52 pm_q52 an_q52 cd_q52 ct_q52),sl_q52⟩)
  (c_q52:W.codeIn K cd_q52 "Seeker.byte_at" = true)
  (k_q52:W.keepIn K (.ref f_q52) = true)
  (a_q53:W.findIn K (.ref C_Sk) "bit" = some (some (.ref f_q53)))
  (i_q53:W.isFn K (.ref f_q53) = true)
  (l_q53:K.lookup f_q53 = some ⟨oc_q53,od_q53,.func (W.fnOf "bit" "Seeker.bit" (yh yeh) (yf yeh) (ya yeh) .none kV_q53 dc_q53 pm_q53 an_q53 cd_q53 ct_q53),sl_q53⟩)
  (c_q53:W.codeIn K cd_q53 "Seeker.bit" = true)
  (k_q53:W.keepIn K (.ref f_q53) = true)
  (a_q54:W.findIn K (.ref C_Sk) "told" = some (some (.ref f_q54)))
  (i_q54:W.isFn K (.ref f_q54) = true)
  (l_q54:K.lookup f_q54 = some ⟨oc_q54,od_q54,.func (W.fnOf "told" "Seeker.told" (yh ydd) (yf ydd) (ya ydd) .none kV_q54 dc_q54 pm_q54 an_q54 cd_q54 ct_q54),sl_q54⟩)
  (c_q54:W.codeIn K cd_q54 "Seeker.told" = true)
  (k_q54:W.keepIn K (.ref f_q54) = true)
  (a_q55:W.nsIn K mainGlobals "checked_learned" = some (some (.ref f_q55)))
  (l_q55:K.lookup f_q55 = some ⟨oc_q55,od_q55,.func (W.fnOf "checked_learned" "checked_learned" (yh yd0) (yf yd0) (ya yd0) .none kV_q55 dc_q55 pm_q55 an_q55 cd_q55 ct_q55),sl_q55⟩)
  (c_q55:W.codeIn K cd_q55 "checked_learned" = true)
  (k_q55:W.keepIn K (.ref f_q55) = true)
  (a_q56:W.nsIn K mainGlobals "teach" = some (some (.ref f_q56)))
  (l_q56:K.lookup f_q56 = some ⟨oc_q56,od_q56,.func (W.fnOf "teach" "teach" (yh yc7) (yf yc7) (ya yc7) .none kV_q56 dc_q56 pm_q56 an_q56 cd_q56 ct_q56),sl_q56⟩)
  (c_q56:W.codeIn K cd_q56 "teach" = true)
  (k_q56:W.keepIn K (.ref f_q56) = true)
  (a_q57:W.nsIn K mainGlobals "press_by" = some (some (.ref f_q57)))
  (l_q57:K.lookup f_q57 = some ⟨oc_q57,od_q57,.func (W.fnOf "press_by" "press_by" (yh yer) (yf yer) (ya yer) .none kV_q57 dc_q57 pm_q57 an_q57 cd_q57 ct_q57),sl_q57⟩)
  (c_q57:W.codeIn K cd_q57 "press_by" = true)
  (k_q57:W.keepIn K (.ref f_q57) = true)
  (a_q58:W.nsIn K mainGlobals "pressed" = some (some (.ref f_q58)))
  (l_q58:K.lookup f_q58 = some ⟨oc_q58,od_q58,.func (W.fnOf "pressed" "pressed" (yh yc9) (yf yc9) (ya yc9) (.ref D_q58) kV_q58 dc_q58 pm_q58 an_q58 cd_q58 ct_q58),sl_q58⟩)
  (ld_q58:K.lookup D_q58 = some ⟨.type "tuple",Do_q58,.seq #[.none] Dn_q58,Ds_q58⟩)
  (c_q58:W.codeIn K cd_q58 "pressed" = true)
  (k_q58:W.keepIn K (.ref f_q58) = true)
  (a_q59:W.nsIn K mainGlobals "bit_by" = some (some (.ref f_q59)))
  (l_q59:K.lookup f_q59 = some ⟨oc_q59,od_q59,.func (W.fnOf "bit_by" "bit_by" (yh yeq) (yf yeq) (ya yeq) .none kV_q59 dc_q59 pm_q59 an_q59 cd_q59 ct_q59),sl_q59⟩)
  (c_q59:W.codeIn K cd_q59 "bit_by" = true)
  (k_q59:W.keepIn K (.ref f_q59) = true)
  (a_q60:W.nsIn K mainGlobals "sign_by" = some (some (.ref f_q60)))
  (l_q60:K.lookup f_q60 = some ⟨oc_q60,od_q60,.func (W.fnOf "sign_by" "sign_by" (yh ydw) (yf ydw) (ya ydw) .none kV_q60 dc_q60 pm_q60 an_q60 cd_q60 ct_q60),sl_q60⟩)
  (c_q60:W.codeIn K cd_q60 "sign_by" = true)
  (k_q60:W.keepIn K (.ref f_q60) = true)
  (a_q61:W.nsIn K mainGlobals "text_by" = some (some (.ref f_q61)))
  (l_q61:K.lookup f_q61 = some ⟨oc_q61,od_q61,.func (W.fnOf "text_by" "text_by" (yh ydp) (yf ydp) (ya ydp) .none kV_q61 dc_q61 pm_q61 an_q61 cd_q61 ct_q61),sl_q61⟩)
  (c_q61:W.codeIn K cd_q61 "text_by" = true)
  (k_q61:W.keepIn K (.ref f_q61) = true)
  (a_q62:W.nsIn K mainGlobals "read_by" = some (some (.ref f_q62)))
  (l_q62:K.lookup f_q62 = some ⟨oc_q62,od_q62,.func (W.fnOf "read_by" "read_by" (yh yef) (yf yef) (ya yef) .none kV_q62 dc_q62 pm_q62 an_q62 cd_q62 ct_q62),sl_q62⟩)
  (c_q62:W.codeIn K cd_q62 "read_by" = true)
  (k_q62:W.keepIn K (.ref f_q62) = true)
  (a_q63:W.nsIn K mainGlobals "read_first" = some (some (.ref f_q63)))
  (l_q63:K.lookup f_q63 = some ⟨oc_q63,od_q63,.func (W.fnOf "read_first" "read_first" (yh ydb) (yf ydb) (ya ydb) (.ref D_q63) kV_q63 dc_q63 pm_q63 an_q63 cd_q63 ct_q63),sl_q63⟩)
  (ld_q63:K.lookup D_q63 = some ⟨.type "tuple",Do_q63,.seq #[.int 1000 Dt_q63_0,.none] Dn_q63,Ds_q63⟩)
  (c_q63:W.codeIn K cd_q63 "read_first" = true)
  (k_q63:W.keepIn K (.ref f_q63) = true)
  (a_q64:W.nsIn K mainGlobals "read" = some (some (.ref f_q64)))
  (l_q64:K.lookup f_q64 = some ⟨oc_q64,od_q64,.func (W.fnOf "read" "read" (yh yex) (yf yex) (ya yex) (.ref D_q64) kV_q64 dc_q64 pm_q64 an_q64 cd_q64 ct_q64),sl_q64⟩)
  (ld_q64:K.lookup D_q64 = some ⟨.type "tuple",Do_q64,.seq #[.int 1000 Dt_q64_0,.none] Dn_q64,Ds_q64⟩)
  (c_q64:W.codeIn K cd_q64 "read" = true)
  (k_q64:W.keepIn K (.ref f_q64) = true)
  (a_q65:W.nsIn K mainGlobals "_law_mixed" = some (some (.ref f_q65)))
  (l_q65:K.lookup f_q65 = some ⟨oc_q65,od_q65,.func (W.fnOf "_law_mixed" "_law_mixed" (yh yd4) (yf yd4) (ya yd4) .none kV_q65 dc_q65 pm_q65 an_q65 cd_q65 ct_q65),sl_q65⟩)
  (c_q65:W.codeIn K cd_q65 "_law_mixed" = true)
  (k_q65:W.keepIn K (.ref f_q65) = true)
  (a_q66:W.nsIn K mainGlobals "_law_looks" = some (some (.ref f_q66)))
  (l_q66:K.lookup f_q66 = some ⟨oc_q66,od_q66,.func (W.fnOf "_law_looks" "_law_looks" (yh yds) (yf yds) (ya yds) .none kV_q66 dc_q66 pm_q66 an_q66 cd_q66 ct_q66),sl_q66⟩)
  (c_q66:W.codeIn K cd_q66 "_law_looks" = true)
  (k_q66:W.keepIn K (.ref f_q66) = true)
  (a_q67:W.nsIn K mainGlobals "_law_text" = some (some (.ref f_q67)))
  (l_q67:K.lookup f_q67 = some ⟨oc_q67,od_q67,.func (W.fnOf "_law_text" "_law_text" (yh yev) (yf yev) (ya yev) .none kV_q67 dc_q67 pm_q67 an_q67 cd_q67 ct_q67),sl_q67⟩)
  (c_q67:W.codeIn K cd_q67 "_law_text" = true)
  (k_q67:W.keepIn K (.ref f_q67) = true)
  (a_q68:W.nsIn K mainGlobals "_law_learned" = some (some (.ref f_q68)))
  (l_q68:K.lookup f_q68 = some ⟨oc_q68,od_q68,.func (W.fnOf "_law_learned" "_law_learned" (yh ydz) (yf ydz) (ya ydz) .none kV_q68 dc_q68 pm_q68 an_q68 cd_q68 ct_q68),sl_q68⟩)
  (c_q68:W.codeIn K cd_q68 "_law_learned" = true)
  (k_q68:W.keepIn K (.ref f_q68) = true)
  (a_q69:W.nsIn K mainGlobals "_law_bytes" = some (some (.ref f_q69)))
  (l_q69:K.lookup f_q69 = some ⟨oc_q69,od_q69,.func (W.fnOf "_law_bytes" "_law_bytes" (yh yde) (yf yde) (ya yde) .none kV_q69 dc_q69 pm_q69 an_q69 cd_q69 ct_q69),sl_q69⟩)
  (c_q69:W.codeIn K cd_q69 "_law_bytes" = true)
  (k_q69:W.keepIn K (.ref f_q69) = true)
  (a_q70:W.nsIn K mainGlobals "_law_spoiled" = some (some (.ref f_q70)))
  (l_q70:K.lookup f_q70 = some ⟨oc_q70,od_q70,.func (W.fnOf "_law_spoiled" "_law_spoiled" (yh yes) (yf yes) (ya yes) .none kV_q70 dc_q70 pm_q70 an_q70 cd_q70 ct_q70),sl_q70⟩)
  (c_q70:W.codeIn K cd_q70 "_law_spoiled" = true)
  (k_q70:W.keepIn K (.ref f_q70) = true)
  (a_q71:W.nsIn K mainGlobals "_law_read" = some (some (.ref f_q71)))
  (l_q71:K.lookup f_q71 = some ⟨oc_q71,od_q71,.func (W.fnOf "_law_read" "_law_read" (yh ydh) (yf ydh) (ya ydh) .none kV_q71 dc_q71 pm_q71 an_q71 cd_q71 ct_q71),sl_q71⟩)
  (c_q71:W.codeIn K cd_q71 "_law_read" = true)
  (k_q71:W.keepIn K (.ref f_q71) = true)
  (a_q72:W.nsIn K mainGlobals "_law_first" = some (some (.ref f_q72)))
  (l_q72:K.lookup f_q72 = some ⟨oc_q72,od_q72,.func (W.fnOf "_law_first" "_law_first" (yh ydv) (yf ydv) (ya ydv) .none kV_q72 dc_q72 pm_q72 an_q72 cd_q72 ct_q72),sl_q72⟩)
  (c_q72:W.codeIn K cd_q72 "_law_first" = true)
  (k_q72:W.keepIn K (.ref f_q72) = true)
  (a_law:W.nsIn K mainGlobals "law" = some (some (.ref f_law)))
  (l_law:K.lookup f_law = some ⟨oc_law,od_law,.func (W.fnOf "law" "law" (yh ydy) (yf ydy) (ya ydy) .none kV_law dc_law pm_law an_law cd_law ct_law),sl_law⟩)
  (c_law:W.codeIn K cd_law "law" = true)
  (k_law:W.keepIn K (.ref f_law) = true)
  (pg_Even:W.plainGet K C_Even Str.empty = true)
  (hd_Even:W.hasDictIn K C_Even = true)
  (po_Even:W.plainOver K C_Even = true)
  (sa_Even:W.findIn K (.ref C_Even) "__setattr__" = some (some (.builtin "object.__setattr__")))
  (mk_Even:W.makesIn K C_Even = true)
  (kc_Even:W.keepIn K (.ref C_Even) = true)
  (n_Even_noughts:W.findIn K (.ref C_Even) "noughts" = some none)
  (n_Even_ones:W.findIn K (.ref C_Even) "ones" = some none)
  (pg_Quick:W.plainGet K C_Quick Str.empty = true)
  (hd_Quick:W.hasDictIn K C_Quick = true)
  (po_Quick:W.plainOver K C_Quick = true)
  (sa_Quick:W.findIn K (.ref C_Quick) "__setattr__" = some (some (.builtin "object.__setattr__")))
  (mk_Quick:W.makesIn K C_Quick = true)
  (kc_Quick:W.keepIn K (.ref C_Quick) = true)
  (n_Quick_held:W.findIn K (.ref C_Quick) "held" = some none)
  (pg_Run:W.plainGet K C_Run Str.empty = true)
  (hd_Run:W.hasDictIn K C_Run = true)
  (po_Run:W.plainOver K C_Run = true)
  (sa_Run:W.findIn K (.ref C_Run) "__setattr__" = some (some (.builtin "object.__setattr__")))
  (mk_Run:W.makesIn K C_Run = true)
  (kc_Run:W.keepIn K (.ref C_Run) = true)
  (n_Run_last:W.findIn K (.ref C_Run) "last" = some none)
  (n_Run_length:W.findIn K (.ref C_Run) "length" = some none)
  (pg_Mx:W.plainGet K C_Mx Str.empty = true)
  (hd_Mx:W.hasDictIn K C_Mx = true)
  (po_Mx:W.plainOver K C_Mx = true)
  (sa_Mx:W.findIn K (.ref C_Mx) "__setattr__" = some (some (.builtin "object.__setattr__")))
  (mk_Mx:W.makesIn K C_Mx = true)
  (kc_Mx:W.keepIn K (.ref C_Mx) = true)
  (n_Mx_kept:W.findIn K (.ref C_Mx) "kept" = some none)
  (pg_Book:W.plainGet K C_Book Str.empty = true)
  (hd_Book:W.hasDictIn K C_Book = true)
  (po_Book:W.plainOver K C_Book = true)
  (sa_Book:W.findIn K (.ref C_Book) "__setattr__" = some (some (.builtin "object.__setattr__")))
  (mk_Book:W.makesIn K C_Book = true)
  (kc_Book:W.keepIn K (.ref C_Book) = true)
  (n_Book_look:W.findIn K (.ref C_Book) "look" = some none)
  (n_Book_slots:W.findIn K (.ref C_Book) "slots" = some none)
  (pg_Span:W.plainGet K C_Span Str.empty = true)
  (hd_Span:W.hasDictIn K C_Span = true)
  (po_Span:W.plainOver K C_Span = true)
  (sa_Span:W.findIn K (.ref C_Span) "__setattr__" = some (some (.builtin "object.__setattr__")))
  (mk_Span:W.makesIn K C_Span = true)
  (kc_Span:W.keepIn K (.ref C_Span) = true)
  (n_Span_low:W.findIn K (.ref C_Span) "low" = some none)
  (n_Span_width:W.findIn K (.ref C_Span) "width" = some none)
  (n_Span_size:W.findIn K (.ref C_Span) "size" = some none)
  (pg_Ft:W.plainGet K C_Ft Str.empty = true)
  (hd_Ft:W.hasDictIn K C_Ft = true)
  (po_Ft:W.plainOver K C_Ft = true)
  (sa_Ft:W.findIn K (.ref C_Ft) "__setattr__" = some (some (.builtin "object.__setattr__")))
  (mk_Ft:W.makesIn K C_Ft = true)
  (kc_Ft:W.keepIn K (.ref C_Ft) = true)
  (n_Ft_looks:W.findIn K (.ref C_Ft) "looks" = some none)
  (n_Ft_books:W.findIn K (.ref C_Ft) "books" = some none)
  (n_Ft_mixer:W.findIn K (.ref C_Ft) "mixer" = some none)
  (n_Ft_ended:W.findIn K (.ref C_Ft) "ended" = some none)
  (n_Ft_place:W.findIn K (.ref C_Ft) "place" = some none)
  (n_Ft_present:W.findIn K (.ref C_Ft) "present" = some none)
  (pg_Sk:W.plainGet K C_Sk Str.empty = true)
  (hd_Sk:W.hasDictIn K C_Sk = true)
  (po_Sk:W.plainOver K C_Sk = true)
  (sa_Sk:W.findIn K (.ref C_Sk) "__setattr__" = some (some (.builtin "object.__setattr__")))
  (mk_Sk:W.makesIn K C_Sk = true)
  (kc_Sk:W.keepIn K (.ref C_Sk) = true)
  (n_Sk_data:W.findIn K (.ref C_Sk) "data" = some none)
  (n_Sk_span:W.findIn K (.ref C_Sk) "span" = some none)
  (n_Sk_number:W.findIn K (.ref C_Sk) "number" = some none)
  (n_Sk_reached:W.findIn K (.ref C_Sk) "reached" = some none)
  (xcl_NT:W.hasDictIn K C_NT = true)
  (xga_NT:W.findIn K (.ref C_NT) "__getattribute__" = some (some (.builtin "BaseException.__getattribute__")))
  (xgt_NT:W.findIn K (.ref C_NT) "__getattr__" = some none)
  (xca_NT:W.findIn K (.ref C_NT) "__class__" = some (some (.builtin "object.__class__")))
  (xmo_NT:W.mroIn K C_NT (.type "object") = some true)
  (xmb_NT:W.mroIn K C_NT (.type "BaseException") = some true)
  (r_NT:W.excIn K C_NT [.type "ValueError",.type "Exception",.type "BaseException",.type "object"] "ValueError.__new__" = true)
  (xcl_NY:W.hasDictIn K C_NY = true)
  (xga_NY:W.findIn K (.ref C_NY) "__getattribute__" = some (some (.builtin "BaseException.__getattribute__")))
  (xgt_NY:W.findIn K (.ref C_NY) "__getattr__" = some none)
  (xca_NY:W.findIn K (.ref C_NY) "__class__" = some (some (.builtin "object.__class__")))
  (xmo_NY:W.mroIn K C_NY (.type "object") = some true)
  (xmb_NY:W.mroIn K C_NY (.type "BaseException") = some true)
  (r_NY:W.excIn K C_NY [.type "ValueError",.type "Exception",.type "BaseException",.type "object"] "ValueError.__new__" = true)
  (xcl_NoMost:W.hasDictIn K C_NoMost = true)
  (xga_NoMost:W.findIn K (.ref C_NoMost) "__getattribute__" = some (some (.builtin "BaseException.__getattribute__")))
  (xgt_NoMost:W.findIn K (.ref C_NoMost) "__getattr__" = some none)
  (xca_NoMost:W.findIn K (.ref C_NoMost) "__class__" = some (some (.builtin "object.__class__")))
  (xmo_NoMost:W.mroIn K C_NoMost (.type "object") = some true)
  (xmb_NoMost:W.mroIn K C_NoMost (.type "BaseException") = some true)
  (r_NoMost:W.excIn K C_NoMost [.type "ValueError",.type "Exception",.type "BaseException",.type "object"] "ValueError.__new__" = true)
  (xcl_NC:W.hasDictIn K C_NC = true)
  (xga_NC:W.findIn K (.ref C_NC) "__getattribute__" = some (some (.builtin "BaseException.__getattribute__")))
  (xgt_NC:W.findIn K (.ref C_NC) "__getattr__" = some none)
  (xca_NC:W.findIn K (.ref C_NC) "__class__" = some (some (.builtin "object.__class__")))
  (xmo_NC:W.mroIn K C_NC (.type "object") = some true)
  (xmb_NC:W.mroIn K C_NC (.type "BaseException") = some true)
  (r_NC:W.excIn K C_NC [.type "ValueError",.type "Exception",.type "BaseException",.type "object"] "ValueError.__new__" = true)
  (xcl_NB:W.hasDictIn K C_NB = true)
  (xga_NB:W.findIn K (.ref C_NB) "__getattribute__" = some (some (.builtin "BaseException.__getattribute__")))
  (xgt_NB:W.findIn K (.ref C_NB) "__getattr__" = some none)
  (xca_NB:W.findIn K (.ref C_NB) "__class__" = some (some (.builtin "object.__class__")))
  (xmo_NB:W.mroIn K C_NB (.type "object") = some true)
  (xmb_NB:W.mroIn K C_NB (.type "BaseException") = some true)
  (r_NB:W.excIn K C_NB [.type "ValueError",.type "Exception",.type "BaseException",.type "object"] "ValueError.__new__" = true)
  (xcl_NL:W.hasDictIn K C_NL = true)
  (xga_NL:W.findIn K (.ref C_NL) "__getattribute__" = some (some (.builtin "BaseException.__getattribute__")))
  (xgt_NL:W.findIn K (.ref C_NL) "__getattr__" = some none)
  (xca_NL:W.findIn K (.ref C_NL) "__class__" = some (some (.builtin "object.__class__")))
  (xmo_NL:W.mroIn K C_NL (.type "object") = some true)
  (xmb_NL:W.mroIn K C_NL (.type "BaseException") = some true)
  (r_NL:W.excIn K C_NL [.type "ValueError",.type "Exception",.type "BaseException",.type "object"] "ValueError.__new__" = true)
  (xcl_NP:W.hasDictIn K C_NP = true)
  (xga_NP:W.findIn K (.ref C_NP) "__getattribute__" = some (some (.builtin "BaseException.__getattribute__")))
  (xgt_NP:W.findIn K (.ref C_NP) "__getattr__" = some none)
  (xca_NP:W.findIn K (.ref C_NP) "__class__" = some (some (.builtin "object.__class__")))
  (xmo_NP:W.mroIn K C_NP (.type "object") = some true)
  (xmb_NP:W.mroIn K C_NP (.type "BaseException") = some true)
  (r_NP:W.excIn K C_NP [.type "ValueError",.type "Exception",.type "BaseException",.type "object"] "ValueError.__new__" = true)
  (xgg:W.specialIn K (.builtin "object.__class__") "__get__" = some (some (.builtin "getset_descriptor.__get__")))
  (xtk:W.takesIn K (.builtin "object.__class__") = some true)
  (eb_NP:W.subIn K (.ref C_NP) (.type "BaseException") = some true)
  (ed_NP:W.hasDictIn K C_NP = true)
  (et_NP:W.typeIn K (.ref C_NP) = some (.type "type"))
  (em_NT_NP:W.subIn K (.ref C_NT) (.ref C_NP) = some false)
  (em_NY_NP:W.subIn K (.ref C_NY) (.ref C_NP) = some false)
  (em_NoMost_NP:W.subIn K (.ref C_NoMost) (.ref C_NP) = some false)
  (em_NC_NP:W.subIn K (.ref C_NC) (.ref C_NP) = some false)
  (em_NB_NP:W.subIn K (.ref C_NB) (.ref C_NP) = some false)
  (em_NL_NP:W.subIn K (.ref C_NL) (.ref C_NP) = some false)
  (em_NP_NP:W.subIn K (.ref C_NP) (.ref C_NP) = some true)
  (z_isinstance:W.nsIn K mainGlobals "isinstance" = some none)
  (z_int:W.nsIn K mainGlobals "int" = some none)
  (z_bool:W.nsIn K mainGlobals "bool" = some none)
  (z_list:W.nsIn K mainGlobals "list" = some none)
  (z_all:W.nsIn K mainGlobals "all" = some none)
  (z_len:W.nsIn K mainGlobals "len" = some none)
  (z_min:W.nsIn K mainGlobals "min" = some none)
  (z_max:W.nsIn K mainGlobals "max" = some none)
  (z_str:W.nsIn K mainGlobals "str" = some none)
  (z_tuple:W.nsIn K mainGlobals "tuple" = some none)
  (z_zip:W.nsIn K mainGlobals "zip" = some none)
  (z_sum:W.nsIn K mainGlobals "sum" = some none)
  (z_range:W.nsIn K mainGlobals "range" = some none)
  (v_LEAST:W.nsIn K mainGlobals "LEAST" = some (some (.int 32768 t_LEAST)))
  (v_ONE:W.nsIn K mainGlobals "ONE" = some (some (.int 16777216 t_ONE)))
  (v_MOST_SIGNS:W.nsIn K mainGlobals "MOST_SIGNS" = some (some (.int 1000 t_MOST_SIGNS)))
  (v_MOST_BYTES:W.nsIn K mainGlobals "MOST_BYTES" = some (some (.int 12000 t_MOST_BYTES)))
  (v_MOST_COUNTED:W.nsIn K mainGlobals "MOST_COUNTED" = some (some (.int 255 t_MOST_COUNTED)))
  (v_FARTHEST:W.nsIn K mainGlobals "FARTHEST" = some (some (.int 8 t_FARTHEST)))
  (v_MOST_PLACES:W.nsIn K mainGlobals "MOST_PLACES" = some (some (.int 4 t_MOST_PLACES)))
  (v_MOST_LOOKS:W.nsIn K mainGlobals "MOST_LOOKS" = some (some (.int 6 t_MOST_LOOKS)))
  (v_NO_SIGN:W.nsIn K mainGlobals "NO_SIGN" = some (some (.int 256 t_NO_SIGN)))
  (v_FIRST_WEIGHT:W.nsIn K mainGlobals "FIRST_WEIGHT" = some (some (.int 1099511627776 t_FIRST_WEIGHT)))
  (v_OWN_PARTS:W.nsIn K mainGlobals "OWN_PARTS" = some (some (.int 31 t_OWN_PARTS)))
  (v_MOST_FIGURES:W.nsIn K mainGlobals "MOST_FIGURES" = some (some (.int 48 t_MOST_FIGURES)))
  (v_NODES_END:W.nsIn K mainGlobals "NODES_END" = some (some (.int 256 t_NODES_END)))
  (v_FIRST_WIDTH:W.nsIn K mainGlobals "FIRST_WIDTH" = some (some (.int 1099511627776 t_FIRST_WIDTH)))
  (v_FIRST_SIZE:W.nsIn K mainGlobals "FIRST_SIZE" = some (some (.int 5 t_FIRST_SIZE)))
  (v_LEAST_WIDTH:W.nsIn K mainGlobals "LEAST_WIDTH" = some (some (.int 4294967296 t_LEAST_WIDTH)))
  (wa_WORTHS:W.nsIn K mainGlobals "WORTHS" = some (some (.ref W_WORTHS)))
  (wl_WORTHS:K.lookup W_WORTHS = some ⟨.type "tuple",wd_WORTHS,.seq #[.int 128 wt_WORTHS_0,.int 64 wt_WORTHS_1,.int 32 wt_WORTHS_2,.int 16 wt_WORTHS_3,.int 8 wt_WORTHS_4,.int 4 wt_WORTHS_5,.int 2 wt_WORTHS_6,.int 1 wt_WORTHS_7] wn_WORTHS,ws_WORTHS⟩)
  (wa_KINDS:W.nsIn K mainGlobals "KINDS" = some (some (.ref W_KINDS)))
  (wl_KINDS:K.lookup W_KINDS = some ⟨.type "tuple",wd_KINDS,.seq #[.str "even" wt_KINDS_0,.str "quick" wt_KINDS_1,.str "run" wt_KINDS_2] wn_KINDS,ws_KINDS⟩)
 :∃ fd:FuncData,(∀ (s:Shared) (v:Value),BindsTo s fd ⟨[v],[]⟩ [("_law_script",v)])/\∀ base:Heap,K.In base->base.Ns mainGlobals mg->we l.prog w K mg base CX0 14 fa fd ["_law_script"] (yja K):=by
 have e:=hfa.symm.trans (W.mg_of X G a_law)
 cases e
 have F_q1:=yx (st:=ypq) l_q1 c_q1 k_q1
 have F_q2:=yx (st:=ypr) l_q2 c_q2 k_q2
 have F_q3:=yx (st:=ypn) l_q3 c_q3 k_q3
 have F_q4:=yx (st:=yp1) l_q4 c_q4 k_q4
 have F_q5:=yx (st:=ypz) l_q5 c_q5 k_q5
 have F_q6:=yx (st:=ypt) l_q6 c_q6 k_q6
 have F_q7:=yx (st:=ypv) l_q7 c_q7 k_q7
 have F_q8:=yx (st:=ypx) l_q8 c_q8 k_q8
 have F_q9:=yx (st:=ypo) l_q9 c_q9 k_q9
 have F_q10:=yx (st:=ydr) l_q10 c_q10 k_q10
 have F_q11:=yx (st:=yd6) l_q11 c_q11 k_q11
 have F_q12:=yx (st:=yc8) l_q12 c_q12 k_q12
 have F_q13:=yx (st:=yd2) l_q13 c_q13 k_q13
 have F_q14:=yx (st:=yd1) l_q14 c_q14 k_q14
 have F_q15:=yx (st:=yey) l_q15 c_q15 k_q15
 have F_q16:=yx (st:=yd5) l_q16 c_q16 k_q16
 have F_q17:=yx (st:=ydq) l_q17 c_q17 k_q17
 have F_q18:=yx (st:=yel) l_q18 c_q18 k_q18
 have F_q19:=yx (st:=yep) l_q19 c_q19 k_q19
 have F_q20:=yx (st:=yew) l_q20 c_q20 k_q20
 have F_q21:=yx (st:=ydj) l_q21 c_q21 k_q21
 have F_q22:=yx (st:=yea) l_q22 c_q22 k_q22
 have F_q23:=yx (st:=ydg) l_q23 c_q23 k_q23
 have F_q24:=yx (st:=ydc) l_q24 c_q24 k_q24
 have F_q25:=yx (st:=yd9) l_q25 c_q25 k_q25
 have F_q26:=yx (st:=yda) l_q26 c_q26 k_q26
 have F_q27:=yx (st:=yd7) l_q27 c_q27 k_q27
 have F_q28:=yx (st:=ydi) l_q28 c_q28 k_q28
 have F_q29:=yx (st:=yek) l_q29 c_q29 k_q29
 have F_q30:=yx (st:=yed) l_q30 c_q30 k_q30
 have F_q31:=yx (st:=ydk) l_q31 c_q31 k_q31
 have F_q32:=yx (st:=yd8) l_q32 c_q32 k_q32
 have F_q33:=yx (st:=yd3) l_q33 c_q33 k_q33
 have F_q34:=yx (st:=yet) l_q34 c_q34 k_q34
 have F_q35:=yx (st:=ydf) l_q35 c_q35 k_q35
 have F_q36:=yx (st:=yc5) l_q36 c_q36 k_q36
 have F_q37:=yx (st:=yeu) l_q37 c_q37 k_q37
 have F_q38:=yx (st:=ydt) l_q38 c_q38 k_q38
 have F_q39:=yx (st:=ydu) l_q39 c_q39 k_q39
 have F_q40:=yx (st:=yez) l_q40 c_q40 k_q40
 have F_q41:=yx (st:=yeg) l_q41 c_q41 k_q41
 have F_q42:=yx (st:=yeb) l_q42 c_q42 k_q42
 have F_q43:=yx (st:=yec) l_q43 c_q43 k_q43
 have F_q44:=yx (st:=ydo) l_q44 c_q44 k_q44
 have F_q45:=yx (st:=yem) l_q45 c_q45 k_q45
 have F_q46:=yx (st:=ydm) l_q46 c_q46 k_q46
 have F_q47:=yx (st:=yeo) l_q47 c_q47 k_q47
 have F_q48:=yx (st:=yee) l_q48 c_q48 k_q48
 have F_q49:=yx (st:=yej) l_q49 c_q49 k_q49
 have F_q50:=yx (st:=ydx) l_q50 c_q50 k_q50
 have F_q51:=yx (st:=ydl) l_q51 c_q51 k_q51
 have F_q52:=yx (st:=ydn) l_q52 c_q52 k_q52
 have F_q53:=yx (st:=yeh) l_q53 c_q53 k_q53
 have F_q54:=yx (st:=ydd) l_q54 c_q54 k_q54
 have F_q55:=yx (st:=yd0) l_q55 c_q55 k_q55
 have F_q56:=yx (st:=yc7) l_q56 c_q56 k_q56
 have F_q57:=yx (st:=yer) l_q57 c_q57 k_q57
 have F_q58:=yhr (st:=yc9) l_q58 c_q58 k_q58
 have F_q59:=yx (st:=yeq) l_q59 c_q59 k_q59
 have F_q60:=yx (st:=ydw) l_q60 c_q60 k_q60
 have F_q61:=yx (st:=ydp) l_q61 c_q61 k_q61
 have F_q62:=yx (st:=yef) l_q62 c_q62 k_q62
 have F_q63:=yhr (st:=ydb) l_q63 c_q63 k_q63
 have F_q64:=yhr (st:=yex) l_q64 c_q64 k_q64
 have F_q65:=yx (st:=yd4) l_q65 c_q65 k_q65
 have F_q66:=yx (st:=yds) l_q66 c_q66 k_q66
 have F_q67:=yx (st:=yev) l_q67 c_q67 k_q67
 have F_q68:=yx (st:=ydz) l_q68 c_q68 k_q68
 have F_q69:=yx (st:=yde) l_q69 c_q69 k_q69
 have F_q70:=yx (st:=yes) l_q70 c_q70 k_q70
 have F_q71:=yx (st:=ydh) l_q71 c_q71 k_q71
 have F_q72:=yx (st:=ydv) l_q72 c_q72 k_q72
 have F_law:=yx (st:=ydy) l_law c_law k_law
 have T:Txt K mg { f_q1:=f_q1,d_q1:=W.fnOf "is_whole" "is_whole" (yh ypq) (yf ypq) (ya ypq) .none kV_q1 dc_q1 pm_q1 an_q1 cd_q1 ct_q1,f_q2:=f_q2,d_q2:=W.fnOf "is_bit" "is_bit" (yh ypr) (yf ypr) (ya ypr) .none kV_q2 dc_q2 pm_q2 an_q2 cd_q2 ct_q2,f_q3:=f_q3,d_q3:=W.fnOf "is_chance" "is_chance" (yh ypn) (yf ypn) (ya ypn) .none kV_q3 dc_q3 pm_q3 an_q3 cd_q3 ct_q3,f_q4:=f_q4,d_q4:=W.fnOf "is_sign" "is_sign" (yh yp1) (yf yp1) (ya yp1) .none kV_q4 dc_q4 pm_q4 an_q4 cd_q4 ct_q4,f_q5:=f_q5,d_q5:=W.fnOf "is_list_of_signs" "is_list_of_signs" (yh ypz) (yf ypz) (ya ypz) .none kV_q5 dc_q5 pm_q5 an_q5 cd_q5 ct_q5,f_q6:=f_q6,d_q6:=W.fnOf "checked_text" "checked_text" (yh ypt) (yf ypt) (ya ypt) .none kV_q6 dc_q6 pm_q6 an_q6 cd_q6 ct_q6,f_q7:=f_q7,d_q7:=W.fnOf "checked_bytes" "checked_bytes" (yh ypv) (yf ypv) (ya ypv) .none kV_q7 dc_q7 pm_q7 an_q7 cd_q7 ct_q7,f_q8:=f_q8,d_q8:=W.fnOf "check_most" "check_most" (yh ypx) (yf ypx) (ya ypx) .none kV_q8 dc_q8 pm_q8 an_q8 cd_q8 ct_q8,f_q9:=f_q9,d_q9:=W.fnOf "check_chance" "check_chance" (yh ypo) (yf ypo) (ya ypo) .none kV_q9 dc_q9 pm_q9 an_q9 cd_q9 ct_q9,f_q10:=f_q10,d_q10:=W.fnOf "check_bit" "check_bit" (yh ydr) (yf ydr) (ya ydr) .none kV_q10 dc_q10 pm_q10 an_q10 cd_q10 ct_q10,f_q11:=f_q11,d_q11:=W.fnOf "gives" "gives" (yh yd6) (yf yd6) (ya yd6) .none kV_q11 dc_q11 pm_q11 an_q11 cd_q11 ct_q11,f_q12:=f_q12,d_q12:=W.fnOf "bits_of" "bits_of" (yh yc8) (yf yc8) (ya yc8) .none kV_q12 dc_q12 pm_q12 an_q12 cd_q12 ct_q12,f_q13:=f_q13,d_q13:=W.fnOf "decisions_of" "decisions_of" (yh yd2) (yf yd2) (ya yd2) .none kV_q13 dc_q13 pm_q13 an_q13 cd_q13 ct_q13,f_q14:=f_q14,d_q14:=W.fnOf "__init__" "Even.__init__" (yh yd1) (yf yd1) (ya yd1) .none kV_q14 dc_q14 pm_q14 an_q14 cd_q14 ct_q14,f_q15:=f_q15,d_q15:=W.fnOf "chance" "Even.chance" (yh yey) (yf yey) (ya yey) .none kV_q15 dc_q15 pm_q15 an_q15 cd_q15 ct_q15,f_q16:=f_q16,d_q16:=W.fnOf "seen" "Even.seen" (yh yd5) (yf yd5) (ya yd5) .none kV_q16 dc_q16 pm_q16 an_q16 cd_q16 ct_q16,f_q17:=f_q17,d_q17:=W.fnOf "__init__" "Quick.__init__" (yh ydq) (yf ydq) (ya ydq) .none kV_q17 dc_q17 pm_q17 an_q17 cd_q17 ct_q17,f_q18:=f_q18,d_q18:=W.fnOf "chance" "Quick.chance" (yh yel) (yf yel) (ya yel) .none kV_q18 dc_q18 pm_q18 an_q18 cd_q18 ct_q18,f_q19:=f_q19,d_q19:=W.fnOf "seen" "Quick.seen" (yh yep) (yf yep) (ya yep) .none kV_q19 dc_q19 pm_q19 an_q19 cd_q19 ct_q19,f_q20:=f_q20,d_q20:=W.fnOf "__init__" "Run.__init__" (yh yew) (yf yew) (ya yew) .none kV_q20 dc_q20 pm_q20 an_q20 cd_q20 ct_q20,f_q21:=f_q21,d_q21:=W.fnOf "chance" "Run.chance" (yh ydj) (yf ydj) (ya ydj) .none kV_q21 dc_q21 pm_q21 an_q21 cd_q21 ct_q21,f_q22:=f_q22,d_q22:=W.fnOf "seen" "Run.seen" (yh yea) (yf yea) (ya yea) .none kV_q22 dc_q22 pm_q22 an_q22 cd_q22 ct_q22,f_q23:=f_q23,d_q23:=W.fnOf "slot_of" "slot_of" (yh ydg) (yf ydg) (ya ydg) .none kV_q23 dc_q23 pm_q23 an_q23 cd_q23 ct_q23,f_q24:=f_q24,d_q24:=W.fnOf "is_kind" "is_kind" (yh ydc) (yf ydc) (ya ydc) .none kV_q24 dc_q24 pm_q24 an_q24 cd_q24 ct_q24,f_q25:=f_q25,d_q25:=W.fnOf "is_place" "is_place" (yh yd9) (yf yd9) (ya yd9) .none kV_q25 dc_q25 pm_q25 an_q25 cd_q25 ct_q25,f_q26:=f_q26,d_q26:=W.fnOf "are_places" "are_places" (yh yda) (yf yda) (ya yda) .none kV_q26 dc_q26 pm_q26 an_q26 cd_q26 ct_q26,f_q27:=f_q27,d_q27:=W.fnOf "is_look" "is_look" (yh yd7) (yf yd7) (ya yd7) .none kV_q27 dc_q27 pm_q27 an_q27 cd_q27 ct_q27,f_q28:=f_q28,d_q28:=W.fnOf "checked_looks" "checked_looks" (yh ydi) (yf ydi) (ya ydi) .none kV_q28 dc_q28 pm_q28 an_q28 cd_q28 ct_q28,f_q29:=f_q29,d_q29:=W.fnOf "sign_back" "sign_back" (yh yek) (yf yek) (ya yek) .none kV_q29 dc_q29 pm_q29 an_q29 cd_q29 ct_q29,f_q30:=f_q30,d_q30:=W.fnOf "context_of" "context_of" (yh yed) (yf yed) (ya yed) .none kV_q30 dc_q30 pm_q30 an_q30 cd_q30 ct_q30,f_q31:=f_q31,d_q31:=W.fnOf "__init__" "Book.__init__" (yh ydk) (yf ydk) (ya ydk) .none kV_q31 dc_q31 pm_q31 an_q31 cd_q31 ct_q31,f_q32:=f_q32,d_q32:=W.fnOf "slot_at" "Book.slot_at" (yh yd8) (yf yd8) (ya yd8) .none kV_q32 dc_q32 pm_q32 an_q32 cd_q32 ct_q32,f_q33:=f_q33,d_q33:=W.fnOf "__init__" "Mixer.__init__" (yh yd3) (yf yd3) (ya yd3) .none kV_q33 dc_q33 pm_q33 an_q33 cd_q33 ct_q33,f_q34:=f_q34,d_q34:=W.fnOf "mixed" "Mixer.mixed" (yh yet) (yf yet) (ya yet) .none kV_q34 dc_q34 pm_q34 an_q34 cd_q34 ct_q34,f_q35:=f_q35,d_q35:=W.fnOf "learn" "Mixer.learn" (yh ydf) (yf ydf) (ya ydf) .none kV_q35 dc_q35 pm_q35 an_q35 cd_q35 ct_q35,f_q36:=f_q36,d_q36:=W.fnOf "__init__" "Foreteller.__init__" (yh yc5) (yf yc5) (ya yc5) .none kV_q36 dc_q36 pm_q36 an_q36 cd_q36 ct_q36,f_q37:=f_q37,d_q37:=W.fnOf "arrive" "Foreteller.arrive" (yh yeu) (yf yeu) (ya yeu) .none kV_q37 dc_q37 pm_q37 an_q37 cd_q37 ct_q37,f_q38:=f_q38,d_q38:=W.fnOf "chances" "Foreteller.chances" (yh ydt) (yf ydt) (ya ydt) .none kV_q38 dc_q38 pm_q38 an_q38 cd_q38 ct_q38,f_q39:=f_q39,d_q39:=W.fnOf "chance" "Foreteller.chance" (yh ydu) (yf ydu) (ya ydu) .none kV_q39 dc_q39 pm_q39 an_q39 cd_q39 ct_q39,f_q40:=f_q40,d_q40:=W.fnOf "see" "Foreteller.see" (yh yez) (yf yez) (ya yez) .none kV_q40 dc_q40 pm_q40 an_q40 cd_q40 ct_q40,f_q41:=f_q41,d_q41:=W.fnOf "step" "Foreteller.step" (yh yeg) (yf yeg) (ya yeg) .none kV_q41 dc_q41 pm_q41 an_q41 cd_q41 ct_q41,f_q42:=f_q42,d_q42:=W.fnOf "step_in_sign" "Foreteller.step_in_sign" (yh yeb) (yf yeb) (ya yeb) .none kV_q42 dc_q42 pm_q42 an_q42 cd_q42 ct_q42,f_q43:=f_q43,d_q43:=W.fnOf "written" "written" (yh yec) (yf yec) (ya yec) .none kV_q43 dc_q43 pm_q43 an_q43 cd_q43 ct_q43,f_q44:=f_q44,d_q44:=W.fnOf "first_block" "first_block" (yh ydo) (yf ydo) (ya ydo) .none kV_q44 dc_q44 pm_q44 an_q44 cd_q44 ct_q44,f_q45:=f_q45,d_q45:=W.fnOf "__init__" "Span.__init__" (yh yem) (yf yem) (ya yem) .none kV_q45 dc_q45 pm_q45 an_q45 cd_q45 ct_q45,f_q46:=f_q46,d_q46:=W.fnOf "cut" "Span.cut" (yh ydm) (yf ydm) (ya ydm) .none kV_q46 dc_q46 pm_q46 an_q46 cd_q46 ct_q46,f_q47:=f_q47,d_q47:=W.fnOf "narrow" "Span.narrow" (yh yeo) (yf yeo) (ya yeo) .none kV_q47 dc_q47 pm_q47 an_q47 cd_q47 ct_q47,f_q48:=f_q48,d_q48:=W.fnOf "holds_block" "Span.holds_block" (yh yee) (yf yee) (ya yee) .none kV_q48 dc_q48 pm_q48 an_q48 cd_q48 ct_q48,f_q49:=f_q49,d_q49:=W.fnOf "told" "Span.told" (yh yej) (yf yej) (ya yej) .none kV_q49 dc_q49 pm_q49 an_q49 cd_q49 ct_q49,f_q50:=f_q50,d_q50:=W.fnOf "__init__" "Seeker.__init__" (yh ydx) (yf ydx) (ya ydx) .none kV_q50 dc_q50 pm_q50 an_q50 cd_q50 ct_q50,f_q51:=f_q51,d_q51:=W.fnOf "follow" "Seeker.follow" (yh ydl) (yf ydl) (ya ydl) .none kV_q51 dc_q51 pm_q51 an_q51 cd_q51 ct_q51,f_q52:=f_q52,d_q52:=W.fnOf "byte_at" "Seeker.byte_at" (yh ydn) (yf ydn) (ya ydn) .none kV_q52 dc_q52 pm_q52 an_q52 cd_q52 ct_q52,f_q53:=f_q53,d_q53:=W.fnOf "bit" "Seeker.bit" (yh yeh) (yf yeh) (ya yeh) .none kV_q53 dc_q53 pm_q53 an_q53 cd_q53 ct_q53,f_q54:=f_q54,d_q54:=W.fnOf "told" "Seeker.told" (yh ydd) (yf ydd) (ya ydd) .none kV_q54 dc_q54 pm_q54 an_q54 cd_q54 ct_q54,f_q55:=f_q55,d_q55:=W.fnOf "checked_learned" "checked_learned" (yh yd0) (yf yd0) (ya yd0) .none kV_q55 dc_q55 pm_q55 an_q55 cd_q55 ct_q55,f_q56:=f_q56,d_q56:=W.fnOf "teach" "teach" (yh yc7) (yf yc7) (ya yc7) .none kV_q56 dc_q56 pm_q56 an_q56 cd_q56 ct_q56,f_q57:=f_q57,d_q57:=W.fnOf "press_by" "press_by" (yh yer) (yf yer) (ya yer) .none kV_q57 dc_q57 pm_q57 an_q57 cd_q57 ct_q57,f_q58:=f_q58,d_q58:=W.fnOf "pressed" "pressed" (yh yc9) (yf yc9) (ya yc9) (.ref D_q58) kV_q58 dc_q58 pm_q58 an_q58 cd_q58 ct_q58,D_q58:=D_q58,f_q59:=f_q59,d_q59:=W.fnOf "bit_by" "bit_by" (yh yeq) (yf yeq) (ya yeq) .none kV_q59 dc_q59 pm_q59 an_q59 cd_q59 ct_q59,f_q60:=f_q60,d_q60:=W.fnOf "sign_by" "sign_by" (yh ydw) (yf ydw) (ya ydw) .none kV_q60 dc_q60 pm_q60 an_q60 cd_q60 ct_q60,f_q61:=f_q61,d_q61:=W.fnOf "text_by" "text_by" (yh ydp) (yf ydp) (ya ydp) .none kV_q61 dc_q61 pm_q61 an_q61 cd_q61 ct_q61,f_q62:=f_q62,d_q62:=W.fnOf "read_by" "read_by" (yh yef) (yf yef) (ya yef) .none kV_q62 dc_q62 pm_q62 an_q62 cd_q62 ct_q62,f_q63:=f_q63,d_q63:=W.fnOf "read_first" "read_first" (yh ydb) (yf ydb) (ya ydb) (.ref D_q63) kV_q63 dc_q63 pm_q63 an_q63 cd_q63 ct_q63,D_q63:=D_q63,Dt_q63_0:=Dt_q63_0,f_q64:=f_q64,d_q64:=W.fnOf "read" "read" (yh yex) (yf yex) (ya yex) (.ref D_q64) kV_q64 dc_q64 pm_q64 an_q64 cd_q64 ct_q64,D_q64:=D_q64,Dt_q64_0:=Dt_q64_0,f_q65:=f_q65,d_q65:=W.fnOf "_law_mixed" "_law_mixed" (yh yd4) (yf yd4) (ya yd4) .none kV_q65 dc_q65 pm_q65 an_q65 cd_q65 ct_q65,f_q66:=f_q66,d_q66:=W.fnOf "_law_looks" "_law_looks" (yh yds) (yf yds) (ya yds) .none kV_q66 dc_q66 pm_q66 an_q66 cd_q66 ct_q66,f_q67:=f_q67,d_q67:=W.fnOf "_law_text" "_law_text" (yh yev) (yf yev) (ya yev) .none kV_q67 dc_q67 pm_q67 an_q67 cd_q67 ct_q67,f_q68:=f_q68,d_q68:=W.fnOf "_law_learned" "_law_learned" (yh ydz) (yf ydz) (ya ydz) .none kV_q68 dc_q68 pm_q68 an_q68 cd_q68 ct_q68,f_q69:=f_q69,d_q69:=W.fnOf "_law_bytes" "_law_bytes" (yh yde) (yf yde) (ya yde) .none kV_q69 dc_q69 pm_q69 an_q69 cd_q69 ct_q69,f_q70:=f_q70,d_q70:=W.fnOf "_law_spoiled" "_law_spoiled" (yh yes) (yf yes) (ya yes) .none kV_q70 dc_q70 pm_q70 an_q70 cd_q70 ct_q70,f_q71:=f_q71,d_q71:=W.fnOf "_law_read" "_law_read" (yh ydh) (yf ydh) (ya ydh) .none kV_q71 dc_q71 pm_q71 an_q71 cd_q71 ct_q71,f_q72:=f_q72,d_q72:=W.fnOf "_law_first" "_law_first" (yh ydv) (yf ydv) (ya ydv) .none kV_q72 dc_q72 pm_q72 an_q72 cd_q72 ct_q72,f_law:=fa,d_law:=W.fnOf "law" "law" (yh ydy) (yf ydy) (ya ydy) .none kV_law dc_law pm_law an_law cd_law ct_law,C_Even:=C_Even,C_Quick:=C_Quick,C_Run:=C_Run,C_Mx:=C_Mx,C_Book:=C_Book,C_Span:=C_Span,C_Ft:=C_Ft,C_Sk:=C_Sk,C_NT:=C_NT,C_NY:=C_NY,C_NoMost:=C_NoMost,C_NC:=C_NC,C_NB:=C_NB,C_NL:=C_NL,C_NP:=C_NP,t_LEAST:=t_LEAST,t_ONE:=t_ONE,t_MOST_SIGNS:=t_MOST_SIGNS,t_MOST_BYTES:=t_MOST_BYTES,t_MOST_COUNTED:=t_MOST_COUNTED,t_FARTHEST:=t_FARTHEST,t_MOST_PLACES:=t_MOST_PLACES,t_MOST_LOOKS:=t_MOST_LOOKS,t_NO_SIGN:=t_NO_SIGN,t_FIRST_WEIGHT:=t_FIRST_WEIGHT,t_OWN_PARTS:=t_OWN_PARTS,t_MOST_FIGURES:=t_MOST_FIGURES,t_NODES_END:=t_NODES_END,t_FIRST_WIDTH:=t_FIRST_WIDTH,t_FIRST_SIZE:=t_FIRST_SIZE,t_LEAST_WIDTH:=t_LEAST_WIDTH,W_WORTHS:=W_WORTHS,W_KINDS:=W_KINDS }:={
  F_q1:=F_q1
  B_q1:=F_q1.binds (ps:=["thing"]) fun _ _ _ _ _ _ us hl=>match us,hl with | [_],_=>rfl
  m_q1:=W.mg_of X G a_q1
  F_q2:=F_q2
  B_q2:=F_q2.binds (ps:=["thing"]) fun _ _ _ _ _ _ us hl=>match us,hl with | [_],_=>rfl
  m_q2:=W.mg_of X G a_q2
  F_q3:=F_q3
  B_q3:=F_q3.binds (ps:=["thing"]) fun _ _ _ _ _ _ us hl=>match us,hl with | [_],_=>rfl
  m_q3:=W.mg_of X G a_q3
  F_q4:=F_q4
  B_q4:=F_q4.binds (ps:=["thing"]) fun _ _ _ _ _ _ us hl=>match us,hl with | [_],_=>rfl
  m_q4:=W.mg_of X G a_q4
  F_q5:=F_q5
  B_q5:=F_q5.binds (ps:=["thing","most"]) fun _ _ _ _ _ _ us hl=>match us,hl with | [_,_],_=>rfl
  m_q5:=W.mg_of X G a_q5
  F_q6:=F_q6
  B_q6:=F_q6.binds (ps:=["thing"]) fun _ _ _ _ _ _ us hl=>match us,hl with | [_],_=>rfl
  m_q6:=W.mg_of X G a_q6
  F_q7:=F_q7
  B_q7:=F_q7.binds (ps:=["thing"]) fun _ _ _ _ _ _ us hl=>match us,hl with | [_],_=>rfl
  m_q7:=W.mg_of X G a_q7
  F_q8:=F_q8
  B_q8:=F_q8.binds (ps:=["thing"]) fun _ _ _ _ _ _ us hl=>match us,hl with | [_],_=>rfl
  m_q8:=W.mg_of X G a_q8
  F_q9:=F_q9
  B_q9:=F_q9.binds (ps:=["thing"]) fun _ _ _ _ _ _ us hl=>match us,hl with | [_],_=>rfl
  m_q9:=W.mg_of X G a_q9
  F_q10:=F_q10
  B_q10:=F_q10.binds (ps:=["thing"]) fun _ _ _ _ _ _ us hl=>match us,hl with | [_],_=>rfl
  m_q10:=W.mg_of X G a_q10
  F_q11:=F_q11
  B_q11:=F_q11.binds (ps:=["chance","bit"]) fun _ _ _ _ _ _ us hl=>match us,hl with | [_,_],_=>rfl
  m_q11:=W.mg_of X G a_q11
  F_q12:=F_q12
  B_q12:=F_q12.binds (ps:=["sign"]) fun _ _ _ _ _ _ us hl=>match us,hl with | [_],_=>rfl
  m_q12:=W.mg_of X G a_q12
  F_q13:=F_q13
  B_q13:=F_q13.binds (ps:=["text"]) fun _ _ _ _ _ _ us hl=>match us,hl with | [_],_=>rfl
  m_q13:=W.mg_of X G a_q13
  F_q14:=F_q14
  B_q14:=F_q14.binds (ps:=["self"]) fun _ _ _ _ _ _ us hl=>match us,hl with | [_],_=>rfl
  F_q15:=F_q15
  B_q15:=F_q15.binds (ps:=["self"]) fun _ _ _ _ _ _ us hl=>match us,hl with | [_],_=>rfl
  M_q15:=⟨a_q15,i_q15,k_q15⟩
  F_q16:=F_q16
  B_q16:=F_q16.binds (ps:=["self","bit"]) fun _ _ _ _ _ _ us hl=>match us,hl with | [_,_],_=>rfl
  M_q16:=⟨a_q16,i_q16,k_q16⟩
  F_q17:=F_q17
  B_q17:=F_q17.binds (ps:=["self"]) fun _ _ _ _ _ _ us hl=>match us,hl with | [_],_=>rfl
  F_q18:=F_q18
  B_q18:=F_q18.binds (ps:=["self"]) fun _ _ _ _ _ _ us hl=>match us,hl with | [_],_=>rfl
  M_q18:=⟨a_q18,i_q18,k_q18⟩
  F_q19:=F_q19
  B_q19:=F_q19.binds (ps:=["self","bit"]) fun _ _ _ _ _ _ us hl=>match us,hl with | [_,_],_=>rfl
  M_q19:=⟨a_q19,i_q19,k_q19⟩
  F_q20:=F_q20
  B_q20:=F_q20.binds (ps:=["self"]) fun _ _ _ _ _ _ us hl=>match us,hl with | [_],_=>rfl
  F_q21:=F_q21
  B_q21:=F_q21.binds (ps:=["self"]) fun _ _ _ _ _ _ us hl=>match us,hl with | [_],_=>rfl
  M_q21:=⟨a_q21,i_q21,k_q21⟩
  F_q22:=F_q22
  B_q22:=F_q22.binds (ps:=["self","bit"]) fun _ _ _ _ _ _ us hl=>match us,hl with | [_,_],_=>rfl
  M_q22:=⟨a_q22,i_q22,k_q22⟩
  F_q23:=F_q23
  B_q23:=F_q23.binds (ps:=["kind"]) fun _ _ _ _ _ _ us hl=>match us,hl with | [_],_=>rfl
  m_q23:=W.mg_of X G a_q23
  F_q24:=F_q24
  B_q24:=F_q24.binds (ps:=["thing"]) fun _ _ _ _ _ _ us hl=>match us,hl with | [_],_=>rfl
  m_q24:=W.mg_of X G a_q24
  F_q25:=F_q25
  B_q25:=F_q25.binds (ps:=["thing"]) fun _ _ _ _ _ _ us hl=>match us,hl with | [_],_=>rfl
  m_q25:=W.mg_of X G a_q25
  F_q26:=F_q26
  B_q26:=F_q26.binds (ps:=["thing"]) fun _ _ _ _ _ _ us hl=>match us,hl with | [_],_=>rfl
  m_q26:=W.mg_of X G a_q26
  F_q27:=F_q27
  B_q27:=F_q27.binds (ps:=["thing"]) fun _ _ _ _ _ _ us hl=>match us,hl with | [_],_=>rfl
  m_q27:=W.mg_of X G a_q27
  F_q28:=F_q28
  B_q28:=F_q28.binds (ps:=["thing"]) fun _ _ _ _ _ _ us hl=>match us,hl with | [_],_=>rfl
  m_q28:=W.mg_of X G a_q28
  F_q29:=F_q29
  B_q29:=F_q29.binds (ps:=["signs","place"]) fun _ _ _ _ _ _ us hl=>match us,hl with | [_,_],_=>rfl
  m_q29:=W.mg_of X G a_q29
  F_q30:=F_q30
  B_q30:=F_q30.binds (ps:=["look","signs","node"]) fun _ _ _ _ _ _ us hl=>match us,hl with | [_,_,_],_=>rfl
  m_q30:=W.mg_of X G a_q30
  F_q31:=F_q31
  B_q31:=F_q31.binds (ps:=["self","look"]) fun _ _ _ _ _ _ us hl=>match us,hl with | [_,_],_=>rfl
  F_q32:=F_q32
  B_q32:=F_q32.binds (ps:=["self","signs","node"]) fun _ _ _ _ _ _ us hl=>match us,hl with | [_,_,_],_=>rfl
  M_q32:=⟨a_q32,i_q32,k_q32⟩
  F_q33:=F_q33
  B_q33:=F_q33.binds (ps:=["self","many"]) fun _ _ _ _ _ _ us hl=>match us,hl with | [_,_],_=>rfl
  F_q34:=F_q34
  B_q34:=F_q34.binds (ps:=["self","chances"]) fun _ _ _ _ _ _ us hl=>match us,hl with | [_,_],_=>rfl
  M_q34:=⟨a_q34,i_q34,k_q34⟩
  F_q35:=F_q35
  B_q35:=F_q35.binds (ps:=["self","chances","bit"]) fun _ _ _ _ _ _ us hl=>match us,hl with | [_,_,_],_=>rfl
  M_q35:=⟨a_q35,i_q35,k_q35⟩
  F_q36:=F_q36
  B_q36:=F_q36.binds (ps:=["self","looks"]) fun _ _ _ _ _ _ us hl=>match us,hl with | [_,_],_=>rfl
  F_q37:=F_q37
  B_q37:=F_q37.binds (ps:=["self"]) fun _ _ _ _ _ _ us hl=>match us,hl with | [_],_=>rfl
  M_q37:=⟨a_q37,i_q37,k_q37⟩
  F_q38:=F_q38
  B_q38:=F_q38.binds (ps:=["self"]) fun _ _ _ _ _ _ us hl=>match us,hl with | [_],_=>rfl
  M_q38:=⟨a_q38,i_q38,k_q38⟩
  F_q39:=F_q39
  B_q39:=F_q39.binds (ps:=["self"]) fun _ _ _ _ _ _ us hl=>match us,hl with | [_],_=>rfl
  M_q39:=⟨a_q39,i_q39,k_q39⟩
  F_q40:=F_q40
  B_q40:=F_q40.binds (ps:=["self","bit"]) fun _ _ _ _ _ _ us hl=>match us,hl with | [_,_],_=>rfl
  M_q40:=⟨a_q40,i_q40,k_q40⟩
  F_q41:=F_q41
  B_q41:=F_q41.binds (ps:=["self","bit"]) fun _ _ _ _ _ _ us hl=>match us,hl with | [_,_],_=>rfl
  M_q41:=⟨a_q41,i_q41,k_q41⟩
  F_q42:=F_q42
  B_q42:=F_q42.binds (ps:=["self","bit"]) fun _ _ _ _ _ _ us hl=>match us,hl with | [_,_],_=>rfl
  M_q42:=⟨a_q42,i_q42,k_q42⟩
  F_q43:=F_q43
  B_q43:=F_q43.binds (ps:=["number","size"]) fun _ _ _ _ _ _ us hl=>match us,hl with | [_,_],_=>rfl
  m_q43:=W.mg_of X G a_q43
  F_q44:=F_q44
  B_q44:=F_q44.binds (ps:=["low","unit"]) fun _ _ _ _ _ _ us hl=>match us,hl with | [_,_],_=>rfl
  m_q44:=W.mg_of X G a_q44
  F_q45:=F_q45
  B_q45:=F_q45.binds (ps:=["self"]) fun _ _ _ _ _ _ us hl=>match us,hl with | [_],_=>rfl
  F_q46:=F_q46
  B_q46:=F_q46.binds (ps:=["self","chance"]) fun _ _ _ _ _ _ us hl=>match us,hl with | [_,_],_=>rfl
  M_q46:=⟨a_q46,i_q46,k_q46⟩
  F_q47:=F_q47
  B_q47:=F_q47.binds (ps:=["self","chance","bit"]) fun _ _ _ _ _ _ us hl=>match us,hl with | [_,_,_],_=>rfl
  M_q47:=⟨a_q47,i_q47,k_q47⟩
  F_q48:=F_q48
  B_q48:=F_q48.binds (ps:=["self","unit"]) fun _ _ _ _ _ _ us hl=>match us,hl with | [_,_],_=>rfl
  M_q48:=⟨a_q48,i_q48,k_q48⟩
  F_q49:=F_q49
  B_q49:=F_q49.binds (ps:=["self"]) fun _ _ _ _ _ _ us hl=>match us,hl with | [_],_=>rfl
  M_q49:=⟨a_q49,i_q49,k_q49⟩
  F_q50:=F_q50
  B_q50:=F_q50.binds (ps:=["self","data"]) fun _ _ _ _ _ _ us hl=>match us,hl with | [_,_],_=>rfl
  F_q51:=F_q51
  B_q51:=F_q51.binds (ps:=["self"]) fun _ _ _ _ _ _ us hl=>match us,hl with | [_],_=>rfl
  M_q51:=⟨a_q51,i_q51,k_q51⟩
  F_q52:=F_q52
  B_q52:=F_q52.binds (ps:=["self","place"]) fun _ _ _ _ _ _ us hl=>match us,hl with | [_,_],_=>rfl
  M_q52:=⟨a_q52,i_q52,k_q52⟩
  F_q53:=F_q53
  B_q53:=F_q53.binds (ps:=["self","chance"]) fun _ _ _ _ _ _ us hl=>match us,hl with | [_,_],_=>rfl
  M_q53:=⟨a_q53,i_q53,k_q53⟩
  F_q54:=F_q54
  B_q54:=F_q54.binds (ps:=["self"]) fun _ _ _ _ _ _ us hl=>match us,hl with | [_],_=>rfl
  M_q54:=⟨a_q54,i_q54,k_q54⟩
  F_q55:=F_q55
  B_q55:=F_q55.binds (ps:=["thing"]) fun _ _ _ _ _ _ us hl=>match us,hl with | [_],_=>rfl
  m_q55:=W.mg_of X G a_q55
  F_q56:=F_q56
  B_q56:=F_q56.binds (ps:=["foreteller","texts"]) fun _ _ _ _ _ _ us hl=>match us,hl with | [_,_],_=>rfl
  m_q56:=W.mg_of X G a_q56
  F_q57:=F_q57
  B_q57:=F_q57.binds (ps:=["foreteller","text"]) fun _ _ _ _ _ _ us hl=>match us,hl with | [_,_],_=>rfl
  m_q57:=W.mg_of X G a_q57
  F_q58:=F_q58
  B_q58:=ye2.binds (ps:=["looks","text","learned"]) (ds:=[]) (j:=3) rfl F_q58 ld_q58 rfl fun _ _ _ _ _ _ us hl=>match us,hl with | [_,_,_],_=>⟨_,rfl,rfl⟩
  B1_q58:=ye2.binds (ps:=["looks","text","learned"]) (ds:=[.none]) (j:=2) rfl F_q58 ld_q58 rfl fun _ _ _ _ _ _ us hl=>match us,hl with | [_,_],_=>⟨_,rfl,rfl⟩
  m_q58:=W.mg_of X G a_q58
  F_q59:=F_q59
  B_q59:=F_q59.binds (ps:=["foreteller","seeker"]) fun _ _ _ _ _ _ us hl=>match us,hl with | [_,_],_=>rfl
  m_q59:=W.mg_of X G a_q59
  F_q60:=F_q60
  B_q60:=F_q60.binds (ps:=["foreteller","seeker"]) fun _ _ _ _ _ _ us hl=>match us,hl with | [_,_],_=>rfl
  m_q60:=W.mg_of X G a_q60
  F_q61:=F_q61
  B_q61:=F_q61.binds (ps:=["foreteller","seeker","most"]) fun _ _ _ _ _ _ us hl=>match us,hl with | [_,_,_],_=>rfl
  m_q61:=W.mg_of X G a_q61
  F_q62:=F_q62
  B_q62:=F_q62.binds (ps:=["foreteller","data","most"]) fun _ _ _ _ _ _ us hl=>match us,hl with | [_,_,_],_=>rfl
  m_q62:=W.mg_of X G a_q62
  F_q63:=F_q63
  B_q63:=ye2.binds (ps:=["looks","data","most","learned"]) (ds:=[]) (j:=4) rfl F_q63 ld_q63 rfl fun _ _ _ _ _ _ us hl=>match us,hl with | [_,_,_,_],_=>⟨_,rfl,rfl⟩
  B1_q63:=ye2.binds (ps:=["looks","data","most","learned"]) (ds:=[.none]) (j:=3) rfl F_q63 ld_q63 rfl fun _ _ _ _ _ _ us hl=>match us,hl with | [_,_,_],_=>⟨_,rfl,rfl⟩
  B2_q63:=ye2.binds (ps:=["looks","data","most","learned"]) (ds:=[.int 1000 Dt_q63_0,.none]) (j:=2) rfl F_q63 ld_q63 rfl fun _ _ _ _ _ _ us hl=>match us,hl with | [_,_],_=>⟨_,rfl,rfl⟩
  m_q63:=W.mg_of X G a_q63
  F_q64:=F_q64
  B_q64:=ye2.binds (ps:=["looks","data","most","learned"]) (ds:=[]) (j:=4) rfl F_q64 ld_q64 rfl fun _ _ _ _ _ _ us hl=>match us,hl with | [_,_,_,_],_=>⟨_,rfl,rfl⟩
  B1_q64:=ye2.binds (ps:=["looks","data","most","learned"]) (ds:=[.none]) (j:=3) rfl F_q64 ld_q64 rfl fun _ _ _ _ _ _ us hl=>match us,hl with | [_,_,_],_=>⟨_,rfl,rfl⟩
  B2_q64:=ye2.binds (ps:=["looks","data","most","learned"]) (ds:=[.int 1000 Dt_q64_0,.none]) (j:=2) rfl F_q64 ld_q64 rfl fun _ _ _ _ _ _ us hl=>match us,hl with | [_,_],_=>⟨_,rfl,rfl⟩
  m_q64:=W.mg_of X G a_q64
  F_q65:=F_q65
  B_q65:=F_q65.binds (ps:=["_law_script","_law_k"]) fun _ _ _ _ _ _ us hl=>match us,hl with | [_,_],_=>rfl
  m_q65:=W.mg_of X G a_q65
  F_q66:=F_q66
  B_q66:=F_q66.binds (ps:=["_law_cell","_law_most"]) fun _ _ _ _ _ _ us hl=>match us,hl with | [_,_],_=>rfl
  m_q66:=W.mg_of X G a_q66
  F_q67:=F_q67
  B_q67:=F_q67.binds (ps:=["_law_cells","_law_size","_law_way"]) fun _ _ _ _ _ _ us hl=>match us,hl with | [_,_,_],_=>rfl
  m_q67:=W.mg_of X G a_q67
  F_q68:=F_q68
  B_q68:=F_q68.binds (ps:=["_law_script","_law_k","_law_many","_law_most"]) fun _ _ _ _ _ _ us hl=>match us,hl with | [_,_,_,_],_=>rfl
  m_q68:=W.mg_of X G a_q68
  F_q69:=F_q69
  B_q69:=F_q69.binds (ps:=["_law_found"]) fun _ _ _ _ _ _ us hl=>match us,hl with | [_],_=>rfl
  m_q69:=W.mg_of X G a_q69
  F_q70:=F_q70
  B_q70:=F_q70.binds (ps:=["_law_data","_law_way","_law_cell"]) fun _ _ _ _ _ _ us hl=>match us,hl with | [_,_,_],_=>rfl
  m_q70:=W.mg_of X G a_q70
  F_q71:=F_q71
  B_q71:=F_q71.binds (ps:=["_law_looks_here","_law_data","_law_most","_law_learned_here"]) fun _ _ _ _ _ _ us hl=>match us,hl with | [_,_,_,_],_=>rfl
  m_q71:=W.mg_of X G a_q71
  F_q72:=F_q72
  B_q72:=F_q72.binds (ps:=["_law_looks_here","_law_data","_law_most","_law_learned_here"]) fun _ _ _ _ _ _ us hl=>match us,hl with | [_,_,_,_],_=>rfl
  m_q72:=W.mg_of X G a_q72
  F_law:=F_law
  B_law:=F_law.binds (ps:=["_law_script"]) fun _ _ _ _ _ _ us hl=>match us,hl with | [_],_=>rfl
  m_law:=W.mg_of X G a_law
  cl_Even:=⟨pg_Even,hd_Even,po_Even,sa_Even⟩
  m_Even:=W.mg_of X G aC_Even
  k_Even:=⟨mk_Even,a_q14,i_q14,kc_Even⟩
  n_Even_noughts:=n_Even_noughts
  n_Even_ones:=n_Even_ones
  cl_Quick:=⟨pg_Quick,hd_Quick,po_Quick,sa_Quick⟩
  m_Quick:=W.mg_of X G aC_Quick
  k_Quick:=⟨mk_Quick,a_q17,i_q17,kc_Quick⟩
  n_Quick_held:=n_Quick_held
  cl_Run:=⟨pg_Run,hd_Run,po_Run,sa_Run⟩
  m_Run:=W.mg_of X G aC_Run
  k_Run:=⟨mk_Run,a_q20,i_q20,kc_Run⟩
  n_Run_last:=n_Run_last
  n_Run_length:=n_Run_length
  cl_Mx:=⟨pg_Mx,hd_Mx,po_Mx,sa_Mx⟩
  m_Mx:=W.mg_of X G aC_Mx
  k_Mx:=⟨mk_Mx,a_q33,i_q33,kc_Mx⟩
  n_Mx_kept:=n_Mx_kept
  cl_Book:=⟨pg_Book,hd_Book,po_Book,sa_Book⟩
  m_Book:=W.mg_of X G aC_Book
  k_Book:=⟨mk_Book,a_q31,i_q31,kc_Book⟩
  n_Book_look:=n_Book_look
  n_Book_slots:=n_Book_slots
  cl_Span:=⟨pg_Span,hd_Span,po_Span,sa_Span⟩
  m_Span:=W.mg_of X G aC_Span
  k_Span:=⟨mk_Span,a_q45,i_q45,kc_Span⟩
  n_Span_low:=n_Span_low
  n_Span_width:=n_Span_width
  n_Span_size:=n_Span_size
  cl_Ft:=⟨pg_Ft,hd_Ft,po_Ft,sa_Ft⟩
  m_Ft:=W.mg_of X G aC_Ft
  k_Ft:=⟨mk_Ft,a_q36,i_q36,kc_Ft⟩
  n_Ft_looks:=n_Ft_looks
  n_Ft_books:=n_Ft_books
  n_Ft_mixer:=n_Ft_mixer
  n_Ft_ended:=n_Ft_ended
  n_Ft_place:=n_Ft_place
  n_Ft_present:=n_Ft_present
  cl_Sk:=⟨pg_Sk,hd_Sk,po_Sk,sa_Sk⟩
  m_Sk:=W.mg_of X G aC_Sk
  k_Sk:=⟨mk_Sk,a_q50,i_q50,kc_Sk⟩
  n_Sk_data:=n_Sk_data
  n_Sk_span:=n_Sk_span
  n_Sk_number:=n_Sk_number
  n_Sk_reached:=n_Sk_reached
  m_NT:=W.mg_of X G aC_NT
  m_NY:=W.mg_of X G aC_NY
  m_NoMost:=W.mg_of X G aC_NoMost
  m_NC:=W.mg_of X G aC_NC
  m_NB:=W.mg_of X G aC_NB
  m_NL:=W.mg_of X G aC_NL
  m_NP:=W.mg_of X G aC_NP
  x_NT:=⟨xcl_NT,xga_NT,xgt_NT,xca_NT,xgg,xtk,xmo_NT,xmb_NT⟩
  r_NT:=r_NT
  x_NY:=⟨xcl_NY,xga_NY,xgt_NY,xca_NY,xgg,xtk,xmo_NY,xmb_NY⟩
  r_NY:=r_NY
  x_NoMost:=⟨xcl_NoMost,xga_NoMost,xgt_NoMost,xca_NoMost,xgg,xtk,xmo_NoMost,xmb_NoMost⟩
  r_NoMost:=r_NoMost
  x_NC:=⟨xcl_NC,xga_NC,xgt_NC,xca_NC,xgg,xtk,xmo_NC,xmb_NC⟩
  r_NC:=r_NC
  x_NB:=⟨xcl_NB,xga_NB,xgt_NB,xca_NB,xgg,xtk,xmo_NB,xmb_NB⟩
  r_NB:=r_NB
  x_NL:=⟨xcl_NL,xga_NL,xgt_NL,xca_NL,xgg,xtk,xmo_NL,xmb_NL⟩
  r_NL:=r_NL
  x_NP:=⟨xcl_NP,xga_NP,xgt_NP,xca_NP,xgg,xtk,xmo_NP,xmb_NP⟩
  r_NP:=r_NP
  em_NT_NP:=yaa eb_NP ed_NP et_NP em_NT_NP
  em_NY_NP:=yaa eb_NP ed_NP et_NP em_NY_NP
  em_NoMost_NP:=yaa eb_NP ed_NP et_NP em_NoMost_NP
  em_NC_NP:=yaa eb_NP ed_NP et_NP em_NC_NP
  em_NB_NP:=yaa eb_NP ed_NP et_NP em_NB_NP
  em_NL_NP:=yaa eb_NP ed_NP et_NP em_NL_NP
  em_NP_NP:=yvb eb_NP ed_NP et_NP em_NP_NP
  z_isinstance:=W.mg_none_of X G z_isinstance
  z_int:=W.mg_none_of X G z_int
  z_bool:=W.mg_none_of X G z_bool
  z_list:=W.mg_none_of X G z_list
  z_all:=W.mg_none_of X G z_all
  z_len:=W.mg_none_of X G z_len
  z_min:=W.mg_none_of X G z_min
  z_max:=W.mg_none_of X G z_max
  z_str:=W.mg_none_of X G z_str
  z_tuple:=W.mg_none_of X G z_tuple
  z_zip:=W.mg_none_of X G z_zip
  z_sum:=W.mg_none_of X G z_sum
  z_range:=W.mg_none_of X G z_range
  c_LEAST:=W.mg_of X G v_LEAST
  c_ONE:=W.mg_of X G v_ONE
  c_MOST_SIGNS:=W.mg_of X G v_MOST_SIGNS
  c_MOST_BYTES:=W.mg_of X G v_MOST_BYTES
  c_MOST_COUNTED:=W.mg_of X G v_MOST_COUNTED
  c_FARTHEST:=W.mg_of X G v_FARTHEST
  c_MOST_PLACES:=W.mg_of X G v_MOST_PLACES
  c_MOST_LOOKS:=W.mg_of X G v_MOST_LOOKS
  c_NO_SIGN:=W.mg_of X G v_NO_SIGN
  c_FIRST_WEIGHT:=W.mg_of X G v_FIRST_WEIGHT
  c_OWN_PARTS:=W.mg_of X G v_OWN_PARTS
  c_MOST_FIGURES:=W.mg_of X G v_MOST_FIGURES
  c_NODES_END:=W.mg_of X G v_NODES_END
  c_FIRST_WIDTH:=W.mg_of X G v_FIRST_WIDTH
  c_FIRST_SIZE:=W.mg_of X G v_FIRST_SIZE
  c_LEAST_WIDTH:=W.mg_of X G v_LEAST_WIDTH
  m_WORTHS:=W.mg_of X G wa_WORTHS
  w_WORTHS:=fun H=>.inr ⟨_,_,_,wl_WORTHS,rfl,rfl,(by show 8 <= sizeLine; decide),(.cons ⟨_,rfl⟩ (.cons ⟨_,rfl⟩ (.cons ⟨_,rfl⟩ (.cons ⟨_,rfl⟩ (.cons ⟨_,rfl⟩ (.cons ⟨_,rfl⟩ (.cons ⟨_,rfl⟩ (.cons ⟨_,rfl⟩ .nil))))))))⟩
  m_KINDS:=W.mg_of X G wa_KINDS
  w_KINDS:=fun H=>.inr ⟨_,_,_,wl_KINDS,rfl,rfl,(by show 3 <= sizeLine; decide),(.cons ⟨_,rfl⟩ (.cons ⟨_,rfl⟩ (.cons ⟨_,rfl⟩ .nil)))⟩
  }
 exact ⟨_,fun s v=>.of_eq rfl,fun base _ _=>ywb T⟩
theorem walk {l:W.OpenLaw} {q:Program} {loose:List Str} {XP:(Str->Option Value)->Heap->Prop} {YP:World->Heap->Prop} {d:DefRec} {K:Params->W.Frag} (hn:l.most = some 63) (hdf:d.params.defaults = [])
  (hY:∀ (w:World) (h:Heap),YP w h->(K w.params).In h)
  (F:∀ (w:World) (mg:Str->Option Value) (fa:Addr) (h:Heap),(K w.params).In h->h.Ns mainGlobals mg->mg d.name = some (.ref fa) ->
   ∃ fd:FuncData,(∀ (s:Shared) (u:Value),BindsTo s fd ⟨[u],[]⟩ [("_law_script",u)])/\∀ base:Heap,(K w.params).In base->base.Ns mainGlobals mg->we l.prog w (K w.params) mg base CX0 14 fa fd ["_law_script"] (yja (K w.params))) :
  W.WalkO q loose XP YP l.row.toRowW d [] (fun f vs=>PySem.call f vs) :=
 L2.walk_of (n:=63) (k:=14) (x:="_law_script") (CX:=fun _=>CX0) (sp:=fun w=>yja (K w.params)) hn (by decide) hdf ⟨rfl,by decide,by decide⟩ hY F (fun _ _ a ns hl _ hS=>⟨a,ns,rfl,hS,hl,fun _=>rfl⟩) fun _ _ _ _ _ z=>z
end Law
open PySem PySem.W PyProof.Rows
def PySem.W.Fast.tw14124173698859423075 : Unit := ()
def PySem.W.Fast.tw8504036486736717160 : Unit := ()
def PySem.W.Fast.tw6482944952892110462 : Unit := ()
def PySem.W.Fast.tw4466294360021937333 : Unit := ()
def PySem.W.Fast.tw13850902707533618423 : Unit := ()
def PySem.W.Fast.tw7954137794015918895 : Unit := ()
def PySem.W.Fast.tw8934407334777162630 : Unit := ()
def PySem.W.Fast.tw15885611308360150531 : Unit := ()
def PySem.W.Fast.tw15403047154372944233 : Unit := ()
def PySem.W.Fast.tw2045003124953141644 : Unit := ()
def PySem.W.Fast.tw981720894051229904 : Unit := ()
def PySem.W.Fast.tw13078139226513328489 : Unit := ()
def PySem.W.Fast.tw2594314691592967736 : Unit := ()
def PySem.W.Fast.tw6124100694135558427 : Unit := ()
def PySem.W.Fast.tw16698328970095579803 : Unit := ()
def PySem.W.Fast.tw3065147255302031743 : Unit := ()
def PySem.W.Fast.tw3588328382687023618 : Unit := ()
def PySem.W.Fast.tw6783130714940367538 : Unit := ()
def PySem.W.Fast.tw18239226167026021859 : Unit := ()
def PySem.W.Fast.tw775759480619964575 : Unit := ()
def PySem.W.Fast.tw3694804172158645690 : Unit := ()
def PySem.W.Fast.tw11107121161408988053 : Unit := ()
namespace PySem.W.Fast
def tw6500717285912377772:Unit:=()
def tw7857912033100249914:Unit:=()
def tw8132486070115437759:Unit:=()
def tw1664345761863238200:Unit:=()
def tw17420600249156299648:Unit:=()
def tw15410335142915586756:Unit:=()
def tw279404695461834684:Unit:=()
def tw14957716750069483104:Unit:=()
def tw14808890521479115166:Unit:=()
def tw9875360586374429870:Unit:=()
def tw734901865730685908:Unit:=()
def tw3769697699325048389:Unit:=()
def tw15091250322309111604:Unit:=()
def tw1136179606812531131:Unit:=()
def tw18305386240117952226:Unit:=()
def tw7159400873178613721:Unit:=()
def tw15204603777091643544:Unit:=()
def tw16586978010758950652:Unit:=()
def tw4672776027609583660:Unit:=()
def tw6649264926755624290:Unit:=()
def tw183053526530312554:Unit:=()
def tw944537285962226565:Unit:=()
def tw12142818224456857411:Unit:=()
def tw6215451877206684529:Unit:=()
def tw4025686933459279983:Unit:=()
def tw8013726468949064480:Unit:=()
def tw1073519403246557037:Unit:=()
def tw17834389212281571580:Unit:=()
def tw12500527274562613254:Unit:=()
def tw893254995479192624:Unit:=()
def tw15436049495392822510:Unit:=()
def tw8368663243256893857:Unit:=()
def tw545299614871501959:Unit:=()
def tw6342161966432017261:Unit:=()
def tw7485670236246025752:Unit:=()
def tw5260889569294059314:Unit:=()
def tw321987295712172689:Unit:=()
def tw474666029846364165:Unit:=()
def tw6487556540530101647:Unit:=()
def tw936312813603511732:Unit:=()
def tw12947810851259255779:Unit:=()
def tw11708792526330744244:Unit:=()
def tw8624802428699746658:Unit:=()
def tw18356541000464694749:Unit:=()
def tw7453224540027267773:Unit:=()
def tw11880752113686767933:Unit:=()
def tw8732377643389626519:Unit:=()
def tw18334949392038799686:Unit:=()
def tw5905469500817410194:Unit:=()
def tw2536407210806593310:Unit:=()
def tw4054597861543451750:Unit:=()
def tw12725968670018809998:Unit:=()
def tw9850283330474677521:Unit:=()
def tw14789111411252027298:Unit:=()
def tw5499625702749203759:Unit:=()
def tw5804847668404315965:Unit:=()
def tw4198378092474962483:Unit:=()
def tw10832216995436679465:Unit:=()
def tw2508418919627404130:Unit:=()
def tw18203688835555631994:Unit:=()
def tw8162188412720926360:Unit:=()
def tw17207601296066498691:Unit:=()
def tw4413402922976900015:Unit:=()
def tw6739135838235026785:Unit:=()
def tw7888673868221711515:Unit:=()
def tw14783793066086229104:Unit:=()
def tw3145449340569697248:Unit:=()
def tw11301840931582918171:Unit:=()
def tw17642439418421310405:Unit:=()
def tw1806912064791052428:Unit:=()
def tw11473819227401969359:Unit:=()
def tw1967730614359546481:Unit:=()
def tw17061093506385501015:Unit:=()
def tw7126899445526727197:Unit:=()
def tw413006021381996704:Unit:=()
def tw2576400766998345100:Unit:=()
def tw16353584036702457842:Unit:=()
def tw2235765594404055823:Unit:=()
def tw14826306519941179628:Unit:=()
def tw8613228082616420997:Unit:=()
def tw2263205422895169359:Unit:=()
def tw15333211177441689110:Unit:=()
def tw14436540806091900873:Unit:=()
def tw4998633034718430416:Unit:=()
def tw4051334822637246843:Unit:=()
def tw16819597182308379109:Unit:=()
def tw17167737047992123183:Unit:=()
def tw2437852110456565041:Unit:=()
def tw278451351891329184:Unit:=()
def tw1835445519953744580:Unit:=()
def tw4398512435163022368:Unit:=()
def tw8798456288363443538:Unit:=()
def tw17726262077587535701:Unit:=()
def tw17693091264135902228:Unit:=()
def tw16908934832939010905:Unit:=()
def tw5063537160074310276:Unit:=()
def tw15296268581585125161:Unit:=()
def tw2327728418152615781:Unit:=()
def tw14316876693315119414:Unit:=()
def tw13182262594927327529:Unit:=()
def tw5128097187890354726:Unit:=()
def tw10359684603044718406:Unit:=()
def tw10722487873410844490:Unit:=()
def tw7301003041251044996:Unit:=()
def tw9964801547840419779:Unit:=()
def tw11971388250289728776:Unit:=()
def tw8050442978576799537:Unit:=()
def tw11668952058505917145:Unit:=()
def tw10810703242409144615:Unit:=()
def tw8460741958070645781:Unit:=()
def tw16701457597448009071:Unit:=()
def tw14825242382089993673:Unit:=()
def tw2744927997743888269:Unit:=()
def tw1754632888137936831:Unit:=()
def tw8239948990573055001:Unit:=()
def tw8734372934512004563:Unit:=()
def tw6965452265509808246:Unit:=()
def tw16185510288429943145:Unit:=()
def tw4281949581285122792:Unit:=()
def tw4209749697897415809:Unit:=()
def tw4536328938916322903:Unit:=()
def tw14191542921691118484:Unit:=()
def tw947992584222158014:Unit:=()
def tw18027077579117764234:Unit:=()
def tw6169868160782729917:Unit:=()
def tw2613079890385869598:Unit:=()
def tw6545777364254370065:Unit:=()
def tw4819202104054214442:Unit:=()
def tw16377155832879974115:Unit:=()
def tw16603662287243187243:Unit:=()
def tw1315360312527339443:Unit:=()
def tw12491693121166297918:Unit:=()
def tw97085681567174932:Unit:=()
def tw98171384140935658:Unit:=()
def tw1137079761308432406:Unit:=()
def tw3305094474884515383:Unit:=()
def tw3334610341224494969:Unit:=()
def tw14126694363697000736:Unit:=()
def tw3742713098700756199:Unit:=()
def tw14052406688448259397:Unit:=()
def tw6442775128580164936:Unit:=()
def tw7644342142099776410:Unit:=()
def tw16651846107767319712:Unit:=()
def tw4065951184982373219:Unit:=()
def tw10789916251049382812:Unit:=()
def tw4160241418343163176:Unit:=()
def tw17363892533313885182:Unit:=()
def tw5576908900323593495:Unit:=()
def tw11702061364631023391:Unit:=()
def tw13095367903686127937:Unit:=()
def tw16653071977787595241:Unit:=()
def tw15808341393033741755:Unit:=()
def tw16174756004610382368:Unit:=()
def tw10272472812355661620:Unit:=()
def tw15596711282853184551:Unit:=()
def tw12519702041422388247:Unit:=()
def tw4492538411373012619:Unit:=()
def tw1831702215746496563:Unit:=()
def tw7444407820777714606:Unit:=()
def tw13058321360421414954:Unit:=()
def tw14707018443239233550:Unit:=()
def tw117144689459911650:Unit:=()
def tw14114066319365035570:Unit:=()
def tw12749551452151867331:Unit:=()
def tw6695643615391688420:Unit:=()
def tw2710309562651305877:Unit:=()
def tw5351655463653864372:Unit:=()
def tw12609065789023515699:Unit:=()
def tw10351947472570719136:Unit:=()
def tw15950079263482430440:Unit:=()
def tw14519320898082082162:Unit:=()
def tw5828501251537951656:Unit:=()
def tw7484129106180814839:Unit:=()
def tw12178595302450853908:Unit:=()
def tw2382534984950037781:Unit:=()
def tw11677680816389869609:Unit:=()
def tw12893432581072031655:Unit:=()
def tw18429630424056322589:Unit:=()
def tw12737977028313926889:Unit:=()
def tw9441913434482960597:Unit:=()
def tw5284547567948499577:Unit:=()
def tw4514577337214549775:Unit:=()
def tw13882667132077582757:Unit:=()
def tw13384748069798212074:Unit:=()
def tw6471575432215409534:Unit:=()
def tw5070720495985279868:Unit:=()
def tw17535595092132125199:Unit:=()
def tw14333562778296130871:Unit:=()
def tw11567407895159286325:Unit:=()
def tw1468169856431510401:Unit:=()
def tw9559541916290473159:Unit:=()
def tw7430986416184211814:Unit:=()
def tw10788339556071930189:Unit:=()
def tw8185601278857556788:Unit:=()
def tw10384137703077536867:Unit:=()
def tw16707789272185518000:Unit:=()
def tw15898899985812000454:Unit:=()
def tw15537036285410729313:Unit:=()
def tw15852281742442028970:Unit:=()
def tw13220952872715625184:Unit:=()
def tw16027945004488329109:Unit:=()
def tw12548251373125016182:Unit:=()
def tw3089649604883189400:Unit:=()
def tw10724305892415810672:Unit:=()
def tw7381951119178206867:Unit:=()
def tw12306078443210324190:Unit:=()
def tw2246159961252811126:Unit:=()
def tw6988989025289676416:Unit:=()
def tw2476641400415294492:Unit:=()
def tw3663338474094447044:Unit:=()
def tw13774176415766636657:Unit:=()
def tw5779056077261315205:Unit:=()
def tw13777657808303553703:Unit:=()
def tw3028848559312618704:Unit:=()
def tw678189110984658064:Unit:=()
def tw13699187366898403520:Unit:=()
def tw6546245118696926276:Unit:=()
def tw5106759001466784372:Unit:=()
def tw14054116035848445251:Unit:=()
def tw12575581407063096574:Unit:=()
def tw14535753463601610248:Unit:=()
def tw9677466656301245533:Unit:=()
def tw16975703052857788166:Unit:=()
def tw2300756709444179032:Unit:=()
def tw5416178284756184027:Unit:=()
def tw16021218254031368988:Unit:=()
def tw10861935466011896028:Unit:=()
def tw18053242580110922164:Unit:=()
def tw17005266392131940097:Unit:=()
def tw17121708506697039128:Unit:=()
def tw3964808827450946011:Unit:=()
def tw4013874794332354973:Unit:=()
def tw3934222652738031508:Unit:=()
def tw14690255197399550102:Unit:=()
def tw6511550137050768224:Unit:=()
def tw17277101679025733319:Unit:=()
def tw8834405465582002215:Unit:=()
def tw5423658886921355687:Unit:=()
def tw1017117542037831721:Unit:=()
def tw5350218050302029065:Unit:=()
def tw8855921884915376131:Unit:=()
def tw8921309169165836991:Unit:=()
def tw16030250412043545769:Unit:=()
def tw12406026143635123223:Unit:=()
def tw9982311008558457507:Unit:=()
def tw12070800001880714287:Unit:=()
def tw10891587061820484657:Unit:=()
def tw17174661773378692758:Unit:=()
def tw16942493792647689174:Unit:=()
def tw17693023072373460922:Unit:=()
def tw11687500956700573318:Unit:=()
def tw9846013464172649543:Unit:=()
def tw17890547201305578607:Unit:=()
def tw8019528429229543463:Unit:=()
def tw1087876823724857918:Unit:=()
def tw311225242275150389:Unit:=()
def tw5059816242587684405:Unit:=()
def tw11337733077252018112:Unit:=()
def tw12663092204223355731:Unit:=()
def tw16830392944619143607:Unit:=()
def tw5131161370709053008:Unit:=()
def tw8616808496356630976:Unit:=()
def tw14972936118632013121:Unit:=()
def tw6588732799970739543:Unit:=()
def tw5534791020493220824:Unit:=()
def tw10077426822452198080:Unit:=()
def tw1923185586771184983:Unit:=()
def tw14774156272936831421:Unit:=()
def tw14784528290790227787:Unit:=()
def tw13811548259163978947:Unit:=()
def tw14275217912111810232:Unit:=()
def tw15818559519599779273:Unit:=()
def tw3389004126507467483:Unit:=()
def tw14212690189396265814:Unit:=()
def tw8514034888676865871:Unit:=()
def tw11196128945058040751:Unit:=()
def tw18307112089326110211:Unit:=()
def tw14911701416955873443:Unit:=()
def tw9722068552419514182:Unit:=()
def tw7810117601406160314:Unit:=()
def tw826083358720536109:Unit:=()
def tw9001977748597167103:Unit:=()
def tw13389750918394611980:Unit:=()
def tw3350924461655631808:Unit:=()
def tw12966158806816680261:Unit:=()
def tw4036795643332996961:Unit:=()
def tw8014107435044603634:Unit:=()
def tw13743400525952817908:Unit:=()
def tw16170633756108607446:Unit:=()
def tw12102128212921389450:Unit:=()
def tw15948133951811899448:Unit:=()
def tw8431759196857663072:Unit:=()
def tw9531568952649020296:Unit:=()
def tw17472315037679323013:Unit:=()
def tw7980471373957766649:Unit:=()
def tw6066591328788205433:Unit:=()
def tw16109087003621096117:Unit:=()
def tw3699169604738446804:Unit:=()
def tw9002588112917053040:Unit:=()
def tw6546907028621185577:Unit:=()
def tw14021929701581128560:Unit:=()
def tw4681871273037860617:Unit:=()
def tw564144803695403313:Unit:=()
def tw10017408143405158924:Unit:=()
def tw10198178903597708573:Unit:=()
def tw3836769139363916510:Unit:=()
def tw10110247989080644346:Unit:=()
def tw13579416833943628190:Unit:=()
def tw9808594338239129802:Unit:=()
def tw4224692585423174823:Unit:=()
def tw10456261016710198673:Unit:=()
def tw16453771864149953077:Unit:=()
def tw17448081423411885154:Unit:=()
def tw920301864826266187:Unit:=()
def tw14161715450909532011:Unit:=()
def tw13384514301397058218:Unit:=()
end PySem.W.Fast
set_option maxRecDepth 100000 in
set_option maxHeartbeats 0 in
theorem PySem.Challenge.cw_foretell_k34_press_refused_holds : PySem.Challenge.rw_foretell_k34_press_refused.Holds := by
 w_on; o_law; k_head; (case hw => w_witness2)
 k_fill
 refine Law.walk (l := PySem.Challenge.rw_foretell_k34_press_refused) rfl rfl (fun w h Y => PySem.W.kIn_of Y) ?F
 case F =>
  intro w mg fa h KX G hmg
  refine' Law.all_mk KX G hmg ?aC_Even ?aC_Quick ?aC_Run ?aC_Mx ?aC_Book ?aC_Span ?aC_Ft ?aC_Sk ?aC_NT ?aC_NY ?aC_NoMost ?aC_NC ?aC_NB ?aC_NL ?aC_NP ?a_q1 ?l_q1 ?c_q1 ?k_q1 ?a_q2 ?l_q2 ?c_q2 ?k_q2 ?a_q3 ?l_q3 ?c_q3 ?k_q3 ?a_q4 ?l_q4 ?c_q4 ?k_q4 ?a_q5 ?l_q5 ?c_q5 ?k_q5 ?a_q6 ?l_q6 ?c_q6 ?k_q6 ?a_q7 ?l_q7 ?c_q7 ?k_q7 ?a_q8 ?l_q8 ?c_q8 ?k_q8 ?a_q9 ?l_q9 ?c_q9 ?k_q9 ?a_q10 ?l_q10 ?c_q10 ?k_q10 ?a_q11 ?l_q11 ?c_q11 ?k_q11 ?a_q12 ?l_q12 ?c_q12 ?k_q12 ?a_q13 ?l_q13 ?c_q13 ?k_q13 ?a_q14 ?i_q14 ?l_q14 ?c_q14 ?k_q14 ?a_q15 ?i_q15 ?l_q15 ?c_q15 ?k_q15 ?a_q16 ?i_q16 ?l_q16 ?c_q16 ?k_q16 ?a_q17 ?i_q17 ?l_q17 ?c_q17 ?k_q17 ?a_q18 ?i_q18 ?l_q18 ?c_q18 ?k_q18 ?a_q19 ?i_q19 ?l_q19 ?c_q19 ?k_q19 ?a_q20 ?i_q20 ?l_q20 ?c_q20 ?k_q20 ?a_q21 ?i_q21 ?l_q21 ?c_q21 ?k_q21 ?a_q22 ?i_q22 ?l_q22 ?c_q22 ?k_q22 ?a_q23 ?l_q23 ?c_q23 ?k_q23 ?a_q24 ?l_q24 ?c_q24 ?k_q24 ?a_q25 ?l_q25 ?c_q25 ?k_q25 ?a_q26 ?l_q26 ?c_q26 ?k_q26 ?a_q27 ?l_q27 ?c_q27 ?k_q27 ?a_q28 ?l_q28 ?c_q28 ?k_q28 ?a_q29 ?l_q29 ?c_q29 ?k_q29 ?a_q30 ?l_q30 ?c_q30 ?k_q30 ?a_q31 ?i_q31 ?l_q31 ?c_q31 ?k_q31 ?a_q32 ?i_q32 ?l_q32 ?c_q32 ?k_q32 ?a_q33 ?i_q33 ?l_q33 ?c_q33 ?k_q33 ?a_q34 ?i_q34 ?l_q34 ?c_q34 ?k_q34 ?a_q35 ?i_q35 ?l_q35 ?c_q35 ?k_q35 ?a_q36 ?i_q36 ?l_q36 ?c_q36 ?k_q36 ?a_q37 ?i_q37 ?l_q37 ?c_q37 ?k_q37 ?a_q38 ?i_q38 ?l_q38 ?c_q38 ?k_q38 ?a_q39 ?i_q39 ?l_q39 ?c_q39 ?k_q39 ?a_q40 ?i_q40 ?l_q40 ?c_q40 ?k_q40 ?a_q41 ?i_q41 ?l_q41 ?c_q41 ?k_q41 ?a_q42 ?i_q42 ?l_q42 ?c_q42 ?k_q42 ?a_q43 ?l_q43 ?c_q43 ?k_q43 ?a_q44 ?l_q44 ?c_q44 ?k_q44 ?a_q45 ?i_q45 ?l_q45 ?c_q45 ?k_q45 ?a_q46 ?i_q46 ?l_q46 ?c_q46 ?k_q46 ?a_q47 ?i_q47 ?l_q47 ?c_q47 ?k_q47 ?a_q48 ?i_q48 ?l_q48 ?c_q48 ?k_q48 ?a_q49 ?i_q49 ?l_q49 ?c_q49 ?k_q49 ?a_q50 ?i_q50 ?l_q50 ?c_q50 ?k_q50 ?a_q51 ?i_q51 ?l_q51 ?c_q51 ?k_q51 ?a_q52 ?i_q52 ?l_q52 ?c_q52 ?k_q52 ?a_q53 ?i_q53 ?l_q53 ?c_q53 ?k_q53 ?a_q54 ?i_q54 ?l_q54 ?c_q54 ?k_q54 ?a_q55 ?l_q55 ?c_q55 ?k_q55 ?a_q56 ?l_q56 ?c_q56 ?k_q56 ?a_q57 ?l_q57 ?c_q57 ?k_q57 ?a_q58 ?l_q58 ?ld_q58 ?c_q58 ?k_q58 ?a_q59 ?l_q59 ?c_q59 ?k_q59 ?a_q60 ?l_q60 ?c_q60 ?k_q60 ?a_q61 ?l_q61 ?c_q61 ?k_q61 ?a_q62 ?l_q62 ?c_q62 ?k_q62 ?a_q63 ?l_q63 ?ld_q63 ?c_q63 ?k_q63 ?a_q64 ?l_q64 ?ld_q64 ?c_q64 ?k_q64 ?a_q65 ?l_q65 ?c_q65 ?k_q65 ?a_q66 ?l_q66 ?c_q66 ?k_q66 ?a_q67 ?l_q67 ?c_q67 ?k_q67 ?a_q68 ?l_q68 ?c_q68 ?k_q68 ?a_q69 ?l_q69 ?c_q69 ?k_q69 ?a_q70 ?l_q70 ?c_q70 ?k_q70 ?a_q71 ?l_q71 ?c_q71 ?k_q71 ?a_q72 ?l_q72 ?c_q72 ?k_q72 ?a_law ?l_law ?c_law ?k_law ?pg_Even ?hd_Even ?po_Even ?sa_Even ?mk_Even ?kc_Even ?n_Even_noughts ?n_Even_ones ?pg_Quick ?hd_Quick ?po_Quick ?sa_Quick ?mk_Quick ?kc_Quick ?n_Quick_held ?pg_Run ?hd_Run ?po_Run ?sa_Run ?mk_Run ?kc_Run ?n_Run_last ?n_Run_length ?pg_Mx ?hd_Mx ?po_Mx ?sa_Mx ?mk_Mx ?kc_Mx ?n_Mx_kept ?pg_Book ?hd_Book ?po_Book ?sa_Book ?mk_Book ?kc_Book ?n_Book_look ?n_Book_slots ?pg_Span ?hd_Span ?po_Span ?sa_Span ?mk_Span ?kc_Span ?n_Span_low ?n_Span_width ?n_Span_size ?pg_Ft ?hd_Ft ?po_Ft ?sa_Ft ?mk_Ft ?kc_Ft ?n_Ft_looks ?n_Ft_books ?n_Ft_mixer ?n_Ft_ended ?n_Ft_place ?n_Ft_present ?pg_Sk ?hd_Sk ?po_Sk ?sa_Sk ?mk_Sk ?kc_Sk ?n_Sk_data ?n_Sk_span ?n_Sk_number ?n_Sk_reached ?xcl_NT ?xga_NT ?xgt_NT ?xca_NT ?xmo_NT ?xmb_NT ?r_NT ?xcl_NY ?xga_NY ?xgt_NY ?xca_NY ?xmo_NY ?xmb_NY ?r_NY ?xcl_NoMost ?xga_NoMost ?xgt_NoMost ?xca_NoMost ?xmo_NoMost ?xmb_NoMost ?r_NoMost ?xcl_NC ?xga_NC ?xgt_NC ?xca_NC ?xmo_NC ?xmb_NC ?r_NC ?xcl_NB ?xga_NB ?xgt_NB ?xca_NB ?xmo_NB ?xmb_NB ?r_NB ?xcl_NL ?xga_NL ?xgt_NL ?xca_NL ?xmo_NL ?xmb_NL ?r_NL ?xcl_NP ?xga_NP ?xgt_NP ?xca_NP ?xmo_NP ?xmb_NP ?r_NP ?xgg ?xtk ?eb_NP ?ed_NP ?et_NP ?em_NT_NP ?em_NY_NP ?em_NoMost_NP ?em_NC_NP ?em_NB_NP ?em_NL_NP ?em_NP_NP ?z_isinstance ?z_int ?z_bool ?z_list ?z_all ?z_len ?z_min ?z_max ?z_str ?z_tuple ?z_zip ?z_sum ?z_range ?v_LEAST ?v_ONE ?v_MOST_SIGNS ?v_MOST_BYTES ?v_MOST_COUNTED ?v_FARTHEST ?v_MOST_PLACES ?v_MOST_LOOKS ?v_NO_SIGN ?v_FIRST_WEIGHT ?v_OWN_PARTS ?v_MOST_FIGURES ?v_NODES_END ?v_FIRST_WIDTH ?v_FIRST_SIZE ?v_LEAST_WIDTH ?wa_WORTHS ?wl_WORTHS ?wa_KINDS ?wl_KINDS
  (case aC_Even => k_is)
  (case aC_Quick => k_is)
  (case aC_Run => k_is)
  (case aC_Mx => k_is)
  (case aC_Book => k_is)
  (case aC_Span => k_is)
  (case aC_Ft => k_is)
  (case aC_Sk => k_is)
  (case aC_NT => k_is)
  (case aC_NY => k_is)
  (case aC_NoMost => k_is)
  (case aC_NC => k_is)
  (case aC_NB => k_is)
  (case aC_NL => k_is)
  (case aC_NP => k_is)
  (case a_q1 => k_is)
  (case l_q1 => k_is)
  (case c_q1 => k_is)
  (case k_q1 => k_is)
  (case a_q2 => k_is)
  (case l_q2 => k_is)
  (case c_q2 => k_is)
  (case k_q2 => k_is)
  (case a_q3 => k_is)
  (case l_q3 => k_is)
  (case c_q3 => k_is)
  (case k_q3 => k_is)
  (case a_q4 => k_is)
  (case l_q4 => k_is)
  (case c_q4 => k_is)
  (case k_q4 => k_is)
  (case a_q5 => k_is)
  (case l_q5 => k_is)
  (case c_q5 => k_is)
  (case k_q5 => k_is)
  (case a_q6 => k_is)
  (case l_q6 => k_is)
  (case c_q6 => k_is)
  (case k_q6 => k_is)
  (case a_q7 => k_is)
  (case l_q7 => k_is)
  (case c_q7 => k_is)
  (case k_q7 => k_is)
  (case a_q8 => k_is)
  (case l_q8 => k_is)
  (case c_q8 => k_is)
  (case k_q8 => k_is)
  (case a_q9 => k_is)
  (case l_q9 => k_is)
  (case c_q9 => k_is)
  (case k_q9 => k_is)
  (case a_q10 => k_is)
  (case l_q10 => k_is)
  (case c_q10 => k_is)
  (case k_q10 => k_is)
  (case a_q11 => k_is)
  (case l_q11 => k_is)
  (case c_q11 => k_is)
  (case k_q11 => k_is)
  (case a_q12 => k_is)
  (case l_q12 => k_is)
  (case c_q12 => k_is)
  (case k_q12 => k_is)
  (case a_q13 => k_is)
  (case l_q13 => k_is)
  (case c_q13 => k_is)
  (case k_q13 => k_is)
  (case a_q14 => k_is)
  (case i_q14 => k_is)
  (case l_q14 => k_is)
  (case c_q14 => k_is)
  (case k_q14 => k_is)
  (case a_q15 => k_is)
  (case i_q15 => k_is)
  (case l_q15 => k_is)
  (case c_q15 => k_is)
  (case k_q15 => k_is)
  (case a_q16 => k_is)
  (case i_q16 => k_is)
  (case l_q16 => k_is)
  (case c_q16 => k_is)
  (case k_q16 => k_is)
  (case a_q17 => k_is)
  (case i_q17 => k_is)
  (case l_q17 => k_is)
  (case c_q17 => k_is)
  (case k_q17 => k_is)
  (case a_q18 => k_is)
  (case i_q18 => k_is)
  (case l_q18 => k_is)
  (case c_q18 => k_is)
  (case k_q18 => k_is)
  (case a_q19 => k_is)
  (case i_q19 => k_is)
  (case l_q19 => k_is)
  (case c_q19 => k_is)
  (case k_q19 => k_is)
  (case a_q20 => k_is)
  (case i_q20 => k_is)
  (case l_q20 => k_is)
  (case c_q20 => k_is)
  (case k_q20 => k_is)
  (case a_q21 => k_is)
  (case i_q21 => k_is)
  (case l_q21 => k_is)
  (case c_q21 => k_is)
  (case k_q21 => k_is)
  (case a_q22 => k_is)
  (case i_q22 => k_is)
  (case l_q22 => k_is)
  (case c_q22 => k_is)
  (case k_q22 => k_is)
  (case a_q23 => k_is)
  (case l_q23 => k_is)
  (case c_q23 => k_is)
  (case k_q23 => k_is)
  (case a_q24 => k_is)
  (case l_q24 => k_is)
  (case c_q24 => k_is)
  (case k_q24 => k_is)
  (case a_q25 => k_is)
  (case l_q25 => k_is)
  (case c_q25 => k_is)
  (case k_q25 => k_is)
  (case a_q26 => k_is)
  (case l_q26 => k_is)
  (case c_q26 => k_is)
  (case k_q26 => k_is)
  (case a_q27 => k_is)
  (case l_q27 => k_is)
  (case c_q27 => k_is)
  (case k_q27 => k_is)
  (case a_q28 => k_is)
  (case l_q28 => k_is)
  (case c_q28 => k_is)
  (case k_q28 => k_is)
  (case a_q29 => k_is)
  (case l_q29 => k_is)
  (case c_q29 => k_is)
  (case k_q29 => k_is)
  (case a_q30 => k_is)
  (case l_q30 => k_is)
  (case c_q30 => k_is)
  (case k_q30 => k_is)
  (case a_q31 => k_is)
  (case i_q31 => k_is)
  (case l_q31 => k_is)
  (case c_q31 => k_is)
  (case k_q31 => k_is)
  (case a_q32 => k_is)
  (case i_q32 => k_is)
  (case l_q32 => k_is)
  (case c_q32 => k_is)
  (case k_q32 => k_is)
  (case a_q33 => k_is)
  (case i_q33 => k_is)
  (case l_q33 => k_is)
  (case c_q33 => k_is)
  (case k_q33 => k_is)
  (case a_q34 => k_is)
  (case i_q34 => k_is)
  (case l_q34 => k_is)
  (case c_q34 => k_is)
  (case k_q34 => k_is)
  (case a_q35 => k_is)
  (case i_q35 => k_is)
  (case l_q35 => k_is)
  (case c_q35 => k_is)
  (case k_q35 => k_is)
  (case a_q36 => k_is)
  (case i_q36 => k_is)
  (case l_q36 => k_is)
  (case c_q36 => k_is)
  (case k_q36 => k_is)
  (case a_q37 => k_is)
  (case i_q37 => k_is)
  (case l_q37 => k_is)
  (case c_q37 => k_is)
  (case k_q37 => k_is)
  (case a_q38 => k_is)
  (case i_q38 => k_is)
  (case l_q38 => k_is)
  (case c_q38 => k_is)
  (case k_q38 => k_is)
  (case a_q39 => k_is)
  (case i_q39 => k_is)
  (case l_q39 => k_is)
  (case c_q39 => k_is)
  (case k_q39 => k_is)
  (case a_q40 => k_is)
  (case i_q40 => k_is)
  (case l_q40 => k_is)
  (case c_q40 => k_is)
  (case k_q40 => k_is)
  (case a_q41 => k_is)
  (case i_q41 => k_is)
  (case l_q41 => k_is)
  (case c_q41 => k_is)
  (case k_q41 => k_is)
  (case a_q42 => k_is)
  (case i_q42 => k_is)
  (case l_q42 => k_is)
  (case c_q42 => k_is)
  (case k_q42 => k_is)
  (case a_q43 => k_is)
  (case l_q43 => k_is)
  (case c_q43 => k_is)
  (case k_q43 => k_is)
  (case a_q44 => k_is)
  (case l_q44 => k_is)
  (case c_q44 => k_is)
  (case k_q44 => k_is)
  (case a_q45 => k_is)
  (case i_q45 => k_is)
  (case l_q45 => k_is)
  (case c_q45 => k_is)
  (case k_q45 => k_is)
  (case a_q46 => k_is)
  (case i_q46 => k_is)
  (case l_q46 => k_is)
  (case c_q46 => k_is)
  (case k_q46 => k_is)
  (case a_q47 => k_is)
  (case i_q47 => k_is)
  (case l_q47 => k_is)
  (case c_q47 => k_is)
  (case k_q47 => k_is)
  (case a_q48 => k_is)
  (case i_q48 => k_is)
  (case l_q48 => k_is)
  (case c_q48 => k_is)
  (case k_q48 => k_is)
  (case a_q49 => k_is)
  (case i_q49 => k_is)
  (case l_q49 => k_is)
  (case c_q49 => k_is)
  (case k_q49 => k_is)
  (case a_q50 => k_is)
  (case i_q50 => k_is)
  (case l_q50 => k_is)
  (case c_q50 => k_is)
  (case k_q50 => k_is)
  (case a_q51 => k_is)
  (case i_q51 => k_is)
  (case l_q51 => k_is)
  (case c_q51 => k_is)
  (case k_q51 => k_is)
  (case a_q52 => k_is)
  (case i_q52 => k_is)
  (case l_q52 => k_is)
  (case c_q52 => k_is)
  (case k_q52 => k_is)
  (case a_q53 => k_is)
  (case i_q53 => k_is)
  (case l_q53 => k_is)
  (case c_q53 => k_is)
  (case k_q53 => k_is)
  (case a_q54 => k_is)
  (case i_q54 => k_is)
  (case l_q54 => k_is)
  (case c_q54 => k_is)
  (case k_q54 => k_is)
  (case a_q55 => k_is)
  (case l_q55 => k_is)
  (case c_q55 => k_is)
  (case k_q55 => k_is)
  (case a_q56 => k_is)
  (case l_q56 => k_is)
  (case c_q56 => k_is)
  (case k_q56 => k_is)
  (case a_q57 => k_is)
  (case l_q57 => k_is)
  (case c_q57 => k_is)
  (case k_q57 => k_is)
  (case a_q58 => k_is)
  (case l_q58 => k_is)
  (case ld_q58 => k_is)
  (case c_q58 => k_is)
  (case k_q58 => k_is)
  (case a_q59 => k_is)
  (case l_q59 => k_is)
  (case c_q59 => k_is)
  (case k_q59 => k_is)
  (case a_q60 => k_is)
  (case l_q60 => k_is)
  (case c_q60 => k_is)
  (case k_q60 => k_is)
  (case a_q61 => k_is)
  (case l_q61 => k_is)
  (case c_q61 => k_is)
  (case k_q61 => k_is)
  (case a_q62 => k_is)
  (case l_q62 => k_is)
  (case c_q62 => k_is)
  (case k_q62 => k_is)
  (case a_q63 => k_is)
  (case l_q63 => k_is)
  (case ld_q63 => k_is)
  (case c_q63 => k_is)
  (case k_q63 => k_is)
  (case a_q64 => k_is)
  (case l_q64 => k_is)
  (case ld_q64 => k_is)
  (case c_q64 => k_is)
  (case k_q64 => k_is)
  (case a_q65 => k_is)
  (case l_q65 => k_is)
  (case c_q65 => k_is)
  (case k_q65 => k_is)
  (case a_q66 => k_is)
  (case l_q66 => k_is)
  (case c_q66 => k_is)
  (case k_q66 => k_is)
  (case a_q67 => k_is)
  (case l_q67 => k_is)
  (case c_q67 => k_is)
  (case k_q67 => k_is)
  (case a_q68 => k_is)
  (case l_q68 => k_is)
  (case c_q68 => k_is)
  (case k_q68 => k_is)
  (case a_q69 => k_is)
  (case l_q69 => k_is)
  (case c_q69 => k_is)
  (case k_q69 => k_is)
  (case a_q70 => k_is)
  (case l_q70 => k_is)
  (case c_q70 => k_is)
  (case k_q70 => k_is)
  (case a_q71 => k_is)
  (case l_q71 => k_is)
  (case c_q71 => k_is)
  (case k_q71 => k_is)
  (case a_q72 => k_is)
  (case l_q72 => k_is)
  (case c_q72 => k_is)
  (case k_q72 => k_is)
  (case a_law => k_is)
  (case l_law => k_is)
  (case c_law => k_is)
  (case k_law => k_is)
  (case pg_Even => k_is)
  (case hd_Even => k_is)
  (case po_Even => k_is)
  (case sa_Even => k_is)
  (case mk_Even => k_is)
  (case kc_Even => k_is)
  (case n_Even_noughts => k_is)
  (case n_Even_ones => k_is)
  (case pg_Quick => k_is)
  (case hd_Quick => k_is)
  (case po_Quick => k_is)
  (case sa_Quick => k_is)
  (case mk_Quick => k_is)
  (case kc_Quick => k_is)
  (case n_Quick_held => k_is)
  (case pg_Run => k_is)
  (case hd_Run => k_is)
  (case po_Run => k_is)
  (case sa_Run => k_is)
  (case mk_Run => k_is)
  (case kc_Run => k_is)
  (case n_Run_last => k_is)
  (case n_Run_length => k_is)
  (case pg_Mx => k_is)
  (case hd_Mx => k_is)
  (case po_Mx => k_is)
  (case sa_Mx => k_is)
  (case mk_Mx => k_is)
  (case kc_Mx => k_is)
  (case n_Mx_kept => k_is)
  (case pg_Book => k_is)
  (case hd_Book => k_is)
  (case po_Book => k_is)
  (case sa_Book => k_is)
  (case mk_Book => k_is)
  (case kc_Book => k_is)
  (case n_Book_look => k_is)
  (case n_Book_slots => k_is)
  (case pg_Span => k_is)
  (case hd_Span => k_is)
  (case po_Span => k_is)
  (case sa_Span => k_is)
  (case mk_Span => k_is)
  (case kc_Span => k_is)
  (case n_Span_low => k_is)
  (case n_Span_width => k_is)
  (case n_Span_size => k_is)
  (case pg_Ft => k_is)
  (case hd_Ft => k_is)
  (case po_Ft => k_is)
  (case sa_Ft => k_is)
  (case mk_Ft => k_is)
  (case kc_Ft => k_is)
  (case n_Ft_looks => k_is)
  (case n_Ft_books => k_is)
  (case n_Ft_mixer => k_is)
  (case n_Ft_ended => k_is)
  (case n_Ft_place => k_is)
  (case n_Ft_present => k_is)
  (case pg_Sk => k_is)
  (case hd_Sk => k_is)
  (case po_Sk => k_is)
  (case sa_Sk => k_is)
  (case mk_Sk => k_is)
  (case kc_Sk => k_is)
  (case n_Sk_data => k_is)
  (case n_Sk_span => k_is)
  (case n_Sk_number => k_is)
  (case n_Sk_reached => k_is)
  (case xcl_NT => k_is)
  (case xga_NT => k_is)
  (case xgt_NT => k_is)
  (case xca_NT => k_is)
  (case xmo_NT => k_is)
  (case xmb_NT => k_is)
  (case r_NT => k_exc)
  (case xcl_NY => k_is)
  (case xga_NY => k_is)
  (case xgt_NY => k_is)
  (case xca_NY => k_is)
  (case xmo_NY => k_is)
  (case xmb_NY => k_is)
  (case r_NY => k_exc)
  (case xcl_NoMost => k_is)
  (case xga_NoMost => k_is)
  (case xgt_NoMost => k_is)
  (case xca_NoMost => k_is)
  (case xmo_NoMost => k_is)
  (case xmb_NoMost => k_is)
  (case r_NoMost => k_exc)
  (case xcl_NC => k_is)
  (case xga_NC => k_is)
  (case xgt_NC => k_is)
  (case xca_NC => k_is)
  (case xmo_NC => k_is)
  (case xmb_NC => k_is)
  (case r_NC => k_exc)
  (case xcl_NB => k_is)
  (case xga_NB => k_is)
  (case xgt_NB => k_is)
  (case xca_NB => k_is)
  (case xmo_NB => k_is)
  (case xmb_NB => k_is)
  (case r_NB => k_exc)
  (case xcl_NL => k_is)
  (case xga_NL => k_is)
  (case xgt_NL => k_is)
  (case xca_NL => k_is)
  (case xmo_NL => k_is)
  (case xmb_NL => k_is)
  (case r_NL => k_exc)
  (case xcl_NP => k_is)
  (case xga_NP => k_is)
  (case xgt_NP => k_is)
  (case xca_NP => k_is)
  (case xmo_NP => k_is)
  (case xmb_NP => k_is)
  (case r_NP => k_exc)
  (case xgg => k_is)
  (case xtk => k_is)
  (case eb_NP => k_is)
  (case ed_NP => k_is)
  (case et_NP => k_is)
  (case em_NT_NP => k_is)
  (case em_NY_NP => k_is)
  (case em_NoMost_NP => k_is)
  (case em_NC_NP => k_is)
  (case em_NB_NP => k_is)
  (case em_NL_NP => k_is)
  (case em_NP_NP => k_is)
  (case z_isinstance => k_is)
  (case z_int => k_is)
  (case z_bool => k_is)
  (case z_list => k_is)
  (case z_all => k_is)
  (case z_len => k_is)
  (case z_min => k_is)
  (case z_max => k_is)
  (case z_str => k_is)
  (case z_tuple => k_is)
  (case z_zip => k_is)
  (case z_sum => k_is)
  (case z_range => k_is)
  (case v_LEAST => k_is)
  (case v_ONE => k_is)
  (case v_MOST_SIGNS => k_is)
  (case v_MOST_BYTES => k_is)
  (case v_MOST_COUNTED => k_is)
  (case v_FARTHEST => k_is)
  (case v_MOST_PLACES => k_is)
  (case v_MOST_LOOKS => k_is)
  (case v_NO_SIGN => k_is)
  (case v_FIRST_WEIGHT => k_is)
  (case v_OWN_PARTS => k_is)
  (case v_MOST_FIGURES => k_is)
  (case v_NODES_END => k_is)
  (case v_FIRST_WIDTH => k_is)
  (case v_FIRST_SIZE => k_is)
  (case v_LEAST_WIDTH => k_is)
  (case wa_WORTHS => k_is)
  (case wl_WORTHS => k_is)
  (case wa_KINDS => k_is)
  (case wl_KINDS => k_is)
#print axioms PySem.Challenge.cw_foretell_k34_press_refused_holds
