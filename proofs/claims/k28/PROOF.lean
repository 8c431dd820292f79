import PyProof.Rows.All
import Wide.All
import OpenK.AllK
import Wide.FinOn
import PyProof.EqAt
import PyProof.EqKinds
import PyProof.TupleCall
import Lean
import PySem.Challenge.RW_foretell_k28_telling_refused
set_option Elab.async false
set_option linter.all false
set_option compiler.extract_closed false
set_option maxRecDepth 100000
set_option maxHeartbeats 4000000
namespace PySem.W.Fast
local macro_rules
 | `(#synth $k:ident $ns*)=>do return Lean.mkNullNode ((<-ns.mapM fun n=>`(theorem $(Lean.mkIdent (.mkSimple s!"tw{((`H0).str s!"{k.getId}_{n.raw.isNatLit?.get!}").hash}")) : True:=⟨⟩)).map (·.raw))
 | `(#synth $k:ident)=>`(theorem $(Lean.mkIdent (.mkSimple s!"tw{k.getId.hash}")) : True:=⟨⟩)
#synth PySem.Challenge.pw_foretell_k28_telling_refused
#synth heap 777 39 46
#synth tree 776 738 661 576 529 478 433 383 340 297 260 216 168 153 138 123 108 93 78 63
#synth view 39
#synth sts 739 662 577 530 434 217 479 384 169 298 341 261 49 109 94 154 64 139 79 124
#synth o 739 662 577 530 479 434 776 774 384 341 759 298 261 757 217 562 560 766 764 738 169 736 752 750 682 454 590 680 452 771 654 588 714 466 747 702 769 464 652 712 731 700 745 371 154 719 729 635 557 139 216 656 369 688 717 328 508 124 694 668 501 633 555 214 581 522 109 478 686 414 433 326 666 506 692 94 595 499 520 649 476 259 431 79 412 593 461 225 515 647 64 407 726 642 569 257 675 49 223 459 571 513 524 600 246 405 640 335 567 421 321 534 252 483 673 724 232 709 473 598 204 190 292 239 545 346 303 389 442 244 378 333 419 607 319 250 337 380 423 265 449 230 471 494 237 707 188 543 202 400 376 357 628 552 314 283 440 605 211 197 614 447 492 276 621 398 59 312 53 364 114 626 290 99 84 69 550 159 734 174 129 355 144 762 281 698 612 678 171 156 165 135 105 120 180 90 75 150 141 209 195 126 755 111 96 81 66 121 60 106 166 91 619 76 181 151 274 136 655 362 288 648 613 627 551 606 620 544 599 589 641 634 518 313 493 356 568 363 275 594 514 320 653 370 500 334 521 282 327 507 399 406 377 289 413 556 420 561 743 737 258 746 751 224 667 758 215 231 472 765 465 189 725 238 203 770 708 441 681 432 460 210 448 718 245 477 453 196 251 713 504 674 687 693 730 56 671 701 117 162 511 497 45 584 72 102 87 775 177 537 147 306 132 381 386 486 657 349 268 338 343 392 424 300 572 722 293 525 367 260 255 631
end PySem.W.Fast
section
open PySem PySem.W PyProof.Rows
local macro_rules | `(tactic| refine $f:ident $as*)=>do
 unless f.getId==`PySem.W.holds_open do Lean.Macro.throwUnsupported
 `(tactic| (refine ($f $as*); case $(Lean.mkIdent `hc):ident=>exact $(Lean.mkIdent `hP)))
set_option maxRecDepth 100000 in
set_option maxHeartbeats 0 in
def H0:PSigma fun P:Prop=>P->PySem.Challenge.rw_foretell_k28_telling_refused.Holds:=by
 refine' ⟨_,fun hP=>?_⟩
 rotate_left
 w_on; o_law; k_head
 w_witness2
end
namespace L2
open PySem PySem.Spec PyProof.Rows
variable {C a:Addr} {op:CmpOp} {e tg:Expr} {fd:FuncData} {h':Heap} {pins:List (Addr × Obj)} {kw:List (Str × Value)} {ch fp:List Addr} {es:List Expr} {us:List Value} {M:Model} {i j t':Nat} {p:Pos} {P:Program} {s':Shared} {x:Str} {mA:Str->Option Value} {u:Value} {E Q:Value->Shared->Prop} {f:Value->Value->Sem Value}
abbrev Key:=Sum Int Str
def yix:Key->Value->Bool
 | .inl k,v=>Value.isInt k v
 | .inr x,v=>Value.isStrOf x v
def vba (w:World):Key->Int
 | .inl k=>hashInt k
 | .inr x=>hashStr w x
theorem wr:∀ {k:Key} {v:Value},yix k v=true->(∃ i t,k=Sum.inl i/\v=Value.int i t)\/(∃ x t,k=Sum.inr x/\v=Value.str x t)
 | .inl i,v,h=>by
  obtain ⟨t,e⟩:=Value.isInt_shape (k:=i) (v:=v) h
  exact .inl ⟨i,t,rfl,e⟩
 | .inr x,v,h=>by
  obtain ⟨t,e⟩:=Value.isStrOf_shape (x:=x) (v:=v) h
  exact .inr ⟨x,t,rfl,e⟩
theorem yja (i:Int) (t:Tok):yix (.inl i) (.int i t)=true:=by simp [yix,Value.isInt]
theorem yjx (x:Str) (t:Tok):yix (.inr x) (.str x t)=true:=by simp [yix,Value.isStrOf]
theorem yu5 (a b:Int):decide ((Sum.inl a:Key)=Sum.inl b)=(a == b):=by
 by_cases e:a=b
 ·subst e; simp
 ·have h:¬ (Sum.inl a:Key)=Sum.inl b:=fun q=>e (Sum.inl.inj q)
  rw [decide_eq_false h]
  exact (beq_eq_false_iff_ne.mpr e).symm
theorem yxc (a b:Str):decide ((Sum.inr a:Key)=Sum.inr b)=decide (a=b):=by
 by_cases e:a=b
 ·subst e; simp
 ·have h:¬ (Sum.inr a:Key)=Sum.inr b:=fun q=>e (Sum.inr.inj q)
  rw [decide_eq_false h,decide_eq_false e]
theorem ywz (a:Int) (b:Str):decide ((Sum.inl a:Key)=Sum.inr b)=false:=decide_eq_false (fun q=>nomatch q)
theorem ywx (a:Str) (b:Int):decide ((Sum.inr a:Key)=Sum.inl b)=false:=decide_eq_false (fun q=>nomatch q)
def xr (prog:Program) (w:World):PySem.KeyKind prog w Key where
 is:=yix
 hash:=vba w
 inj:=fun v a b ha hb=>by
  rcases wr ha with ⟨i,t,rfl,rfl⟩ | ⟨x,t,rfl,rfl⟩
  ·rcases wr hb with ⟨j,u,rfl,e⟩ | ⟨y,u,rfl,e⟩
   ·injection e with e1 _; rw [e1]
   ·exact nomatch e
  ·rcases wr hb with ⟨j,u,rfl,e⟩ | ⟨y,u,rfl,e⟩
   ·exact nomatch e
   ·injection e with e1 _; rw [e1]
 byValue:=fun k v h=>by
  rcases wr h with ⟨i,t,rfl,rfl⟩ | ⟨x,t,rfl,rfl⟩ <;> rfl
 pyHash:=fun hv h=>by
  rcases wr hv with ⟨i,t,rfl,rfl⟩ | ⟨x,t,rfl,rfl⟩
  ·exact wpAny_pyHash_int h
  ·exact wpAny_pyHash_str h
 eqBool:=fun hu hv h=>by
  rcases wr hu with ⟨i,t,rfl,rfl⟩ | ⟨x,t,rfl,rfl⟩
  ·rcases wr hv with ⟨j,u,rfl,rfl⟩ | ⟨y,u,rfl,rfl⟩
   ·rw [yu5] at h; exact wpAny_eqBool_int h
   ·rw [ywz] at h; exact SeqAt.EqAt.int_str i t y u _ _ _ _ h
  ·rcases wr hv with ⟨j,u,rfl,rfl⟩ | ⟨y,u,rfl,rfl⟩
   ·rw [ywx] at h; exact SeqAt.EqAt.str_int x t j u _ _ _ _ h
   ·rw [yxc] at h; exact wpAny_eqBool_str h
 «strs»:=fun k x t v h=>by
  rcases wr h with ⟨i,u,rfl,e⟩ | ⟨y,u,rfl,e⟩
  ·exact nomatch e
  ·injection e with e1 _
   subst e1
   cases v <;> rfl
theorem yfw (prog:Program) (w:World) (i:Int) (t:Tok):(xr prog w).is (.inl i) (.int i t)=true:=yja i t
theorem yfu (prog:Program) (w:World) (x:Str) (t:Tok):(xr prog w).is (.inr x) (.str x t)=true:=yjx x t
inductive V where
 | non | bl (b:Bool) | int (i:Int) | str (x:Str) | byt (b:Array UInt8) | flt (b:UInt64) | ref (a:Addr) | ty (n:String)
 deriving DecidableEq
variable {vs xs:List V} {v y:V}
def wz:V->Value->Prop
 | .non,u=>u=Value.none
 | .bl b,u=>u=Value.bool b
 | .int i,u=>∃ t,u=Value.int i t
 | .str x,u=>∃ t,u=Value.str x t
 | .byt b,u=>∃ t,u=Value.bytes b t
 | .flt b,u=>∃ t,u=Value.float b t
 | .ref a,u=>u=Value.ref a
 | .ty n,u=>u=Value.type n
abbrev wk:List V->List Value->Prop:=Paired wz
theorem wk.length (r:wk xs us):xs.length=us.length:=Paired.length r
theorem wk.get:∀ {xs:List V} {us:List Value} {i:Nat} {x:V},wk xs us->xs[i]?=some x->∃ u,us[i]?=some u/\wz x u
 | _,_,_,_,.nil,e=>by simp at e
 | _,_,0,_,.cons r _,e=>by simp at e; subst e; exact ⟨_,rfl,r⟩
 | _,_,i+1,x,.cons _ t,e=>by
  obtain ⟨u,b,a⟩:=wk.get (i:=i) (x:=x) t (by simpa using e)
  exact ⟨u,by simpa using b,a⟩
theorem wk.set {x:V} (r:wz x u):∀ {xs:List V} {us:List Value} (i:Nat),wk xs us->wk (xs.set i x) (us.set i u)
 | _,_,_,.nil=>.nil
 | _,_,0,.cons _ t=>.cons r t
 | _,_,i+1,.cons q t=>.cons q (wk.set r i t)
theorem wk.append:∀ {xs ys:List V} {us ws:List Value},wk xs us->wk ys ws->wk (xs++ys) (us++ws)
 | _,_,_,_,.nil,s=>s
 | _,_,_,_,.cons r t,s=>.cons r (wk.append t s)
theorem wk.take:∀ {xs:List V} {us:List Value} (n:Nat),wk xs us->wk (xs.take n) (us.take n)
 | _,_,0,_=>.nil
 | _,_,_+1,.nil=>.nil
 | _,_,n+1,.cons r t=>.cons r (wk.take n t)
theorem wk.drop:∀ {xs:List V} {us:List Value} (n:Nat),wk xs us->wk (xs.drop n) (us.drop n)
 | _,_,0,r=>r
 | _,_,_+1,.nil=>.nil
 | _,_,n+1,.cons _ t=>wk.drop n t
theorem wk.none_of:∀ {xs:List V} {us:List Value} {i:Nat},wk xs us->xs[i]?=none->us[i]?=none:=fun {xs us i} r e=>by
 have b:=r.length
 have a:xs.length <= i:=List.getElem?_eq_none_iff.mp e
 exact List.getElem?_eq_none_iff.mpr (by omega)
def yd4:Option V->Option Value->Prop
 | some v,some u=>wz v u
 | none,none=>True
 | _,_=>False
def KV {κ:Type}:List (κ × V)->List (κ × Value)->Prop:=Paired fun (p:κ × V) (q:κ × Value)=>p.1=q.1/\wz p.2 q.2
def kV:Key->V
 | .inl i=>.int i
 | .inr x=>.str x
inductive HO where
 | lst (xs:List V)
 | tup (xs:List V)
 | dK (kvs:List (Key × V)) | dT (kvs:List (List Key × V))
 | set (S:Int->Bool) (n:Nat)
 | ins (C dx:Addr) (fs:List (Str × V))
 | own (x:Addr)
 | xd (fs:List (Str × V))
 | met (f x:Addr)
 | rng (lo hi:Int)
 | frz (o:Obj) (u:HO)
 | tbl (ps:Array Value)
 | ext (φ:Heap->Prop)
abbrev Hp:=Addr->Option HO
variable {H H':Hp}
def upd (H:Hp) (a:Addr) (o:HO):Hp:=fun b=>if b=a then some o else H b
theorem yd {o:HO}:upd H a o a=some o:=by unfold upd; rw [if_pos rfl]
theorem ym {b:Addr} {o:HO} (h:b≠a):upd H a o b=H b:=by unfold upd; rw [if_neg h]
theorem x9 {b:Addr} {o u:HO} (h:H a=some o) (h':H b=some u) (d:o≠u):a≠b:=by
 intro e; subst e; rw [h] at h'; exact d (Option.some.inj h')
theorem yc {b:Addr} {o:HO} (h:H a=some o) (h':H b=none):a≠b:=by
 intro e; subst e; rw [h] at h'; cases h'
section
variable (P:Program) (w:World)
def xa (H:Hp) (h:Heap) (a:Addr):HO->Prop
 | .lst xs=>xs.length <= sizeLine/\∃ (its:List Value) (n:Nat),wk xs its/\h.get? a=some { cls:=.type "list",data:=.seq its.toArray n }
 | .tup xs=>xs.length <= sizeLine/\∃ its:List Value,wk xs its/\IsTup h a its.toArray
 | .dK kvs=>kvs.length <= sizeLine/\(a == sysModules)=false/\∃ vs,KV kvs vs/\h.DictOf (xr P w) a vs
 | .dT kvs=>kvs.length <= sizeLine/\(a == sysModules)=false/\∃ xs:List (List Key × Addr × Value),
   Paired (fun (p:List Key × V) (q:List Key × Addr × Value)=>p.1=q.1/\H q.2.1=some (.tup (p.1.map kV))/\wz p.2 q.2.2) kvs xs /\
   ∃ o es ep,h.get? a=some o/\o.ExactDict/\o.data=.dict es ep/\es.toList=xs.map (entryOfKey (tupleKind (xr P w)))/\(xs.map (·.1)).Nodup
 | .set S n=>h.SetOf (intKind P w) a S n
 | .ins C dx fs=>H dx=some (.own a)/\fs.length <= 1000/\dx≠a/\h.get? a=some (W.instObj C dx) /\
   ∃ mA,h.Ns1 dx mA/\(∀ f,yd4 (fs.lookup f) (mA f))/\PySem.Within mA (fs.map (·.1))
 | .own _=>∃ o,h.get? a=some o
 | .xd fs=>∃ mA,h.Ns1 a mA/\∀ f,yd4 (fs.lookup f) (mA f)
 | .rng lo hi=>∃ t u v,h.get? a=some { cls:=.type "range",data:=.fields #[.int lo t,.int hi u,.int 1 v] }
 | .frz o u=>h.get? a=some o/\xa H h a u
 | .tbl ps=>h.get? a=some { cls:=.none,data:=.fields ps }
 | .met f x=>h.get? a=some (W.methodObj (.ref f) (.ref x))
 | .ext φ=>φ h/\(∃ o,h.get? a=some o)/\∀ h1 h2:Heap,φ h1->(∀ o,h1.get? a=some o->h2.get? a=some o)->φ h2
def HOk (H:Hp) (h:Heap):Prop:=∀ a o,H a=some o->xa P w H h a o
end
section
variable {w:World} {h:Heap} {o:HO}
theorem xa.lt (x:xa P w H h a o):a < h.objs.size:=by
 cases o with
 | lst xs=>obtain ⟨_,_,_,_,e⟩:=x; exact Heap.lt_size e
 | tup xs=>obtain ⟨_,_,_,p⟩:=x; exact p.lt
 | dK kvs=>obtain ⟨_,_,_,_,o,_,_,e,_⟩:=x; exact Heap.lt_size e
 | dT kvs=>obtain ⟨_,_,_,_,o,_,_,e,_⟩:=x; exact Heap.lt_size e
 | set S n=>obtain ⟨o,_,_,_,e,_⟩:=x; exact Heap.lt_size e
 | ins C dx fs=>obtain ⟨_,_,_,e,_⟩:=x; exact Heap.lt_size e
 | own y=>obtain ⟨_,e⟩:=x; exact Heap.lt_size e
 | xd fs=>obtain ⟨_,⟨_,_,_,e,_⟩,_⟩:=x; exact Heap.lt_size e
 | rng lo hi=>obtain ⟨_,_,_,e⟩:=x; exact Heap.lt_size e
 | frz ob u=>obtain ⟨e,_⟩:=x; exact Heap.lt_size e
 | tbl ps=>exact Heap.lt_size (show h.get? a=some _ from x)
 | met f y=>exact Heap.lt_size (show h.get? a=some _ from x)
 | ext φ=>obtain ⟨_,⟨_,e⟩,_⟩:=x; exact Heap.lt_size e
theorem Paired.mapP {α β:Type} {F G:α->β->Prop}:∀ {l₁:List α} {l₂:List β},Paired F l₁ l₂->(∀ a b,F a b->G a b)->Paired G l₁ l₂
 | _,_,.nil,_=>.nil
 | _,_,.cons r t,f=>.cons (f _ _ r) (Paired.mapP t f)
theorem xa.stay (x:xa P w H h a o) (k:∀ b u,(b=a\/H b=some (.own a))->h.get? b=some u->h'.get? b=some u)
  (ho:∀ b,H b=some (.own a)->H' b=some (.own a)) (ht:∀ b xs,H b=some (.tup xs)->H' b=some (.tup xs)):xa P w H' h' a o:=by
 induction o with
 | lst xs=>obtain ⟨z,j,n,r,e⟩:=x; exact ⟨z,j,n,r,k _ _ (.inl rfl) e⟩
 | tup xs=>obtain ⟨z,j,r,ob,e,c⟩:=x; exact ⟨z,j,r,ob,k _ _ (.inl rfl) e,c⟩
 | dK kvs=>obtain ⟨z,y,A,r,ob,i,g,e,c⟩:=x; exact ⟨z,y,A,r,ob,i,g,k _ _ (.inl rfl) e,c⟩
 | dT kvs =>
  obtain ⟨z,y,xs,r,ob,i,g,e,c⟩:=x
  exact ⟨z,y,xs,Paired.mapP r fun p q z=>⟨z.1,ht _ _ z.2.1,z.2.2⟩,ob,i,g,k _ _ (.inl rfl) e,c⟩
 | set S n=>obtain ⟨ob,i,g,t,e,c⟩:=x; exact ⟨ob,i,g,t,k _ _ (.inl rfl) e,c⟩
 | ins C dx fs =>
  obtain ⟨d,z,D,e,l,⟨m,i,g,B,c⟩,r⟩:=x
  exact ⟨ho _ d,z,D,k _ _ (.inl rfl) e,l,⟨m,i,g,k _ _ (.inr d) B,c⟩,r⟩
 | own y=>obtain ⟨ob,e⟩:=x; exact ⟨ob,k _ _ (.inl rfl) e⟩
 | xd fs=>obtain ⟨l,⟨m,i,g,e,c⟩,r⟩:=x; exact ⟨l,⟨m,i,g,k _ _ (.inl rfl) e,c⟩,r⟩
 | rng lo hi=>obtain ⟨t,u,v,e⟩:=x; exact ⟨t,u,v,k _ _ (.inl rfl) e⟩
 | frz ob u ih=>obtain ⟨e,q⟩:=x; exact ⟨k _ _ (.inl rfl) e,ih q⟩
 | tbl ps =>
  have e:h.get? a=some { cls:=.none,data:=.fields ps }:=x
  show h'.get? a=some { cls:=.none,data:=.fields ps }
  exact k a _ (.inl rfl) e
 | met f y =>
  have e:h.get? a=some (W.methodObj (.ref f) (.ref y)):=x
  show h'.get? a=some (W.methodObj (.ref f) (.ref y))
  exact k a _ (.inl rfl) e
 | ext φ=>obtain ⟨p,⟨o,e⟩,s⟩:=x; exact ⟨s _ _ p fun o q=>k _ _ (.inl rfl) q,⟨o,k _ _ (.inl rfl) e⟩,s⟩
theorem HOk.lt (x:HOk P w H h) (e:H a=some o):a < h.objs.size:=(x a o e).lt
theorem HOk.fresh (x:HOk P w H h) (e:h.objs.size <= a):H a=none:=by
 cases q:H a with
 | none=>rfl
 | some u=>exact absurd (Nat.lt_of_lt_of_le (x.lt q) e) (Nat.lt_irrefl _)
theorem HOk.kept (x:HOk P w H h) (k:∀ b u,h.get? b=some u->h'.get? b=some u):HOk P w H h':=fun a o e =>
 (x a o e).stay (fun b u _ q=>k b u q) (fun _ q=>q) fun _ _ q=>q
theorem HOk.laid (x:HOk P w H h) (k:∀ b u,h.get? b=some u->h'.get? b=some u) (hp:h.objs.size <= a) (new:xa P w (upd H a o) h' a o):HOk P w (upd H a o) h':=fun b u e=>by
 have d:=x.fresh hp
 by_cases hb:b=a
 ·subst hb; rw [yd] at e; cases e; exact new
 ·rw [ym hb] at e
  exact (x b u e).stay (fun c v _ q=>k c v q) (fun c q=>by rw [ym (yc q d)]; exact q) fun c f q=>by rw [ym (yc q d)]; exact q
end
def Rd (H:Hp) (a:Addr) (u:HO):Prop:=H a=some u\/∃ o,H a=some (.frz o u)
theorem Rd.of {u:HO} (h:H a=some u):Rd H a u:=.inl h
theorem Rd.ok {w:World} {h:Heap} {u:HO} (r:Rd H a u) (x:HOk P w H h):xa P w H h a u:=by
 rcases r with r | ⟨o,r⟩
 ·exact x a u r
 ·obtain ⟨_,q⟩:=x a _ r
  exact q
def Mut:Option HO->Prop
 | some (.lst _)=>True
 | some (.dK _)=>True
 | some (.dT _)=>True
 | some (.set _ _)=>True
 | some (.ins _ _ _)=>True
 | some (.ext _)=>True
 | _=>False
section
variable {w:World} {h:Heap} {x e:Addr} {o':HO}
theorem HOk.write (ok:HOk P w H h) (mu:Mut (H x)) (he:e=x\/H e=some (.own x)) (k:∀ b u,b≠e->h.get? b=some u->h'.get? b=some u) (heo:∃ u,h'.get? e=some u)
  (new:xa P w (upd H x o') h' x o'):HOk P w (upd H x o') h':=fun b u q=>by
 have a:∀ c y,H c=some (.own y)->c≠x:=fun c y r z=>by subst z; rw [r] at mu; exact mu
 have d:∀ c f,H c=some (.tup f)->c≠x:=fun c f r z=>by subst z; rw [r] at mu; exact mu
 by_cases hb:b=x
 ·subst hb; rw [yd] at q; cases q; exact new
 ·rw [ym hb] at q
  by_cases hbe:b=e
  ·have i:H b=some (.own x):=by
    rcases he with z | z
    ·exact absurd (hbe.trans z) hb
    ·rw [hbe]; exact z
   rw [q] at i; cases i
   obtain ⟨v,j⟩:=heo
   exact ⟨v,by rw [hbe]; exact j⟩
  ·refine (ok b u q).stay (fun c v g r=>k c v ?_ r) (fun c r=>by rw [ym (a c b r)]; exact r) fun c f r=>by rw [ym (d c f r)]; exact r
   rcases g with rfl | g
   ·exact hbe
   ·rintro rfl
    rcases he with z | z
    ·exact a c b g z
    ·rw [g] at z; cases z; exact hb rfl
end
structure Un (fs ex:List Addr) (H H':Hp) (h h':Heap):Prop where
 keep:∀ b o,h.get? b=some o->H b=none->b∉fs->b∉ex->h'.get? b=some o
 slot:∀ b o,h.get? b=some o->H b=none->b∈fs->b∉ex->∃ sl,h'.get? b=some { o with slots:=sl }
 free:∀ b o,h.get? b=some o->H b=none->b∉ex->H' b=none
 there:∀ b o,h.get? b=some o->b∉ex->∃ o',h'.get? b=some o'
 tups:∀ b xs,H b=some (.tup xs)->H' b=some (.tup xs)
 frzs:∀ b o u,H b=some (.frz o u)->H' b=some (.frz o u)
 tbls:∀ b ps,H b=some (.tbl ps)->∃ more,H' b=some (.tbl (ps++more))
section
variable {fs fs' ex ex':List Addr} {H1 H2:Hp} {h h1 h2:Heap} {x e:Addr} {o:HO}
theorem Un.any (u:Un fs ex H H1 h h1) {b:Addr} {ob:Obj} (q:h.get? b=some ob) (n:H b=none) (hx:b∉ex):∃ sl,h1.get? b=some { ob with slots:=sl }:=by
 by_cases hb:b∈fs
 ·exact u.slot b ob q n hb hx
 ·exact ⟨ob.slots,u.keep b ob q n hb hx⟩
theorem Un.trans (a:Un fs ex H H1 h h1) (b:Un fs ex H1 H2 h1 h2):Un fs ex H H2 h h2 where
 keep:=fun c d q n i e=>b.keep c d (a.keep c d q n i e) (a.free c d q n e) i e
 slot:=fun c d q n i e=>by
  obtain ⟨r,f⟩:=a.slot c d q n i e
  obtain ⟨l,k⟩:=b.slot c _ f (a.free c d q n e) i e
  exact ⟨l,k⟩
 free:=fun c d q n e=>by
  obtain ⟨j,f⟩:=a.there c d q e
  exact b.free c j f (a.free c d q n e) e
 there:=fun c d q e=>by
  obtain ⟨j,f⟩:=a.there c d q e
  exact b.there c j f e
 tups:=fun c g q=>b.tups c g (a.tups c g q)
 frzs:=fun c d g q=>b.frzs c d g (a.frzs c d g q)
 tbls:=fun c p q=>by
  obtain ⟨m,f⟩:=a.tbls c p q
  obtain ⟨o,k⟩:=b.tbls c _ f
  exact ⟨m++o,by rw [k,Array.append_assoc]⟩
theorem Un.kept (k:∀ b u,h.get? b=some u->h'.get? b=some u):Un fs ex H H h h' :=
 ⟨fun b a q _ _ _=>k b a q,fun b a q _ _ _=>⟨a.slots,k b a q⟩,fun _ _ _ n _=>n,fun b a q _=>⟨a,k b a q⟩,fun _ _ q=>q,fun _ _ _ q=>q,fun _ c q=>⟨#[],by rw [q]; simp⟩⟩
theorem Un.refl:Un fs ex H H h h:=Un.kept fun _ _ q=>q
theorem Un.laid (k:∀ b u,h.get? b=some u->h'.get? b=some u) (hp:h.objs.size <= a) (hn:H a=none):Un fs ex H (upd H a o) h h' where
 keep:=fun b u q _ _ _=>k b u q
 slot:=fun b u q _ _ _=>⟨u.slots,k b u q⟩
 free:=fun b u q n _=>by rw [ym (Nat.ne_of_lt (Nat.lt_of_lt_of_le (Heap.lt_size q) hp))]; exact n
 there:=fun b u q _=>⟨u,k b u q⟩
 tups:=fun b c q=>by rw [ym (yc q hn)]; exact q
 frzs:=fun b u c q=>by rw [ym (yc q hn)]; exact q
 tbls:=fun b d q=>⟨#[],by rw [ym (yc q hn),q]; simp⟩
theorem Un.write (mu:Mut (H x)) (he:e=x\/H e=some (.own x)) (k:∀ b u,b≠e->h.get? b=some u->h'.get? b=some u) (heo:∃ u,h'.get? e=some u):Un fs ex H (upd H x o) h h':=by
 have d:∀ b,H b=none->b≠x:=fun b n z=>by subst z; rw [n] at mu; exact mu
 have c:∀ b,H b=none->b≠e:=fun b n z=>by
  subst z
  rcases he with r | r
  ·exact d b n r
  ·rw [n] at r; cases r
 have a:∀ b u,H b=some u->¬ Mut (some u)->b≠x:=fun b u q g z=>by subst z; rw [q] at mu; exact g mu
 refine ⟨fun b u q n _ _=>k b u (c b n) q,fun b u q n _ _=>⟨u.slots,k b u (c b n) q⟩,fun b u q n _=>by rw [ym (d b n)]; exact n,fun b u q _=>?_,
  fun b f q=>by rw [ym (a b _ q fun z=>z)]; exact q,fun b u f q=>by rw [ym (a b _ q fun z=>z)]; exact q,fun b i q=>⟨#[],by rw [ym (a b _ q fun z=>z),q]; simp⟩⟩
 by_cases hbe:b=e
 ·subst hbe; exact heo
 ·exact ⟨u,k b u hbe q⟩
theorem Un.mono (u:Un fs ex H H1 h h1) (hs:∀ b∈fs,b∈fs') (hx:∀ b∈ex,b∈ex'):Un fs' ex' H H1 h h1 :=
 ⟨fun b c q n d a=>u.keep b c q n (fun z=>d (hs b z)) fun z=>a (hx b z),fun _ _ q n _ a=>u.any q n fun z=>a (hx _ z),fun b c q n a=>u.free b c q n fun z=>a (hx b z),fun b c q a=>u.there b c q fun z=>a (hx b z),u.tups,u.frzs,u.tbls⟩
end
def trk (h:Heap) (H:Hp):List Addr:=(List.range h.objs.size).filter fun a=>(H a).isSome
def ynm (h:Heap) (H:Hp):Heap:=W.hideAll h (trk h H)
theorem yjc (h:Heap) (H:Hp):(ynm h H).objs.size=h.objs.size:=W.hideAll_size _ _
theorem yml {h:Heap} {b:Addr} {o:Obj} (e:h.get? b=some o) (n:H b=none):(ynm h H).get? b=some o :=
 W.hideAll_get _ e fun a=>by
  have q:(H b).isSome=true:=(List.mem_filter.mp a).2
  rw [n] at q; simp at q
theorem ypo {h:Heap} {b:Addr} {o:Obj} (e:(ynm h H).get? b=some o):h.get? b=some o/\H b=none:=by
 have a:h.get? b=some o:=W.of_hideAll (trk h H) e
 refine ⟨a,?_⟩
 cases q:H b with
 | none=>rfl
 | some x =>
  have c:b∈trk h H:=List.mem_filter.mpr ⟨List.mem_range.mpr (Heap.lt_size a),by simp [q]⟩
  have z:(ynm h H).get? b=none:=W.hideAll_none (trk h H) c
  rw [z] at e; cases e
def yqa (g h:Heap) (L:Addr):List (Addr × Obj):=(List.range h.objs.size).filterMap fun a=>if a=L\/(g.get? a).isSome=true then none else (h.get? a).map fun o=>(a,o)
def u6 (g h:Heap) (L d:Addr):List (Addr × Obj):=(yqa g h L).filter fun p=>decide (p.1≠d)
structure Mod (K:W.Frag) (mg:Str->Option Value) (base:Heap):Prop where
 kin:K.In base
 glob:base.Ns mainGlobals mg
 blt:∃ mb,base.Ns builtinsNs mb/\∀ x:Str,x≠"__name__"->mb x=bootBuiltins x
 nolimit:base.NoLimit
structure Cx where
 prog:Program
 w:World
 K:W.Frag
 mg:Str->Option Value
 base:Heap
 A:Around
 N:List Str
 s₀:Shared
 H₀:Hp
 env:Env
 outer:List Env
 stack:List Env
 ex:List Addr
 fn:Str->Bool
 calm:Bool
 pn:List (Addr × Obj)
 xe:Value->Shared->Prop
variable {X:Cx}
def frs (l:List Env):List Addr:=l.filterMap (·.frame)
abbrev Cx.fs (X:Cx):List Addr:=frs X.outer
def Vis (sc:Scope) (x:Str):Prop:=sc.names.lookup x=some .local\/sc.names.lookup x=some .cell\/sc.names.lookup x=some .free
def Loc (sc:Scope) (x:Str):Prop:=sc.names.lookup x=some .local\/sc.names.lookup x=some .cell
def vbo (env:Env) (h:Heap) (m:Str->Option Value) (x:Str) (u:Value):Prop :=
 (env.kindOf x=some .local/\m x=some u)\/((env.kindOf x=some .cell\/env.kindOf x=some .free)/\∃ c,env.cells.lookup x=some c/\h.IsCell c (some u))
structure Cx.Ok (X:Cx):Prop where
 mod:Mod X.K X.mg X.base
 kind:X.env.scope.kind=.function
 glob:X.env.globals=mainGlobals
 blt:X.env.builtins=builtinsNs
 above:X.s₀.heap.objs.size <= X.env.locals
 inj:∀ x y c,X.env.cells.lookup x=some c->X.env.cells.lookup y=some c->x=y
 has:∀ x,(X.env.kindOf x=some .cell\/X.env.kindOf x=some .free)->∃ c,X.env.cells.lookup x=some c
 cab:∀ x c,X.fn x=true->X.env.cells.lookup x=some c->X.s₀.heap.objs.size <= c
 hd:X.calm=true->X.A.handled=none
 frames:X.A.frames=some X.stack
 stk:X.stack=X.outer\/(X.stack=X.env :: X.outer/\X.env.frame=some X.env.locals)
 exf:∀ b∈X.ex,b≠X.env.locals/\∀ x c,X.env.cells.lookup x=some c->c≠b
 bs:∀ b o,X.base.get? b=some o->X.s₀.heap.get? b=some o/\X.H₀ b=none
 bsz:X.base.objs.size <= X.s₀.heap.objs.size
 noex:∀ b o,X.base.get? b=some o->b∉X.ex
 exfs:∀ b∈X.ex,b∉X.fs
 funs:X.s₀.heap.FunFrames X.base X.outer
 frf:∀ b∈X.fs,X.H₀ b=none
structure Inv (X:Cx) (pins:List (Addr × Obj)) (σ:List (Option V)) (H:Hp) (s:Shared):Prop where
 ok:X.Ok
 os:s.os=X.s₀.os
 bare:AllBare s.gens
 base:Un X.fs X.ex X.H₀ H X.s₀.heap s.heap
 loc:∃ m,s.heap.Ns X.env.locals m/\∀ (i:Nat) (x:Str) (v:V),X.N[i]?=some x->σ[i]?=some (some v)->Vis X.env.scope x->∃ u,wz v u/\vbo X.env s.heap m x u
 cell:∀ x c,X.env.cells.lookup x=some c->∃ v,s.heap.IsCell c v
 free:H X.env.locals=none
 freeC:∀ x c,X.env.cells.lookup x=some c->H c=none
 pin:∀ p∈X.pn++pins,s.heap.get? p.1=some p.2/\H p.1=none/\p.1≠X.env.locals/\p.1∉X.fs/\∀ v,p.2.data≠.cell v
 hok:HOk X.prog X.w H s.heap
 len:σ.length=X.N.length
section
variable {σ:List (Option V)} {s:Shared}
theorem Cx.Ok.nofr (ok:X.Ok) {b:Addr} {o:Obj} (e:X.base.get? b=some o):b∉X.fs:=fun a=>by
 have:=(ok.funs.mem a).1
 rw [e] at this; cases this
theorem Inv.bs (I:Inv X pins σ H s):∀ b o,X.base.get? b=some o->s.heap.get? b=some o/\H b=none:=fun b o e =>
 ⟨I.base.keep b o (I.ok.bs b o e).1 (I.ok.bs b o e).2 (I.ok.nofr e) (I.ok.noex b o e),I.base.free b o (I.ok.bs b o e).1 (I.ok.bs b o e).2 (I.ok.noex b o e)⟩
theorem Inv.bk (I:Inv X pins σ H s):∀ b o,X.base.get? b=some o->s.heap.get? b=some o:=fun b o e=>(I.bs b o e).1
theorem Inv.mod (I:Inv X pins σ H s):Mod X.K X.mg X.base:=I.ok.mod
theorem Inv.kIn (I:Inv X pins σ H s):X.K.In s.heap:=I.ok.mod.kin.keeps I.bk
theorem Inv.nolimit (I:Inv X pins σ H s):s.heap.NoLimit:=I.ok.mod.nolimit.keeps I.bk
theorem Inv.fr (I:Inv X pins σ H s):∃ m,Fr X.base X.env.locals s.heap m :=
 let ⟨m,hn,_⟩:=I.loc
 ⟨m,hn,I.bk,Nat.le_trans I.ok.bsz I.ok.above⟩
theorem Inv.lt (I:Inv X pins σ H s):X.env.locals < s.heap.objs.size:=let ⟨_,hn,_⟩:=I.loc; hn.lt
theorem Inv.sz (I:Inv X pins σ H s):X.s₀.heap.objs.size <= s.heap.objs.size:=Nat.le_trans I.ok.above (Nat.le_of_lt I.lt)
theorem Inv.nofs (I:Inv X pins σ H s) (h:s.heap.objs.size <= a):a∉X.fs:=fun b=>by
 obtain ⟨_,o,c,_⟩:=I.ok.funs.mem b
 exact absurd (Nat.lt_of_lt_of_le (Heap.lt_size c) (Nat.le_trans I.sz h)) (Nat.lt_irrefl _)
theorem Inv.cne (I:Inv X pins σ H s):∀ x c,X.env.cells.lookup x=some c->c≠X.env.locals:=fun x c e z=>by
 obtain ⟨v,o,f,d⟩:=I.cell x c e
 obtain ⟨m,⟨g,i,h,a,b,_⟩,_⟩:=I.loc
 rw [z,a] at f; cases f; rw [b] at d; cases d
theorem Inv.funs (I:Inv X pins σ H s):s.heap.FunFrames X.base X.outer:=by
 have f:∀ (l:List Env),(∀ b∈frs l,b∈X.fs)->X.s₀.heap.FunFrames X.base l->s.heap.FunFrames X.base l:=by
  intro l
  induction l with
  | nil=>intro _ _; trivial
  | cons env r ih =>
   intro g k
   obtain ⟨n,⟨L,o,c,j,m,i⟩,h⟩:=k
   have d:L∈X.fs:=g L (by unfold frs; rw [List.filterMap_cons,c]; exact List.mem_cons_self)
   obtain ⟨p,e⟩:=I.base.slot L o m (I.ok.frf L d) d fun z=>I.ok.exfs L z d
   exact ⟨n,⟨L,_,c,j,e,i⟩,ih (fun b a=>g b (by unfold frs; rw [List.filterMap_cons,c]; exact List.mem_cons_of_mem _ a)) h⟩
 exact f X.outer (fun _ a=>a) I.ok.funs
theorem Inv.stack (I:Inv X pins σ H s):s.heap.FunFrames X.base X.stack:=by
 rcases I.ok.stk with e | ⟨e,b⟩
 ·rw [e]; exact I.funs
 ·rw [e]
  obtain ⟨m,a,_⟩:=I.loc
  refine .cons (by rw [I.ok.kind]; decide) b a ?_ I.funs
  exact Heap.get?_none_of_le (Nat.le_trans I.ok.bsz I.ok.above)
theorem Inv.stkSub (I:Inv X pins σ H s):∀ b∈frs X.stack,b∈X.env.locals :: X.fs:=fun b a=>by
 rcases I.ok.stk with e | ⟨e,c⟩
 ·rw [e] at a; exact List.mem_cons_of_mem _ a
 ·rw [e] at a
  unfold frs at a
  rw [List.filterMap_cons,c] at a
  exact a
theorem Inv.stkFree (I:Inv X pins σ H s):∀ b∈frs X.stack,H b=none:=fun b a=>by
 rcases List.mem_cons.mp (I.stkSub b a) with e | a
 ·rw [e]; exact I.free
 ·obtain ⟨_,o,c,_⟩:=I.ok.funs.mem a
  exact I.base.free b o c (I.ok.frf b a) fun z=>I.ok.exfs b z a
theorem Inv.step {g':Array GenState} {d':Drawn} (I:Inv X pins σ H s)
  (hch:∀ b∈ch,(b∈X.ex\/X.s₀.heap.objs.size <= b)/\b≠X.env.locals/\(∀ x c,X.env.cells.lookup x=some c->c≠b)/\∀ p∈X.pn++pins,p.1≠b)
  (keep:∀ b o,b≠X.env.locals->b∉X.fs->b∉ch->s.heap.get? b=some o->H b=none->h'.get? b=some o)
  (slot:∀ b o,b≠X.env.locals->b∈X.fs->b∉ch->s.heap.get? b=some o->H b=none->∃ sl,h'.get? b=some { o with slots:=sl }) (free:∀ b o,b∉ch->s.heap.get? b=some o->H b=none->H' b=none)
  (there:∀ b o,b∉ch->s.heap.get? b=some o->∃ o',h'.get? b=some o')
  (tups:∀ b xs,H b=some (.tup xs)->H' b=some (.tup xs)) (frzs:∀ b o u,H b=some (.frz o u)->H' b=some (.frz o u)) (tbls:∀ b ps,H b=some (.tbl ps)->∃ more,H' b=some (.tbl (ps++more)))
  (ns:∀ m,s.heap.Ns X.env.locals m->h'.Ns X.env.locals m) (hok:HOk X.prog X.w H' h') (hg:AllBare g') :
  Inv X pins σ H' { s with heap:=h',gens:=g',drawn:=d',toks:=t' }:=by
 have A:∀ b o,X.s₀.heap.get? b=some o->b≠X.env.locals:=fun b o e=>Nat.ne_of_lt (Nat.lt_of_lt_of_le (Heap.lt_size e) I.ok.above)
 have h:∀ b o,X.s₀.heap.get? b=some o->b∉X.ex->b∉ch:=fun b o e a t=>by
  rcases (hch b t).1 with z | z
  ·exact a z
  ·exact absurd (Nat.lt_of_lt_of_le (Heap.lt_size e) z) (Nat.lt_irrefl _)
 have g:∀ x c,X.env.cells.lookup x=some c->∀ v,s.heap.IsCell c v->h'.IsCell c v:=fun x c e v ⟨o,y,C⟩=>by
  have f:c∉ch:=fun z=>(hch c z).2.2.1 x c e rfl
  by_cases hc:c∈X.fs
  ·obtain ⟨sl,q⟩:=slot c o (I.cne x c e) hc f y (I.freeC x c e)
   exact ⟨_,q,C⟩
  ·exact ⟨o,keep c o (I.cne x c e) hc f y (I.freeC x c e),C⟩
 refine ⟨I.ok,I.os,hg,⟨fun b o e n t a=>?_,fun b o e n t a=>?_,fun b o e n a=>?_,fun b o e a=>?_,fun b xs e=>tups b xs (I.base.tups b xs e),fun b o xs e=>frzs b o xs (I.base.frzs b o xs e),fun b ps e=>?_⟩,?_,fun x c e=>?_,?_,fun x c e=>?_,fun p G=>?_,hok,I.len⟩
 ·exact keep b o (A b o e) t (h b o e a) (I.base.keep b o e n t a) (I.base.free b o e n a)
 ·obtain ⟨sl,j⟩:=I.base.slot b o e n t a
  obtain ⟨D,B⟩:=slot b _ (A b o e) t (h b o e a) j (I.base.free b o e n a)
  exact ⟨D,B⟩
 ·obtain ⟨o',j⟩:=I.base.there b o e a
  exact free b o' (h b o e a) j (I.base.free b o e n a)
 ·obtain ⟨o',j⟩:=I.base.there b o e a
  exact there b o' (h b o e a) j
 ·obtain ⟨J,j⟩:=I.base.tbls b ps e
  obtain ⟨M,B⟩:=tbls b _ j
  exact ⟨J++M,by rw [B,Array.append_assoc]⟩
 ·obtain ⟨m,N,K⟩:=I.loc
  refine ⟨m,ns m N,fun i x v j B L=>?_⟩
  obtain ⟨u,r,l⟩:=K i x v j B L
  refine ⟨u,r,?_⟩
  rcases l with l | ⟨k,c,e,z⟩
  ·exact .inl l
  ·exact .inr ⟨k,c,e,g x c e _ z⟩
 ·obtain ⟨v,z⟩:=I.cell x c e
  exact ⟨v,g x c e v z⟩
 ·obtain ⟨m,⟨o,_,_,y,_⟩,_⟩:=I.loc
  exact free _ o (fun z=>(hch _ z).2.1 rfl) y I.free
 ·obtain ⟨v,o,y,C⟩:=I.cell x c e
  exact free c o (fun z=>(hch c z).2.2.1 x c e rfl) y (I.freeC x c e)
 ·obtain ⟨e,n,E,F,d⟩:=I.pin p G
  have f:p.1∉ch:=fun z=>(hch p.1 z).2.2.2 p G rfl
  exact ⟨keep p.1 p.2 E F f e n,free p.1 p.2 f e n,E,F,d⟩
theorem Inv.un (I:Inv X pins σ H s) (u:Un X.fs [] H H' s.heap h') (hok:HOk X.prog X.w H' h'):Inv X pins σ H' { s with heap:=h',toks:=t' }:=by
 obtain ⟨m,⟨o,t,p,g,r⟩,_⟩:=id I.loc
 obtain ⟨l,j⟩:=u.any g I.free (by simp)
 exact I.step (g':=s.gens) (d':=s.drawn) (ch:=[]) (fun _ z=>nomatch z) (fun b o _ c _ e n=>u.keep b o e n c (by simp)) (fun b o _ c _ e n=>u.slot b o e n c (by simp)) (fun b o _ e n=>u.free b o e n (by simp)) (fun b o _ e=>u.there b o e (by simp)) u.tups u.frzs u.tbls (fun q i=>by
  obtain ⟨k,d,f,a,h⟩:=i
  rw [g] at a; cases a
  exact ⟨_,d,f,j,h⟩) hok I.bare
theorem Inv.call {g':Array GenState} {d':Drawn} (I:Inv X pins σ H s) (u:Un (frs X.stack) ch H H' s.heap h') (hok:HOk X.prog X.w H' h') (hg:AllBare g')
  (hch:∀ b∈ch,(b∈X.ex\/X.s₀.heap.objs.size <= b)/\b≠X.env.locals/\(∀ x c,X.env.cells.lookup x=some c->c≠b)/\∀ p∈X.pn++pins,p.1≠b) :
  Inv X pins σ H' { s with heap:=h',gens:=g',drawn:=d',toks:=t' }:=by
 obtain ⟨m,⟨o,A,v,i,r⟩,_⟩:=id I.loc
 obtain ⟨t,f⟩:=u.any i I.free fun z=>(hch _ z).2.1 rfl
 exact I.step (ch:=ch) hch (fun b o f j a e n=>u.keep b o e n (fun z=>(List.mem_cons.mp (I.stkSub b z)).elim f j) a) (fun b o _ _ a e n=>u.any e n a) (fun b o a e n=>u.free b o e n a) (fun b o a e=>u.there b o e a) u.tups u.frzs u.tbls (fun y l=>by
  obtain ⟨q,g,h,d,k⟩:=l
  rw [i] at d; cases d
  exact ⟨_,g,h,f,k⟩) hok hg
theorem Inv.turned {it:Addr} (I:Inv X pins σ H s) (k:∀ b o,b≠it->s.heap.get? b=some o->h'.get? b=some o) (hn:H it=none) (hL:it≠X.env.locals)
  (h1:it∈X.ex\/X.s₀.heap.objs.size <= it) (h2:∀ x c,X.env.cells.lookup x=some c->c≠it) (h3:∀ p∈X.pn++pins,p.1≠it):Inv X pins σ H { s with heap:=h',toks:=t' }:=by
 have d:∀ b u,H b=some u->b≠it:=fun b u e z=>by rw [z,hn] at e; cases e
 refine I.step (g':=s.gens) (d':=s.drawn) (ch:=[it]) (fun b f=>?_) (fun b o _ _ a e _=>k b o (fun z=>a (by simp [z])) e) (fun b o _ _ a e _=>⟨o.slots,k b o (fun z=>a (by simp [z])) e⟩) (fun _ _ _ _ n=>n)
  (fun b o a e=>⟨o,k b o (fun z=>a (by simp [z])) e⟩) (fun _ _ e=>e) (fun _ _ _ e=>e) (fun b l e=>⟨#[],by rw [e]; simp⟩) (fun m g=>?_) (fun b u e=>?_) I.bare
 ·have e:b=it:=by simpa using f
  subst e
  exact ⟨h1,hL,h2,h3⟩
 ·obtain ⟨o,j,h,i,r⟩:=g
  exact ⟨o,j,h,k _ o (Ne.symm hL) i,r⟩
 ·refine (I.hok b u e).stay (fun c v a q=>k c v ?_ q) (fun _ q=>q) fun _ _ q=>q
  rcases a with z | z
  ·rw [z]; exact d b u e
  ·exact d c _ z
theorem Inv.tok (I:Inv X pins σ H s) (t:Nat):Inv X pins σ H { s with toks:=t }:=I.un (h':=s.heap) (t':=t) Un.refl I.hok
theorem Inv.kept (I:Inv X pins σ H s) (k:∀ b u,s.heap.get? b=some u->h'.get? b=some u):Inv X pins σ H { s with heap:=h',toks:=t' }:=I.un (Un.kept k) (I.hok.kept k)
theorem Inv.laid {o:HO} (I:Inv X pins σ H s) (k:∀ b u,s.heap.get? b=some u->h'.get? b=some u) (hp:s.heap.objs.size <= a) (new:xa X.prog X.w (upd H a o) h' a o) :
  Inv X pins σ (upd H a o) { s with heap:=h',toks:=t' }:=I.un (Un.laid k hp (I.hok.fresh hp)) (I.hok.laid k hp new)
theorem Inv.write {x e:Addr} {o:HO} (I:Inv X pins σ H s) (mu:Mut (H x)) (he:e=x\/H e=some (.own x)) (k:∀ b u,b≠e->s.heap.get? b=some u->h'.get? b=some u) (heo:∃ u,h'.get? e=some u)
  (new:xa X.prog X.w (upd H x o) h' x o):Inv X pins σ (upd H x o) { s with heap:=h',toks:=t' }:=I.un (Un.write mu he k heo) (I.hok.write mu he k heo new)
theorem Inv.pins_of {pins':List (Addr × Obj)} (I:Inv X pins σ H s) (h:∀ p∈pins',s.heap.get? p.1=some p.2/\H p.1=none/\p.1≠X.env.locals/\p.1∉X.fs/\∀ v,p.2.data≠.cell v):Inv X pins' σ H s :=
 ⟨I.ok,I.os,I.bare,I.base,I.loc,I.cell,I.free,I.freeC,fun p a=>(List.mem_append.mp a).elim (fun z=>I.pin p (List.mem_append_left _ z)) (h p),I.hok,I.len⟩
theorem ydn {N:List Str} (hN:N.Nodup) (a:N[i]?=some x) (b:N[j]?=some x):i=j:=by
 obtain ⟨f,d⟩:=List.getElem?_eq_some_iff.mp a
 obtain ⟨e,c⟩:=List.getElem?_eq_some_iff.mp b
 exact (List.getElem_inj hN).mp (d.trans c.symm)
theorem jt {A:Around} {Q:Unit->Shared->Prop} (I:Inv X pins σ H s) (hN:X.N.Nodup) (hi:X.N[i]?=some x) (hx:Loc X.env.scope x) (r:wz v u)
  (h:∀ s',Inv X pins (σ.set i (some v)) H s'->(∃ a,Heap.SameBut a s.heap s'.heap/\(a=X.env.locals\/X.env.cells.lookup x=some a))->Q () s') (hf:X.fn x=true\/X.env.scope.names.lookup x=some .local:=by first | exact .inl rfl | exact .inr rfl | assumption):wpAny M A (storeName X.env x u) Q E s:=by
 obtain ⟨m,hn,hl⟩:=id I.loc
 have O:(X.env.scope.kind == .class || (X.env.scope.kind == .module && X.env.locals != X.env.globals))=false:=by rw [I.ok.kind]; rfl
 have hiσ:i < σ.length:=by rw [I.len]; exact (List.getElem?_eq_some_iff.mp hi).1
 have G:=I.cne
 have l:∀ {a:Addr} {K:Heap},(∃ o,s.heap.get? a=some o/\H a=none)->Heap.SameBut a s.heap K->HOk X.prog X.w H K:=fun {a K} ha f b ob e=>by
  obtain ⟨_,_,B⟩:=ha
  refine (I.hok b ob e).stay (fun c U t q=>(f.2 c ?_).trans q) (fun _ q=>q) fun _ _ q=>q
  rintro rfl
  rcases t with rfl | t
  ·rw [B] at e; cases e
  ·rw [B] at t; cases t
 rcases hx with D | D
 ·refine wpAny_storeName_local D hn (fun K Y f=>?_) O
  obtain ⟨oL,_,_,a0,_⟩:=id hn
  refine h _ ⟨I.ok,I.os,I.bare,⟨fun b o e n J hx=>?_,fun b o e n J hx=>?_,I.base.free,fun b o e hx=>?_,I.base.tups,I.base.frzs,I.base.tbls⟩,⟨_,Y,fun j y v' g C e3=>?_⟩,fun y c e=>?_,I.free,I.freeC,fun p hp=>?_,l ⟨oL,a0,I.free⟩ f,by simpa using I.len⟩ ⟨_,f,.inl rfl⟩
  ·exact (f.2 b (Nat.ne_of_lt (Nat.lt_of_lt_of_le (Heap.lt_size e) I.ok.above))).trans (I.base.keep b o e n J hx)
  ·obtain ⟨sl,g⟩:=I.base.slot b o e n J hx
   exact ⟨sl,(f.2 b (Nat.ne_of_lt (Nat.lt_of_lt_of_le (Heap.lt_size e) I.ok.above))).trans g⟩
  ·obtain ⟨W,g⟩:=I.base.there b o e hx
   exact ⟨W,(f.2 b (Nat.ne_of_lt (Nat.lt_of_lt_of_le (Heap.lt_size e) I.ok.above))).trans g⟩
  ·by_cases hj:j=i
   ·subst hj
    rw [hi] at g; cases g
    rw [List.getElem?_set_self hiσ] at C
    cases C
    exact ⟨u,r,.inl ⟨D,by simp⟩⟩
   ·rw [List.getElem?_set_ne (Ne.symm hj)] at C
    obtain ⟨u',Z,q⟩:=hl j y v' g C e3
    refine ⟨u',Z,?_⟩
    rcases q with ⟨k,e⟩ | ⟨k,c,e,z⟩
    ·refine .inl ⟨k,?_⟩
     have:y≠x:=fun e=>hj (ydn hN g (e ▸ hi))
     simp [this,e]
    ·exact .inr ⟨k,c,e,z.sameBut f (G y c e)⟩
  ·obtain ⟨U,z⟩:=I.cell y c e
   exact ⟨U,z.sameBut f (G y c e)⟩
  ·obtain ⟨e,n,S,nf,d⟩:=I.pin p hp
   exact ⟨(f.2 p.1 S).trans e,n,S,nf,d⟩
 ·have F:X.fn x=true:=by
   rcases hf with z | z
   ·exact z
   ·rw [z] at D; cases D
  obtain ⟨c,t⟩:=I.ok.has x (.inl D)
  obtain ⟨U,z⟩:=I.cell x c t
  refine wpAny_storeName_cell I.ok.kind D t z (fun K P f=>?_)
  obtain ⟨oc,R,L⟩:=id z
  refine h { s with heap:=K } ⟨I.ok,I.os,I.bare,⟨fun b o e n J hx=>?_,fun b o e n J hx=>?_,I.base.free,fun b o e hx=>?_,I.base.tups,I.base.frzs,I.base.tbls⟩,⟨m,hn.sameBut f (Ne.symm (G x c t)),fun j y v' g C e3=>?_⟩,fun y T e=>?_,I.free,I.freeC,fun p hp=>?_,l ⟨oc,R,I.freeC x c t⟩ f,by simpa using I.len⟩ ⟨c,f,.inr t⟩
  ·exact (f.2 b (Nat.ne_of_lt (Nat.lt_of_lt_of_le (Heap.lt_size e) (I.ok.cab x c F t)))).trans (I.base.keep b o e n J hx)
  ·obtain ⟨sl,g⟩:=I.base.slot b o e n J hx
   exact ⟨sl,(f.2 b (Nat.ne_of_lt (Nat.lt_of_lt_of_le (Heap.lt_size e) (I.ok.cab x c F t)))).trans g⟩
  ·obtain ⟨W,g⟩:=I.base.there b o e hx
   exact ⟨W,(f.2 b (Nat.ne_of_lt (Nat.lt_of_lt_of_le (Heap.lt_size e) (I.ok.cab x c F t)))).trans g⟩
  ·by_cases hj:j=i
   ·subst hj
    rw [hi] at g; cases g
    rw [List.getElem?_set_self hiσ] at C
    cases C
    exact ⟨u,r,.inr ⟨.inl D,c,t,P⟩⟩
   ·rw [List.getElem?_set_ne (Ne.symm hj)] at C
    obtain ⟨u',Z,q⟩:=hl j y v' g C e3
    refine ⟨u',Z,?_⟩
    rcases q with q | ⟨k,T,e,z'⟩
    ·exact .inl q
    ·refine .inr ⟨k,T,e,z'.sameBut f ?_⟩
     rintro rfl
     exact hj (ydn hN g (I.ok.inj _ _ _ e t ▸ hi))
  ·by_cases hcc:T=c
   ·subst hcc; exact ⟨_,P⟩
   ·obtain ⟨w2,z2⟩:=I.cell y T e
    exact ⟨w2,z2.sameBut f hcc⟩
  ·obtain ⟨e,n,S,nf,d⟩:=I.pin p hp
   refine ⟨(f.2 p.1 ?_).trans e,n,S,nf,d⟩
   intro q
   rw [q,R] at e
   have q':oc=p.2:=Option.some.inj e
   exact d U (by rw [<- q']; exact L)
theorem jv {A:Around} {Q:Unit->Shared->Prop} (I:Inv X pins σ H s) (hN:X.N.Nodup) (hi:X.N[i]?=some x) (hx:Loc X.env.scope x) (r:wz v u)
  (h:∀ s',Inv X pins (σ.set i (some v)) H s'->Q () s') (hf:X.fn x=true\/X.env.scope.names.lookup x=some .local:=by first | exact .inl rfl | exact .inr rfl | assumption):wpAny M A (storeName X.env x u) Q E s :=
 jt I hN hi hx r (fun s' a _=>h s' a) hf
theorem Inv.call' (I:Inv X pins σ H s) (ho:s'.os=s.os) (u:Un (frs X.stack) ch H H' s.heap s'.heap) (hok:HOk X.prog X.w H' s'.heap) (hg:AllBare s'.gens)
  (hch:∀ b∈ch,(b∈X.ex\/X.s₀.heap.objs.size <= b)/\b≠X.env.locals/\(∀ x c,X.env.cells.lookup x=some c->c≠b)/\∀ p∈X.pn++pins,p.1≠b):Inv X pins σ H' s':=by
 obtain ⟨d,g',d',t',a⟩:=s'
 have e:a=s.os:=ho
 subst e
 exact I.call (g':=g') (t':=t') (d':=d') u hok hg hch
end
abbrev XK:=Value->Option Addr->Hp->Prop
abbrev St:=List (Option V)
variable {σ:St}
abbrev VK:=V->Hp->Prop
abbrev TE:=St->Hp->VK->Prop
variable {ta te:TE}
abbrev TT:=St->Hp->(Bool->Hp->Prop)->Prop
abbrev TA:=St->Hp->(List V->Hp->Prop)->Prop
structure yb6 where
 nx:St->Hp->Prop
 rt:VK
 bk:St->Hp->Prop:=fun _ _=>False
 ct:St->Hp->Prop:=fun _ _=>False
abbrev TS:=yb6->St->Hp->Prop
def EP (X:Cx) (pins:List (Addr × Obj)) (σ:St) (Q:VK) (u:Value) (s':Shared):Prop:=∃ v H',Inv X pins σ H' s'/\wz v u/\Q v H'
def TP (X:Cx) (pins:List (Addr × Obj)) (σ:St) (Q:Bool->Hp->Prop) (b:Bool) (s':Shared):Prop:=∃ H',Inv X pins σ H' s'/\Q b H'
def AP (X:Cx) (pins:List (Addr × Obj)) (σ:St) (Q:List V->Hp->Prop) (us:List Value) (s':Shared):Prop:=∃ vs H',Inv X pins σ H' s'/\wk vs us/\Q vs H'
def SP (X:Cx) (pins:List (Addr × Obj)) (D:yb6) (f:Flow) (s':Shared):Prop :=
 match f with
 | .next=>∃ σ' H',Inv X pins σ' H' s'/\D.nx σ' H'
 | .brk=>∃ σ' H',Inv X pins σ' H' s'/\D.bk σ' H'
 | .cont=>∃ σ' H',Inv X pins σ' H' s'/\D.ct σ' H'
 | .ret u=>∃ v σ' H',Inv X pins σ' H' s'/\wz v u/\D.rt v H'
structure PE (X:Cx) (e:Expr) (t:TE):Prop where
 go:∀ (pins:List (Addr × Obj)) (s:Shared) (σ:St) (H:Hp) (Q:VK),Inv X pins σ H s->t σ H Q->wpAny (model X.prog X.w) X.A (eval e X.env) (EP X pins σ Q) X.xe s
instance {X:Cx} {e:Expr} {t:TE}:CoeFun (PE X e t) (fun _=>∀ (pins:List (Addr × Obj)) (s:Shared) (σ:St) (H:Hp) (Q:VK),Inv X pins σ H s->t σ H Q->wpAny (model X.prog X.w) X.A (eval e X.env) (EP X pins σ Q) X.xe s):=⟨PE.go⟩
structure PT (X:Cx) (e:Expr) (t:TT):Prop where
 go:∀ (pins:List (Addr × Obj)) (s:Shared) (σ:St) (H:Hp) (Q:Bool->Hp->Prop),Inv X pins σ H s->t σ H Q->wpAny (model X.prog X.w) X.A (isTrue e X.env (eval e X.env)) (TP X pins σ Q) X.xe s
instance {X:Cx} {e:Expr} {t:TT}:CoeFun (PT X e t) (fun _=>∀ (pins:List (Addr × Obj)) (s:Shared) (σ:St) (H:Hp) (Q:Bool->Hp->Prop),Inv X pins σ H s->t σ H Q->wpAny (model X.prog X.w) X.A (isTrue e X.env (eval e X.env)) (TP X pins σ Q) X.xe s):=⟨PT.go⟩
def PW (X:Cx) (e:Expr) (t:TT):Prop :=
 ∀ (whole:Sem Value) (pins:List (Addr × Obj)) (s:Shared) (σ:St) (H:Hp) (Q:Bool->Hp->Prop),Inv X pins σ H s->t σ H Q->wpAny (model X.prog X.w) X.A (isTrue e X.env whole) (TP X pins σ Q) X.xe s
theorem PW.pt {t:TT} (h:PW X e t):PT X e t:=⟨h _⟩
structure PA (X:Cx) (es:List Expr) (t:TA):Prop where
 go:∀ (pos:Pos) (pins:List (Addr × Obj)) (s:Shared) (σ:St) (H:Hp) (Q:List V->Hp->Prop),Inv X pins σ H s->t σ H Q->wpAny (model X.prog X.w) X.A (spliced (backTo pos (starEach es X.env))) (AP X pins σ Q) X.xe s
instance {X:Cx} {es:List Expr} {t:TA}:CoeFun (PA X es t) (fun _=>∀ (pos:Pos) (pins:List (Addr × Obj)) (s:Shared) (σ:St) (H:Hp) (Q:List V->Hp->Prop),Inv X pins σ H s->t σ H Q->wpAny (model X.prog X.w) X.A (spliced (backTo pos (starEach es X.env))) (AP X pins σ Q) X.xe s):=⟨PA.go⟩
structure PS (X:Cx) (st:Stmt) (t:TS):Prop where
 go:∀ (pins:List (Addr × Obj)) (s:Shared) (σ:St) (H:Hp) (D:yb6),Inv X pins σ H s->t D σ H->wpAny (model X.prog X.w) X.A (exec st X.env) (SP X pins D) X.xe s
instance {X:Cx} {st:Stmt} {t:TS}:CoeFun (PS X st t) (fun _=>∀ (pins:List (Addr × Obj)) (s:Shared) (σ:St) (H:Hp) (D:yb6),Inv X pins σ H s->t D σ H->wpAny (model X.prog X.w) X.A (exec st X.env) (SP X pins D) X.xe s):=⟨PS.go⟩
structure PSs (X:Cx) (st:List Stmt) (t:TS):Prop where
 go:∀ (pins:List (Addr × Obj)) (s:Shared) (σ:St) (H:Hp) (D:yb6),Inv X pins σ H s->t D σ H->wpAny (model X.prog X.w) X.A (execs st X.env) (SP X pins D) X.xe s
instance {X:Cx} {st:List Stmt} {t:TS}:CoeFun (PSs X st t) (fun _=>∀ (pins:List (Addr × Obj)) (s:Shared) (σ:St) (H:Hp) (D:yb6),Inv X pins σ H s->t D σ H->wpAny (model X.prog X.w) X.A (execs st X.env) (SP X pins D) X.xe s):=⟨PSs.go⟩
theorem thn {α:Type} {t:Sem α} {Q Q':α->Shared->Prop} {A:Around} {s:Shared} (h:wpAny M A t Q E s) (hQ:∀ a s,Q a s->Q' a s):wpAny M A t Q' E s:=wpAny_mono h hQ fun _ _ x=>x
section
def ypk (i:Nat):TE:=fun σ H Q=>∃ v,σ[i]?=some (some v)/\Q v H
def tC (v:V):TE:=fun _ H Q=>Q v H
theorem yv2 {pos:Pos} (hN:X.N[i]?=some x) (hv:Vis X.env.scope x) (hd:(x == ("__debug__":Str))=false:=by decide) (hcd:(x == ("__classdict__":Str))=false:=by decide):PE X (.Name x pos) (ypk i):=by
 refine .mk fun f s σ H Q I h=>?_
 obtain ⟨v,e,h⟩:=h
 obtain ⟨m,k,n⟩:=I.loc
 obtain ⟨u,r,l⟩:=n i x v hN e hv
 have b:EP X f σ Q u s:=⟨v,H,I,r,h⟩
 rcases l with ⟨d,j⟩ | ⟨d,c,g,a⟩
 ·exact wpAny_Name (wpAny_loadName_local I.ok.kind d k j b) hd
 ·rcases d with d | d
  ·exact wpAny_Name (wpAny_loadName_cell I.ok.kind d g a b) hd
  ·exact wpAny_Name (wpAny_loadName_free I.ok.kind d g a b hcd) hd
theorem yg {i j pos}:PE X (.Constant (.int i) j pos) (tC (.int i)):=.mk fun _ _ _ H _ I h=>wpAny_Constant_int ⟨.int i,H,I.tok _,⟨_,rfl⟩,h⟩
theorem xy {b j pos}:PE X (.Constant (.bool b) j pos) (tC (.bl b)):=.mk fun _ _ _ H _ I h=>Constant_bool ⟨.bl b,H,I,rfl,h⟩
theorem j3 {j pos}:PE X (.Constant .none j pos) (tC .non):=.mk fun _ _ _ H _ I h=>Constant_none ⟨.non,H,I,rfl,h⟩
theorem xh {x j pos}:PE X (.Constant (.str x) j pos) (tC (.str x)):=.mk fun _ _ _ H _ I h=>Calls.Constant_str ⟨.str x,H,I.tok _,⟨_,rfl⟩,h⟩
def Gl (X:Cx) (x:Str):Prop:=X.env.kindOf x=some .globalImplicit
theorem zu {s:Shared} {pos:Pos} (I:Inv X pins σ H s) (hg:Gl X x) (hm:X.mg x=some u) (h:Q u s)
  (hd:(x == ("__debug__":Str))=false:=by decide):wpAny (model X.prog X.w) X.A (eval (.Name x pos) X.env) Q E s :=
 Calls.Name_function_global I.ok.kind hg (Calls.loadGlobal_global (by rw [I.ok.glob]; exact I.mod.glob.keeps I.bk) hm h) hd
theorem ycy {s:Shared} {pos:Pos} (I:Inv X pins σ H s) (hg:Gl X x) (hm:X.mg x=none) (hv:bootBuiltins x=some u) (h:Q u s)
  (hn:x≠"__name__":=by decide) (hd:(x == ("__debug__":Str))=false:=by decide):wpAny (model X.prog X.w) X.A (eval (.Name x pos) X.env) Q E s:=by
 obtain ⟨c,b,a⟩:=I.mod.blt
 exact Calls.Name_function_global I.ok.kind hg (Calls.loadGlobal_builtin (by rw [I.ok.glob]; exact I.mod.glob.keeps I.bk) hm (by rw [I.ok.blt]; exact b.keeps I.bk) ((a x hn).trans hv) h) hd
theorem ykh {pos:Pos} (hg:Gl X x) (hm:X.mg x=some u) (r:wz v u) (hd:(x == ("__debug__":Str))=false:=by decide):PE X (.Name x pos) (tC v):=.mk
 fun _ _ _ H _ I h=>zu I hg hm ⟨v,H,I,r,h⟩ hd
theorem yrb {pos:Pos} (hg:Gl X x) (hm:X.mg x=none) (hv:bootBuiltins x=some u) (r:wz v u) (hn:x≠"__name__":=by decide) (hd:(x == ("__debug__":Str))=false:=by decide):PE X (.Name x pos) (tC v):=.mk
 fun _ _ _ H _ I h=>ycy I hg hm hv ⟨v,H,I,r,h⟩ hn hd
variable {a b:Expr} {tb:TE} {pos:Pos}
def PC (X:Cx) (op:CmpOp) (a b:Expr) (t:TE):Prop :=
 ∀ (pins:List (Addr × Obj)) (s:Shared) (σ:St) (H:Hp) (Q:VK),Inv X pins σ H s->t σ H Q ->
  wpAny (model X.prog X.w) X.A (eval a X.env) (fun v s₁=>wpAny (model X.prog X.w) X.A (eval b X.env) (fun u s₂=>wpAny (model X.prog X.w) X.A (compareOp op v u) (EP X pins σ Q) X.xe s₂) X.xe s₁) X.xe s
theorem ymb (b:Expr) (h:op≠.In) (h2:op≠.NotIn):behindInMarks op b=false:=by
 have c:(op == CmpOp.In)=false:=by cases op <;> first | rfl | exact absurd rfl h
 have a:(op == CmpOp.NotIn)=false:=by cases op <;> first | rfl | exact absurd rfl h2
 cases b <;> simp [behindInMarks,c,a]
def tB (t:TE):TT:=fun σ H Q=>t σ H fun x H1=>∃ c,x=.bl c/\Q c H1
theorem yuv {t:TE} (h:PC X op a b t) (h1:behindInMarks op b=false:=by first | exact ymb _ (by decide) (by decide) | rfl):PT X (.Compare a [op] [b] pos) (tB t):=by
 refine .mk fun e s σ H Q I g=>?_
 refine wpAny_isTrue_Compare1 (thn (h e s σ H _ I g) fun v o h1=>thn h1 fun u n f=>thn f fun c m h'=>?_) h1
 obtain ⟨x,l,k,i,j⟩:=h'
 obtain ⟨d,rfl,q⟩:=j
 cases i
 exact wpAny_truthy_bool ⟨l,k,q⟩
theorem uc {t:TE} (h:PE X e t) (he:∀ whole,isTrue e X.env whole=(do let v <- whole; standAt e.pos; holding [v] (truthy v)):=by intro _; rfl):PT X e (tB t):=by
 refine .mk fun a s σ H Q I b=>?_
 refine isTrue_plain (thn (h a s σ H _ I b) fun v j h'=>?_) (he _)
 obtain ⟨x,i,g,c,f⟩:=h'
 obtain ⟨d,rfl,q⟩:=f
 cases c
 exact wpAny_truthy_bool ⟨i,g,q⟩
variable {tA tB':TT} {u6:List Expr}
def va0 (t u:TT):TT:=fun σ H Q=>t σ H fun c H1=>if c=true then u σ H1 Q else Q false H1
def tOr (t u:TT):TT:=fun σ H Q=>t σ H fun c H1=>if c=true then Q true H1 else u σ H1 Q
def va2 (t:TT):TT:=fun σ H Q=>t σ H fun c H1=>Q (!c) H1
theorem yqt (ha:PT X a tA):PW X (.BoolOp .And [a] pos) tA:=by
 intro d b s σ H Q I h
 refine isTrue_and (thn (ha b s σ H Q I h) fun c f e=>?_)
 cases c with
 | true=>exact isTrue_and_nil e
 | false=>exact e
theorem yfi (ha:PT X a tA):PW X (.BoolOp .Or [a] pos) tA:=by
 intro d b s σ H Q I h
 refine isTrue_or (thn (ha b s σ H Q I h) fun c f e=>?_)
 cases c with
 | false=>exact isTrue_or_nil e
 | true=>exact e
theorem yvm (ha:PT X a tA) (hb:PW X (.BoolOp .And (b :: u6) pos) tB'):PW X (.BoolOp .And (a :: b :: u6) pos) (va0 tA tB'):=by
 intro i d s σ H Q I h
 refine isTrue_and (thn (ha d s σ H _ I h) fun c j ⟨g,f,e⟩=>?_)
 cases c with
 | true=>exact hb i d j σ g Q f e
 | false=>exact ⟨g,f,e⟩
theorem yd1 (ha:PT X a tA) (hb:PW X (.BoolOp .Or (b :: u6) pos) tB'):PW X (.BoolOp .Or (a :: b :: u6) pos) (tOr tA tB'):=by
 intro i d s σ H Q I h
 refine isTrue_or (thn (ha d s σ H _ I h) fun c j ⟨g,f,e⟩=>?_)
 cases c with
 | true=>exact ⟨g,f,e⟩
 | false=>exact hb i d j σ g Q f e
theorem xv (ha:PT X a tA):PT X (.UnaryOp .Not a pos) (va2 tA):=by
 refine .mk fun b s σ H Q I h=>?_
 exact isTrue_not (ha b s σ H (fun c d=>Q (!c) d) I h)
def yxk (ta tb:TE):TE:=fun σ H Q=>ta σ H fun x H1=>∃ c,x=.bl c/\if c=true then tb σ H1 Q else Q (.bl false) H1
def vaz (ta tb:TE):TE:=fun σ H Q=>ta σ H fun x H1=>∃ c,x=.bl c/\if c=true then Q (.bl true) H1 else tb σ H1 Q
def yxn (ta:TE):TE:=fun σ H Q=>ta σ H fun x H1=>∃ c,x=.bl c/\Q (.bl (!c)) H1
theorem ji {op} {t:TE} (h:PE X a t):PE X (.BoolOp op [a] pos) t:=.mk fun b s σ H Q I c=>BoolOp_one (h b s σ H Q I c)
theorem zf (ha:PE X a ta) (hb:PE X (.BoolOp .And (b :: u6) pos) tb):PE X (.BoolOp .And (a :: b :: u6) pos) (yxk ta tb):=by
 refine .mk fun d s σ H Q I h=>?_
 refine BoolOp_and (thn (ha d s σ H _ I h) fun v j h'=>?_)
 obtain ⟨x,g,f,i,e⟩:=h'
 obtain ⟨c,rfl,e⟩:=e
 cases i
 refine wpAny_truthy_bool ?_
 cases c with
 | true=>exact hb d j σ g Q f e
 | false=>exact ⟨.bl false,g,f,rfl,e⟩
theorem yyf (ha:PE X a ta) (hb:PE X (.BoolOp .Or (b :: u6) pos) tb):PE X (.BoolOp .Or (a :: b :: u6) pos) (vaz ta tb):=by
 refine .mk fun d s σ H Q I h=>?_
 refine BoolOp_or (thn (ha d s σ H _ I h) fun v j h'=>?_)
 obtain ⟨x,g,f,i,e⟩:=h'
 obtain ⟨c,rfl,e⟩:=e
 cases i
 refine wpAny_truthy_bool ?_
 cases c with
 | false=>exact hb d j σ g Q f e
 | true=>exact ⟨.bl true,g,f,rfl,e⟩
theorem ylg (ha:PE X a ta):PE X (.UnaryOp .Not a pos) (yxn ta):=by
 refine .mk fun b s σ H Q I h=>?_
 refine UnaryOp_ (thn (ha b s σ H _ I h) fun v i h'=>?_)
 obtain ⟨x,g,f,e,d⟩:=h'
 obtain ⟨c,rfl,d⟩:=d
 cases e
 exact not_of (wpAny_truthy_bool ⟨.bl (!c),g,f,rfl,d⟩)
def tIf (t:TT) (ta tb:TE):TE:=fun σ H Q=>t σ H fun c H1=>if c=true then ta σ H1 Q else tb σ H1 Q
theorem ydm {c:Expr} (hc:PT X c tA) (ha:PE X a ta) (hb:PE X b tb):PE X (.IfExp c a b pos) (tIf tA ta tb):=by
 refine .mk fun e s σ H Q I h=>?_
 refine wpAny_IfExp (thn (hc e s σ H _ I h) fun d j ⟨i,g,f⟩=>?_)
 cases d with
 | true=>exact ha e j σ i Q g f
 | false=>exact hb e j σ i Q g f
end
def SqL (K:W.Frag) (H:Hp) (a:Addr) (xs:List V):Prop :=
 Rd H a (.lst xs) \/
  ∃ (o:Obj) (its:Array Value) (n:Nat),K.lookup a=some o/\o.cls=.type "list"/\o.dict=none/\o.data=.seq its n/\its.size <= sizeLine/\wk xs its.toList
def SqT (K:W.Frag) (H:Hp) (a:Addr) (xs:List V):Prop :=
 Rd H a (.tup xs) \/
  ∃ (o:Obj) (its:Array Value) (n:Nat),K.lookup a=some o/\o.cls=.type "tuple"/\o.data=.seq its n/\its.size <= sizeLine/\wk xs its.toList
def vbw:Value->Option V
 | .none=>some .non
 | .bool b=>some (.bl b)
 | .int i _=>some (.int i)
 | .str x _=>some (.str x)
 | .bytes b _=>some (.byt b)
 | .float b _=>some (.flt b)
 | .ref a=>some (.ref a)
 | .type n=>some (.ty n)
 | _=>none
theorem wz.abs {x:V} (r:wz x u):vbw u=some x:=by
 cases x with
 | non=>cases r; rfl
 | bl _=>cases r; rfl
 | int _=>obtain ⟨t,rfl⟩:=r; rfl
 | str _=>obtain ⟨t,rfl⟩:=r; rfl
 | byt _=>obtain ⟨t,rfl⟩:=r; rfl
 | flt _=>obtain ⟨t,rfl⟩:=r; rfl
 | ref _=>cases r; rfl
 | ty _=>cases r; rfl
theorem wz.inj {x:V} (r:wz x u) (q:wz y u):x=y:=Option.some.inj (r.abs.symm.trans q.abs)
theorem wk.inj:∀ {xs ys:List V} {us:List Value},wk xs us->wk ys us->xs=ys
 | _,_,_,.nil,.nil=>rfl
 | _,_,_,.cons r t,.cons r' t'=>by rw [r.inj r',wk.inj t t']
section
variable {s:Shared} {ys:List V}
theorem SqL.of {K:W.Frag} (h:H a=some (.lst xs)):SqL K H a xs:=.inl (.inl h)
theorem SqT.of {K:W.Frag} (h:H a=some (.tup xs)):SqT K H a xs:=.inl (.inl h)
theorem Inv.list (I:Inv X pins σ H s) (h:SqL X.K H a xs):∃ its:List Value,wk xs its/\PlainL s.heap a its.toArray/\xs.length <= sizeLine:=by
 rcases h with h | ⟨o,its,n,f,d,b,c,g,r⟩
 ·obtain ⟨z,its,n,r,e⟩:=h.ok I.hok
  exact ⟨its,r,⟨_,n,e,rfl,rfl,rfl⟩,z⟩
 ·refine ⟨its.toList,r,⟨o,n,I.kIn a o f,d,b,by simpa using c⟩,?_⟩
  have e:=r.length
  simp only [Array.length_toList] at e
  omega
theorem Inv.tuple (I:Inv X pins σ H s) (h:SqT X.K H a xs):∃ its:List Value,wk xs its/\IsTup s.heap a its.toArray/\xs.length <= sizeLine:=by
 rcases h with h | ⟨o,its,n,c,b,d,f,r⟩
 ·obtain ⟨z,its,r,p⟩:=h.ok I.hok
  exact ⟨its,r,p,z⟩
 ·refine ⟨its.toList,r,⟨o,I.kIn a o c,b,n,by simpa using d⟩,?_⟩
  have e:=r.length
  simp only [Array.length_toList] at e
  omega
theorem Inv.list_inj (I:Inv X pins σ H s) (h:SqL X.K H a xs) (h':SqL X.K H a ys):xs=ys:=by
 obtain ⟨c,r,⟨o,n,e,_,_,d⟩,_⟩:=I.list h
 obtain ⟨b,i,⟨k,j,f,_,_,g⟩,_⟩:=I.list h'
 rw [e] at f; cases f
 rw [d] at g
 injection g with d1 _
 have:c=b:=by simpa using congrArg Array.toList d1
 subst this
 exact r.inj i
theorem Inv.tuple_inj (I:Inv X pins σ H s) (h:SqT X.K H a xs) (h':SqT X.K H a ys):xs=ys:=by
 obtain ⟨c,r,⟨o,e,_,n,d⟩,_⟩:=I.tuple h
 obtain ⟨b,i,⟨k,f,_,j,g⟩,_⟩:=I.tuple h'
 rw [e] at f; cases f
 rw [d] at g
 injection g with d1 _
 have:c=b:=by simpa using congrArg Array.toList d1
 subst this
 exact r.inj i
end
abbrev Cx.wish (X:Cx) (E:Value->Shared->Prop):Cx:={ X with xe:=E }
abbrev Cx.nox (X:Cx):Cx:=X.wish fun _ _=>False
theorem Cx.Ok.wish (ok:X.Ok) (E:Value->Shared->Prop):(X.wish E).Ok :=
 ⟨ok.mod,ok.kind,ok.glob,ok.blt,ok.above,ok.inj,ok.has,ok.cab,ok.hd,ok.frames,ok.stk,ok.exf,ok.bs,ok.bsz,ok.noex,ok.exfs,ok.funs,ok.frf⟩
theorem Cx.Ok.unwish (ok:(X.wish E).Ok):X.Ok :=
 ⟨ok.mod,ok.kind,ok.glob,ok.blt,ok.above,ok.inj,ok.has,ok.cab,ok.hd,ok.frames,ok.stk,ok.exf,ok.bs,ok.bsz,ok.noex,ok.exfs,ok.funs,ok.frf⟩
section
variable {s:Shared}
theorem Inv.wish (I:Inv X pins σ H s) (E:Value->Shared->Prop):Inv (X.wish E) pins σ H s:=⟨I.ok.wish E,I.os,I.bare,I.base,I.loc,I.cell,I.free,I.freeC,I.pin,I.hok,I.len⟩
theorem Inv.unwish (I:Inv (X.wish E) pins σ H s):Inv X pins σ H s:=⟨I.ok.unwish,I.os,I.bare,I.base,I.loc,I.cell,I.free,I.freeC,I.pin,I.hok,I.len⟩
theorem SP.unwish {D:yb6} {f:Flow} (h:SP (X.wish E) pins D f s'):SP X pins D f s':=by
 cases f with
 | next=>obtain ⟨σ',a,I,q⟩:=h; exact ⟨σ',a,I.unwish,q⟩
 | brk=>obtain ⟨σ',a,I,q⟩:=h; exact ⟨σ',a,I.unwish,q⟩
 | cont=>obtain ⟨σ',a,I,q⟩:=h; exact ⟨σ',a,I.unwish,q⟩
 | ret u=>obtain ⟨v,σ',a,I,r,q⟩:=h; exact ⟨v,σ',a,I.unwish,r,q⟩
theorem PE.nox {t:TE} (h:PE X.nox e t):PE X e t:=.mk fun a s σ H Q I d =>
 wpAny_mono (h a s σ H Q (I.wish _) d) (by rintro _ _ ⟨v,c,b,r,q⟩; exact ⟨v,c,b.unwish,r,q⟩) fun _ _ z=>False.elim z
theorem PT.nox {t:TT} (h:PT X.nox e t):PT X e t:=.mk fun a s σ H Q I d =>
 wpAny_mono (h a s σ H Q (I.wish _) d) (fun _ _ ⟨c,b,q⟩=>⟨c,b.unwish,q⟩) fun _ _ z=>False.elim z
theorem PSs.nox {st:List Stmt} {t:TS} (h:PSs X.nox st t):PSs X st t:=.mk fun a s σ H D I b =>
 wpAny_mono (h a s σ H D (I.wish _) b) (fun _ _ q=>q.unwish) fun _ _ z=>False.elim z
end
section
variable {st:Stmt} {u6:List Stmt} {t u:TS} {pos:Pos}
def yxo:TS:=fun D σ H=>D.nx σ H
def yts (t u:TS):TS:=fun D σ H=>t { D with nx:=u D } σ H
theorem y8:PSs X [] yxo:=.mk fun _ _ σ H _ I h=>wpAny_execs_nil ⟨σ,H,I,h⟩
theorem yj (h1:PS X st t) (h2:PSs X u6 u):PSs X (st :: u6) (yts t u):=by
 refine .mk fun a s σ H D I h=>?_
 refine wpAny_execs_cons (thn (h1 a s σ H { D with nx:=u D } I h) fun f d q=>?_)
 cases f with
 | next =>
  obtain ⟨σ',c,b,q⟩:=q
  exact h2 a d σ' c D b q
 | ret v=>exact q
 | brk=>exact q
 | cont=>exact q
theorem yf (h1:PS X st t):PSs X [st] t:=by
 refine .mk fun a s σ H D I h=>?_
 refine wpAny_execs_cons (thn (h1 a s σ H D I h) fun f b q=>?_)
 cases f with
 | next=>exact wpAny_execs_nil q
 | ret v=>exact q
 | brk=>exact q
 | cont=>exact q
theorem Inv.quiet {s:Shared} (I:Inv X pins σ H s):interactive X.env=false:=by simp [interactive,I.ok.kind]
def yrx (te:TE):TS:=fun D σ H=>te σ H fun _ H1=>D.nx σ H1
theorem ve (he:PE X e te) (hs:swapsWith e none pos.line X.env=pure false:=by rfl):PS X (.Expr e pos) (yrx te):=by
 refine .mk fun a s σ H D I h=>?_
 exact wpAny_Expr_any (thn (he a s σ H _ I h) fun v g ⟨x,d,c,f,b⟩=>⟨σ,d,c,b⟩) I.quiet hs
def vam (te:TE):TS:=fun D σ H=>te σ H D.rt
theorem yv (he:PE X e te):PS X (.Return (some e) pos) (vam te):=by
 refine .mk fun a s σ H D I h=>?_
 exact wpAny_Return_some (thn (he a s σ H _ I h) fun v g ⟨x,f,d,b,c⟩=>⟨x,σ,f,d,b,c⟩)
def yy7:TS:=fun D _ H=>D.rt .non H
def va8 (c:TT) (t u:TS):TS:=fun D σ H=>c σ H fun b H1=>if b=true then t D σ H1 else u D σ H1
theorem v9 {c:Expr} {a b:List Stmt} {tc:TT} (hc:PT X c tc) (ha:PSs X a t) (hb:PSs X b u):PS X (.If c a b pos) (va8 tc t u):=by
 refine .mk fun e s σ H D I h=>?_
 refine wpAny_If (thn (hc e s σ H _ I h) fun d j ⟨i,g,f⟩=>?_)
 cases d with
 | true=>exact ha e j σ i D g f
 | false=>exact hb e j σ i D g f
def yvn:TS:=fun _ _ _=>False
theorem ymo:PS X st yvn:=.mk fun _ _ _ _ _ _ h=>h.elim
end
abbrev TG:=V->St->Hp->(St->Hp->Prop)->Prop
abbrev TGs:=List V->St->Hp->(St->Hp->Prop)->Prop
def PG (X:Cx) (target:Expr) (t:TG):Prop :=
 ∀ (pins:List (Addr × Obj)) (s:Shared) (σ:St) (H:Hp) (v:V) (u:Value) (Q:St->Hp->Prop),Inv X pins σ H s->wz v u->t v σ H Q ->
  wpAny (model X.prog X.w) X.A (assign target X.env u) (fun _ s'=>∃ σ' H',Inv X pins σ' H' s'/\Q σ' H') X.xe s
def PGs (X:Cx) (ts:List Expr) (t:TGs):Prop :=
 ∀ (pins:List (Addr × Obj)) (s:Shared) (σ:St) (H:Hp) (vs:List V) (us:List Value) (Q:St->Hp->Prop),Inv X pins σ H s->wk vs us->t vs σ H Q ->
  wpAny (model X.prog X.w) X.A (assignInOrder ((assignEach ts X.env).map (·.2)) us) (fun _ s'=>∃ σ' H',Inv X pins σ' H' s'/\Q σ' H') X.xe s
abbrev yx9:=V->V->V->Hp->(Hp->Prop)->Prop
def vay (X:Cx) (t:yx9):Prop :=
 ∀ (pins:List (Addr × Obj)) (s:Shared) (σ:St) (H:Hp) (o i v:V) (ov iv u:Value) (Q:Hp->Prop),Inv X pins σ H s->wz o ov->wz i iv->wz v u->t o i v H Q ->
  wpAny (model X.prog X.w) X.A (setItem ov iv u) (fun _ s'=>∃ H',Inv X pins σ H' s'/\Q H') X.xe s
section
variable {pos:Pos}
def vn (i:Nat):TG:=fun v σ H Q=>Q (σ.set i (some v)) H
theorem v6 (hN:X.N.Nodup) (hi:X.N[i]?=some x) (hx:Loc X.env.scope x) (hf:X.fn x=true\/X.env.scope.names.lookup x=some .local:=by first | exact .inl rfl | exact .inr rfl | assumption):PG X (.Name x pos) (vn i):=by
 intro a s σ H v u Q I r h
 exact wpAny_assign_Name (jv I hN hi hx r (fun c b=>⟨_,H,b,h⟩) hf)
def yi1:TGs:=fun vs σ H Q=>vs=[]/\Q σ H
def xu (t:TG) (u:TGs):TGs:=fun vs σ H Q=>∃ v r,vs=v :: r/\t v σ H fun σ' H'=>u r σ' H' Q
theorem zq:PGs X [] yi1:=by
 intro a s σ H b c Q I r h
 obtain ⟨e,h⟩:=h
 subst e
 cases r
 exact assignInOrder_nil ⟨σ,H,I,h⟩
theorem we {t:TG} {u:TGs} (h1:PG X e t) (h2:PGs X es u)
  (hs:(assignEach (e :: es) X.env).map (·.2)=assign e X.env :: (assignEach es X.env).map (·.2):=by rfl):PGs X (e :: es) (xu t u):=by
 intro a s σ H i k Q I r h
 obtain ⟨v,j,g,h⟩:=h
 subst g
 cases r with
 | cons r rr =>
  rw [hs]
  refine assignInOrder_cons (thn (h1 a s σ H _ _ _ I r h) fun _ f ⟨σ1,c,d,b⟩=>?_)
  exact h2 a f σ1 c _ _ Q d rr b
def ypf (K:W.Frag) (n:Nat) (t:TGs):TG:=fun v σ H Q=>∃ a xs,v=.ref a/\SqT K H a xs/\xs.length=n/\t xs σ H Q
theorem yas {k:Nat} {t:TGs} {n:Nat} (hc:X.calm=true) (h:PGs X es t)
  (hn:(assignEach es X.env).length=n:=by rfl) (hst:(assignEach es X.env).findIdx? (·.1)=none:=by rfl):PG X (.Tuple es k pos) (ypf X.K n t):=by
 intro c s σ H v u Q I r d
 obtain ⟨a,i,x,p,m,d⟩:=d
 subst x
 cases r
 obtain ⟨q,f,g,y⟩:=I.tuple p
 refine assign_Tuple_tuple (I.ok.hd hc) g (by simp [hn,<- m,f.length]) hst fun j w=>?_
 have l:Inv X c σ H { s with heap:=j }:=I.kept (t':=s.toks) fun b o e=>w b o (Nat.ne_of_lt (Heap.lt_size e)) e
 exact h c _ σ H i _ Q l (by simpa using f) d
def va6 (to ti:TE) (t:yx9):TG:=fun v σ H Q=>to σ H fun o H1=>ti σ H1 fun i H2=>t o i v H2 fun H3=>Q σ H3
theorem ywr {o i:Expr} {to ti:TE} {t:yx9} (ho:PE X o to) (hi:PE X i ti) (hs:vay X t)
  (ha:∀ v,assign (.Subscript o i pos) X.env v=(do
   let ov <- holding [v] (eval o X.env)
   let iv <- holding [v,ov] (eval i X.env)
   standAt pos
   holding [v,ov,iv] (setItem ov iv v)
   release [v,ov,iv] []):=by intro _; rfl):PG X (.Subscript o i pos) (va6 to ti t):=by
 intro a s σ H v u Q I r h
 rw [ha]
 refine wpAny_bind (wpAny_holding (thn (ho a s σ H _ I h) fun ov q h'=>?_))
 obtain ⟨x,l,j,d,g⟩:=h'
 refine wpAny_bind (wpAny_holding (thn (hi a q σ l _ j g) fun iv c h'=>?_))
 obtain ⟨y,p,e,b,n⟩:=h'
 refine wpAny_bind (wpAny_standAt (wpAny_bind (wpAny_holding (thn (hs a c σ p x y v ov iv u _ e d b r n) fun _ w ⟨f,k,m⟩=>?_))))
 exact wpAny_release ⟨σ,f,k,m⟩
def ypl (te:TE) (g:TG):TS:=fun D σ H=>te σ H fun x H1=>g x σ H1 D.nx
theorem yoq {g:TG} (he:PE X e te) (hg:PG X tg g) (hs:swapsWithSole [tg] e pos.line X.env=pure false:=by rfl) (hw:swappedStores [tg] e X.env=pure none:=by rfl)
  (h1:(assignEach [tg] X.env).map (·.2)=[assign tg X.env]:=by rfl):PS X (.Assign [tg] e pos) (ypl te g):=by
 refine .mk fun a s σ H D I h=>?_
 refine wpAny_Assign_stores (thn (he a s σ H _ I h) fun v i h'=>?_) hs hw
 obtain ⟨x,f,d,b,c⟩:=h'
 rw [h1]
 exact thn (hg a i σ f x v _ d b c) fun _ j q=>q
theorem vc {pos':Pos} (hN:X.N.Nodup) (hi:X.N[i]?=some x) (hx:Loc X.env.scope x) (he:PE X e te) (hs:swapsWith e (some (.Name x pos')) pos.line X.env=pure false:=by rfl) (hf:X.fn x=true\/X.env.scope.names.lookup x=some .local:=by first | exact .inl rfl | exact .inr rfl | assumption) :
  PS X (.Assign [.Name x pos'] e pos) (ypl te (vn i)):=by
 refine .mk fun a s σ H D I h=>?_
 refine wpAny_Assign_Name (thn (he a s σ H _ I h) fun v k h'=>?_) hs
 obtain ⟨y,g,f,b,d⟩:=h'
 exact jv f hN hi hx b (fun j c=>⟨_,g,c,d⟩) hf
end
structure It where
 go:Nat->Hp->Prop
 yld:Nat->Hp->V->Hp->Prop
 stop:Nat->Hp->Prop
def yc1 (X:Cx) (pins:List (Addr × Obj)) (H:Hp) (b:Addr):Prop :=
 H b=none/\b≠X.env.locals/\b∉X.fs/\(b∈X.ex\/X.s₀.heap.objs.size <= b)/\(∀ x c,X.env.cells.lookup x=some c->c≠b)/\∀ p∈X.pn++pins,p.1≠b
theorem Inv.fpOk {s:Shared} {b:Addr} (I:Inv X pins σ H s) (hb:s.heap.objs.size <= b) (hn:H' b=none):yc1 X pins H' b:=by
 refine ⟨hn,Nat.ne_of_gt (Nat.lt_of_lt_of_le I.lt hb),I.nofs hb,.inr (Nat.le_trans I.sz hb),fun x c e z=>?_,fun p a z=>?_⟩
 ·obtain ⟨v,q⟩:=I.cell x c e
  exact absurd (Nat.lt_of_lt_of_le q.lt (by rw [z]; exact hb)) (Nat.lt_irrefl _)
 ·exact absurd (Nat.lt_of_lt_of_le (Heap.lt_size (I.pin p a).1) (by rw [z]; exact hb)) (Nat.lt_irrefl _)
structure ylq (P:Program) (w:World) (K:W.Frag) (tg:Expr) (J:It) (fp:List Addr) (it:Addr) (tn:Nat->Heap->Prop):Prop where
 mem:it∈fp
 obj:∀ i h,tn i h->∀ b∈fp,∃ o,h.get? b=some o/\∀ v,o.data≠.cell v
 keep:∀ i h h',tn i h->(∀ b∈fp,∀ o,h.get? b=some o->h'.get? b=some o)->tn i h'
 item:∀ (X:Cx),X.prog=P->X.w=w->X.K=K->X.calm=true->∀ (i:Nat) (pins:List (Addr × Obj)) (s:Shared) (σ:St) (H:Hp) (E:Value->Shared->Prop),Inv X pins σ H s->(∀ b∈fp,yc1 X pins H b)->tn i s.heap->J.go i H ->
  wpAny (model P w) X.A (pyNext (.ref it)) (fun r s1=>∃ u,r=some u /\
   wpAny (model P w) X.A (letOwnedTupleGo tg (.ref it) u) (fun _ s2=>∃ x H',Inv X pins σ H' s2/\wz x u/\J.yld i H x H'/\tn (i+1) s2.heap/\∀ b∈fp,H' b=none) E s1) E s
 done:∀ (X:Cx),X.prog=P->X.w=w->X.K=K->X.calm=true->∀ (i:Nat) (pins:List (Addr × Obj)) (s:Shared) (σ:St) (H:Hp) (E:Value->Shared->Prop),Inv X pins σ H s->(∀ b∈fp,yc1 X pins H b)->tn i s.heap->J.stop i H ->
  wpAny (model P w) X.A (pyNext (.ref it)) (fun r s1=>r=none/\Inv X pins σ H s1) E s
 self:∀ (A:Around) (i:Nat) (s:Shared) (Q:Value->Shared->Prop) (E:Value->Shared->Prop),tn i s.heap->Q (.ref it) s->wpAny (model P w) A (pyIter (.ref it)) Q E s
abbrev TI:=St->Hp->(It->Hp->Prop)->Prop
def PIE (X:Cx) (pins:List (Addr × Obj)) (σ:St) (tg:Expr) (R:It->Hp->Prop) (itv:Value) (s2:Shared):Prop :=
 ∃ (it:Addr) (fp:List Addr) (tn:Nat->Heap->Prop) (J:It) (H':Hp),itv=.ref it/\Inv X pins σ H' s2/\ylq X.prog X.w X.K tg J fp it tn/\tn 0 s2.heap/\(∀ b∈fp,yc1 X pins H' b)/\R J H'
def PI (X:Cx) (tg iter:Expr) (wi:TI):Prop :=
 ∀ (pins:List (Addr × Obj)) (s:Shared) (σ:St) (H:Hp) (R:It->Hp->Prop),Inv X pins σ H s->wi σ H R ->
  wpAny (model X.prog X.w) X.A (eval iter X.env) (fun v s1=>wpAny (model X.prog X.w) X.A (pyIter v) (PIE X pins σ tg R) X.xe s1) X.xe s
theorem yr4 {A:Around} {s:Shared} {it:Addr} {o:Obj} {n:String} {vs:Array Value} {Q:Unit->Shared->Prop} (ho:s.heap.get? it=some o) (hc:o.cls=.type n) (hd:o.data=.fields vs)
  (hn:["enumerate","zip","dict_itemiterator","dict_reverseitemiterator","odict_iterator","itertools.zip_longest","itertools.pairwise"].contains n=false) (hQ:Q () s):wpAny M A (letOwnedTupleGo tg (.ref it) u) Q E s:=by
 unfold letOwnedTupleGo
 cases tg <;> first
  | exact wpAny_pure hQ
  | (cases u <;> first
    | exact wpAny_pure hQ
    | (refine wpAny_bind (wpAny_load ho ?_)
       rw [hc,hd]
       show wpAny M A (if (["enumerate","zip","dict_itemiterator","dict_reverseitemiterator","odict_iterator","itertools.zip_longest","itertools.pairwise"].contains n && vs[0]? == some (rawInt _))=true then _ else _) Q E s
       rw [if_neg (by intro h; rw [hn,Bool.false_and] at h; cases h)]
       exact wpAny_pure hQ))
def Itl (K:W.Frag) (a:Addr):It :=
 ⟨fun i H=>∃ xs x,SqL K H a xs/\xs[i]?=some x,fun i H x H'=>H'=H/\∀ xs,SqL K H a xs->xs[i]?=some x,fun i H=>∃ xs,SqL K H a xs/\xs.length <= i⟩
def Itt (K:W.Frag) (a:Addr):It :=
 ⟨fun i H=>∃ xs x,SqT K H a xs/\xs[i]?=some x,fun i H x H'=>H'=H/\∀ xs,SqT K H a xs->xs[i]?=some x,fun i H=>∃ xs,SqT K H a xs/\xs.length <= i⟩
def Itr (lo:Int) (n:Nat):It:=⟨fun i _=>i < n,fun i H x H'=>H'=H/\x=.int (lo+i),fun i _=>n <= i⟩
theorem yj3 {w:World} {K:W.Frag} (a it:Addr):ylq P w K tg (Itl K a) [it] it (fun i h=>h.IsListIter it a i) where
 mem:=by simp
 obj:=fun i h f b j=>by
  have e:b=it:=by simpa using j
  subst e
  obtain ⟨o,e,c,d⟩:=f
  exact ⟨o,e,fun v z=>by rw [d] at z; cases z⟩
 keep:=fun i h n f k=>f.at fun o e=>k it (by simp) o e
 item:=by
  intro X M r D N i g s σ H E I m f B
  subst M r D
  obtain ⟨Y,x,q,L⟩:=B
  obtain ⟨t,G,p,R⟩:=I.list q
  obtain ⟨u,hu,U⟩:=G.get L
  obtain ⟨J,F,T,A,y,C⟩:=m it (by simp)
  refine wpAny_pyNext_list_item f p.isList (x:=u) (by simpa using hu) fun n l O=>?_
  have Q:Inv X g σ H { s with heap:=n }:=I.turned (t':=s.toks) (fun b o j e=>(O.2 b j).trans e) J F A y C
  obtain ⟨o,e,c,d⟩:=id l
  exact ⟨u,rfl,yr4 (s:={ s with heap:=n }) e c d (by decide) ⟨x,H,Q,U,⟨rfl,fun ys S=>by rw [I.list_inj S q]; exact L⟩,l,fun b j=>(m b j).1⟩⟩
 done:=by
  intro X M r D N i g s σ H E I m f B
  subst M r D
  obtain ⟨Y,q,L⟩:=B
  obtain ⟨t,G,p,R⟩:=I.list q
  obtain ⟨J,F,T,A,y,C⟩:=m it (by simp)
  have hl:=G.length
  exact wpAny_pyNext_list_end (I.ok.hd N) f p.isList (by simp; omega) fun n Z=>⟨rfl,I.turned (t':=s.toks) (fun b o j e=>Z b o j e) J F A y C⟩
 self:=fun _ _ _ _ _ f h=>wpAny_pyIter_listiter f h
theorem yim {w:World} {K:W.Frag} (a it:Addr):ylq P w K tg (Itt K a) [it] it (fun i h=>h.IsTupleIter it a i) where
 mem:=by simp
 obj:=fun i h f b l=>by
  have e:b=it:=by simpa using l
  subst e
  obtain ⟨o,e,c,d⟩:=f
  exact ⟨o,e,fun v z=>by rw [d] at z; cases z⟩
 keep:=fun i h q f k=>f.at fun o e=>k it (by simp) o e
 item:=by
  intro X M t D N i g s σ H E I n f B
  subst M t D
  obtain ⟨Y,x,r,L⟩:=B
  obtain ⟨j,G,p,R⟩:=I.tuple r
  obtain ⟨u,hu,U⟩:=G.get L
  obtain ⟨J,F,T,A,y,C⟩:=n it (by simp)
  refine wpAny_pyNext_tuple_item f (show s.heap.IsTuple a j.toArray from p) (x:=u) (by simpa using hu) fun q m O=>?_
  have Q:Inv X g σ H { s with heap:=q }:=I.turned (t':=s.toks) (fun b o l e=>(O.2 b l).trans e) J F A y C
  obtain ⟨o,e,c,d⟩:=id m
  exact ⟨u,rfl,yr4 (s:={ s with heap:=q }) e c d (by decide) ⟨x,H,Q,U,⟨rfl,fun ys S=>by rw [I.tuple_inj S r]; exact L⟩,m,fun b l=>(n b l).1⟩⟩
 done:=by
  intro X M t D N i g s σ H E I n f B
  subst M t D
  obtain ⟨Y,r,L⟩:=B
  obtain ⟨j,G,p,R⟩:=I.tuple r
  obtain ⟨J,F,T,A,y,C⟩:=n it (by simp)
  have hl:=G.length
  exact wpAny_pyNext_tuple_end (I.ok.hd N) f (show s.heap.IsTuple a j.toArray from p) (by simp; omega) fun q Z=>⟨rfl,I.turned (t':=s.toks) (fun b o l e=>Z b o l e) J F A y C⟩
 self:=fun _ _ _ _ _ f h=>wpAny_pyIter_tupleiter f h
theorem yib {w:World} {K:W.Frag} (it:Addr) (lo:Int) (n:Nat):ylq P w K tg (Itr lo n) [it] it (fun i h=>IsRangeIter h it (lo+(i:Nat) * 1) ((n:Int) - (i:Nat)) 1) where
 mem:=by simp
 obj:=fun i h a b d=>by
  have e:b=it:=by simpa using d
  subst e
  exact ⟨_,a,fun v z=>by
   have M:Data.fields _=Data.cell v:=z
   cases M⟩
 keep:=fun i h j a k=>k it (by simp) _ a
 item:=by
  intro X B l x r i c s σ H E I g a q
  subst B l x
  obtain ⟨A,y,F,p,m,u⟩:=g it (by simp)
  have W:=Walks.range (prog:=X.prog) (w:=X.w) (I.ok.hd r) it lo 1 n
  refine W.item i s _ _ q a fun v j C G f J=>?_
  obtain ⟨t,rfl⟩:=G
  have D:Inv X c σ H { s with heap:=j,toks:=C }:=I.turned (fun b o d e=>J b o (by simpa using d) e) A y p m u
  refine ⟨_,rfl,yr4 (s:={ s with heap:=j,toks:=C }) (n:="range_iterator") f rfl rfl (by decide) ⟨.int (lo+i),H,D,⟨t,?_⟩,⟨rfl,rfl⟩,f,fun b d=>(g b d).1⟩⟩
  rw [Int.mul_one]
 done:=by
  intro X B l x r i c s σ H E I g a q
  subst B l x
  obtain ⟨A,y,F,p,m,u⟩:=g it (by simp)
  exact wpAny_pyNext_range_end (I.ok.hd r) a (by have:n <= i:=q; omega) fun j L=>⟨rfl,I.turned (t':=s.toks) (fun b o d e=>L b o d e) A y p m u⟩
 self:=fun _ _ _ _ _ a h=>wpAny_pyIter_rangeiter a h
def yxy (K:W.Frag) (tl:TE):TI:=fun σ H R=>tl σ H fun x H1=>∃ a,x=.ref a/\(∃ xs,SqL K H1 a xs)/\R (Itl K a) H1
def vax (K:W.Frag) (tl:TE):TI:=fun σ H R=>tl σ H fun x H1=>∃ a,x=.ref a/\(∃ xs,SqT K H1 a xs)/\R (Itt K a) H1
theorem vz {l:Expr} {tl:TE} (hl:PE X l tl):PI X tg l (yxy X.K tl):=by
 intro c s σ H R I h
 refine thn (hl c s σ H _ I h) fun v f h'=>?_
 obtain ⟨x,k,d,i,j⟩:=h'
 obtain ⟨a,e,⟨r,m⟩,q⟩:=j
 subst e
 cases i
 obtain ⟨n,u,p,t⟩:=d.list m
 refine wpAny_pyIter_list p.isList ?_
 refine ⟨f.heap.objs.size,[f.heap.objs.size],_,_,k,rfl,d.kept (t':=f.toks) fun b o e=>Heap.get?_push_of_some _ e,yj3 a _,⟨_,Heap.get?_push_size _ rfl,rfl,rfl⟩,fun b g=>?_,q⟩
 have e:b=f.heap.objs.size:=by simpa using g
 subst e
 exact d.fpOk (Nat.le_refl _) (d.hok.fresh (Nat.le_refl _))
theorem yk8 {l:Expr} {tl:TE} (hl:PE X l tl):PI X tg l (vax X.K tl):=by
 intro c s σ H R I h
 refine thn (hl c s σ H _ I h) fun v d h'=>?_
 obtain ⟨x,m,f,j,k⟩:=h'
 obtain ⟨a,e,⟨r,n⟩,q⟩:=k
 subst e
 cases j
 obtain ⟨g,u,p,t⟩:=f.tuple n
 refine wpAny_pyIter_tuple (show d.heap.IsTuple a g.toArray from p) ?_
 refine ⟨d.heap.objs.size,[d.heap.objs.size],_,_,m,rfl,f.kept (t':=d.toks) fun b o e=>Heap.get?_push_of_some _ e,yim a _,⟨_,Heap.get?_push_size _ rfl,rfl,rfl⟩,fun b i=>?_,q⟩
 have e:b=d.heap.objs.size:=by simpa using i
 subst e
 exact f.fpOk (Nat.le_refl _) (f.hok.fresh (Nat.le_refl _))
theorem ymy {s:Shared} {R:It->Hp->Prop} {lo hi:Int} {t u v:Tok} {tk:Nat} (I:Inv X pins σ H s) (h1:-(2 ^ 62) <= lo) (h2:lo < 2 ^ 62) (h3:-(2 ^ 62) <= hi) (h4:hi < 2 ^ 62)
  (q:R (Itr lo (hi - lo).toNat) H):wpAny (model X.prog X.w) X.A (pyIter (.ref s.heap.objs.size)) (PIE X pins σ tg R) E { s with heap:=s.heap.push { cls:=.type "range",data:=.fields #[.int lo t,.int hi u,.int 1 v] },toks:=tk }:=by
 refine wpAny_pyIter_range (IsRange.new ..) (small_one h1 h2 h3 h4) ?_
 have a:Inv X pins σ H { s with heap:=s.heap.push { cls:=.type "range",data:=.fields #[.int lo t,.int hi u,.int 1 v] },toks:=tk }:=I.kept fun b o e=>Heap.get?_push_of_some _ e
 refine ⟨(s.heap.push { cls:=.type "range",data:=.fields #[.int lo t,.int hi u,.int 1 v] }).objs.size,[(s.heap.push { cls:=.type "range",data:=.fields #[.int lo t,.int hi u,.int 1 v] }).objs.size],_,_,H,rfl,
  a.kept (t':=tk) fun b o e=>Heap.get?_push_of_some _ e,yib _ lo (hi - lo).toNat,?_,fun b c=>?_,q⟩
 ·have f:lo+((0:Nat):Int) * 1=lo:=by simp
  have d:(((hi - lo).toNat:Nat):Int) - ((0:Nat):Int)=Builtin.Range.rangeSize lo hi 1:=by rw [rangeSize_one]; split <;> omega
  show IsRangeIter _ _ (lo+((0:Nat):Int) * 1) ((((hi - lo).toNat:Nat):Int) - ((0:Nat):Int)) 1
  rw [f,d]
  exact Heap.get?_push_size _ rfl
 ·have e:b=(s.heap.push { cls:=.type "range",data:=.fields #[.int lo t,.int hi u,.int 1 v] }).objs.size:=by simpa using c
  subst e
  exact a.fpOk (Nat.le_refl _) (a.hok.fresh (Nat.le_refl _))
def yxl (ta:TA):TI:=fun σ H R=>ta σ H fun vs H1=>∃ j:Int,vs=[.int j]/\-(2 ^ 62) <= j/\j < 2 ^ 62/\R (Itr 0 j.toNat) H1
def yzl (ta:TA):TI:=fun σ H R=>ta σ H fun vs H1=>∃ i j:Int,vs=[.int i,.int j]/\(-(2 ^ 62) <= i/\i < 2 ^ 62/\-(2 ^ 62) <= j/\j < 2 ^ 62)/\R (Itr i (j - i).toNat) H1
theorem ybp {a:Expr} {ta:TA} {pos:Pos} (hg:Gl X "range") (hm:X.mg "range"=none) (ha:PA X [a] ta) (hs:starEach [a] X.env=[(false,eval a X.env)]:=by rfl):PI X tg (.Call (.Name "range" p) [a] [] pos) (yxl ta):=by
 intro b s σ H R I h
 refine Call_ (ycy I hg hm boot_range (PyProof.Rows.callWith_type1 (thn (ha pos b s σ H _ I h) fun k m h'=>?_) hs rfl))
 obtain ⟨i,l,f,d,c⟩:=h'
 obtain ⟨j,e,c,g,q⟩:=c
 subst e
 cases d with
 | cons r rr =>
  cases rr
  obtain ⟨t,rfl⟩:=r
  exact call_range_1 (ymy f (by omega) (by omega) c g (by simpa using q))
def yz5 (wi:TI) (g:TG) (tb:TS):TS:=fun D σ H=>wi σ H fun J H1=>∃ W:Nat->Nat->St->Hp->Prop,(∃ m,W 0 m σ H1)/\∀ i m σ H,W i m σ H ->
 (J.stop i H/\D.nx σ H)\/(J.go i H/\∃ N:St->Hp->Prop,(∀ σ' H',N σ' H'->∃ m',m' < m/\W (i+1) m' σ' H')/\∀ x H',J.yld i H x H'->g x σ H' fun σ2 H2=>tb { D with nx:=N,ct:=N,bk:=D.nx } σ2 H2)
def yau (fp:List Addr) (h:Heap):List (Addr × Obj):=fp.filterMap fun b=>(h.get? b).map fun o=>(b,o)
theorem wl {h:Heap} {b:Addr} {o:Obj} (hb:b∈fp) (e:h.get? b=some o):(b,o)∈yau fp h:=List.mem_filterMap.mpr ⟨b,hb,by rw [e]; rfl⟩
theorem yjs {h:Heap} {p:Addr × Obj} (hp:p∈yau fp h):p.1∈fp/\h.get? p.1=some p.2:=by
 obtain ⟨b,c,e⟩:=List.mem_filterMap.mp hp
 cases q:h.get? b with
 | none=>rw [q] at e; cases e
 | some o =>
  rw [q] at e
  have a:(b,o)=p:=Option.some.inj e
  subst a
  exact ⟨c,q⟩
theorem Inv.pinned {s:Shared} (I:Inv X pins σ H s) (hf:∀ b∈fp,yc1 X pins H b) (ho:∀ b∈fp,∃ o,s.heap.get? b=some o/\∀ v,o.data≠.cell v):Inv X (pins++yau fp s.heap) σ H s :=
 I.pins_of fun p i=>(List.mem_append.mp i).elim (fun z=>I.pin p (List.mem_append_right _ z)) fun z=>by
  obtain ⟨a,e⟩:=yjs z
  obtain ⟨h,f,g,_⟩:=hf p.1 a
  obtain ⟨o,c,d⟩:=ho p.1 a
  rw [e] at c; cases c
  exact ⟨e,h,f,g,d⟩
theorem Inv.unpinned {pl:List (Addr × Obj)} {s:Shared} (I:Inv X (pins++pl) σ H s):Inv X pins σ H s:=I.pins_of fun p a=>I.pin p (List.mem_append_right _ (List.mem_append_left _ a))
theorem j6 {iter:Expr} {body:List Stmt} {wi:TI} {g:TG} {tb:TS} {pos:Pos} (hp:PassesOwn (model X.prog X.w) X.A X.env X.xe) (hc:X.calm=true) (hi:PI X tg iter wi) (hg:PG X tg g) (hb:PSs X body tb)
  (hs:∀ x,foldedSetIterable iter X.env x=pure x:=by intro _; rfl):PS X (.For tg iter body [] pos) (yz5 wi g tb):=by
 refine .mk fun a s σ H D I h=>?_
 refine wpAny_For (thn (hi a s σ H _ I h) fun v s1 h1=>thn h1 fun a0 s2 h2=>?_) hs
 obtain ⟨it,z,Z,J,H2,e,I2,T,O,R,W,⟨m0,w0⟩,B⟩:=h2
 subst e
 have c:∀ {H':Hp},(∀ b∈z,H' b=none)->∀ b∈z,yc1 X a H' b:=fun hn b hb=>⟨hn b hb,(R b hb).2⟩
 refine codeAny_forLoop_any (fun n s'=>∃ i σ' H',Inv X a σ' H' s'/\Z i s'.heap/\(∀ b∈z,H' b=none)/\W i n σ' H') ?_ m0 ⟨0,σ,H2,I2,O,fun b hb=>(R b hb).1,w0⟩
 rintro n Y ⟨i,σ3,G,S,C,y,w3⟩
 rcases B i n σ3 G w3 with ⟨t,qn⟩ | ⟨go,N,hN,F⟩
 ·refine wpAny_passesOwn hp (thn (T.done X rfl rfl rfl hc i a Y σ3 G X.xe S (c y) C t) fun r s4 ⟨P,I4⟩=>?_)
  subst P
  exact wpAny_execs_nil ⟨σ3,G,I4,qn⟩
 ·refine wpAny_passesOwn hp (thn (T.item X rfl rfl rfl hc i a Y σ3 G X.xe S (c y) C go) fun r s4 ⟨u,P,h4⟩=>?_)
  subst P
  refine wpAny_passesOwn hp (thn h4 fun _ Q h'=>?_)
  obtain ⟨x,U,I5,r5,y5,q,K⟩:=h'
  have L:=I5.pinned (c K) (T.obj _ _ q)
  refine wpAny_passesOwn hp (thn (hg _ Q σ3 U x u _ L r5 (F x U y5)) fun _ s6 ⟨σ6,H6,I6,q6⟩=>?_)
  refine wpAny_passesOwn hp (thn (hb _ s6 σ6 H6 _ I6 q6) fun f M p=>?_)
  have j:∀ {σ7:St} {k:Hp},Inv X (a++yau z Q.heap) σ7 k M->N σ7 k->∃ m,m < n/\∃ i σ' H',Inv X a σ' H' M/\Z i M.heap/\(∀ b∈z,H' b=none)/\W i m σ' H':=fun {σ7 k} l E=>by
   obtain ⟨m',hm,w7⟩:=hN σ7 k E
   refine ⟨m',hm,i+1,σ7,k,l.unpinned,T.keep _ _ _ q fun b hb o e=>(l.pin (b,o) (List.mem_append_right _ (List.mem_append_right _ (wl hb e)))).1,fun b hb=>?_,w7⟩
   obtain ⟨o,e,d⟩:=T.obj _ _ q b hb
   exact (l.pin (b,o) (List.mem_append_right _ (List.mem_append_right _ (wl hb e)))).2.1
  cases f with
  | next=>obtain ⟨σ7,k,l,E⟩:=p; exact j l E
  | cont=>obtain ⟨σ7,k,l,E⟩:=p; exact j l E
  | brk=>obtain ⟨σ7,k,l,p⟩:=p; exact ⟨σ7,k,l.unpinned,p⟩
  | ret v=>obtain ⟨x7,σ7,k,l,r7,p⟩:=p; exact ⟨x7,σ7,k,l.unpinned,r7,p⟩
theorem uo {K:W.Frag} {g:TG} {tb:TS} {D:yb6} (Pv:Nat->St->Hp->Prop) (h0:Pv 0 σ H) (hl:∀ i σ H,i <= xs.length->Pv i σ H->SqL K H a xs)
  (hs:∀ i x σ H,xs[i]?=some x->Pv i σ H->g x σ H fun σ2 H2=>tb { D with nx:=Pv (i+1),ct:=Pv (i+1),bk:=D.nx } σ2 H2) (hd:∀ σ H,Pv xs.length σ H->D.nx σ H) :
  ∃ W:Nat->Nat->St->Hp->Prop,(∃ m,W 0 m σ H)/\∀ i m σ H,W i m σ H ->
   ((Itl K a).stop i H/\D.nx σ H)\/((Itl K a).go i H/\∃ N:St->Hp->Prop,(∀ σ' H',N σ' H'->∃ m',m' < m/\W (i+1) m' σ' H')/\∀ x H',(Itl K a).yld i H x H'->g x σ H' fun σ2 H2=>tb { D with nx:=N,ct:=N,bk:=D.nx } σ2 H2):=by
 refine ⟨fun i m σ H=>m=xs.length - i/\i <= xs.length/\Pv i σ H,⟨xs.length,by simp,Nat.zero_le _,h0⟩,?_⟩
 rintro i m σ H ⟨rfl,c,p⟩
 have q:=hl i σ H c p
 by_cases hlt:i < xs.length
 ·refine .inr ⟨⟨xs,xs[i],q,by simp [hlt]⟩,Pv (i+1),fun σ' H' b=>⟨xs.length - (i+1),by omega,rfl,hlt,b⟩,fun x H' y=>?_⟩
  obtain ⟨e,y⟩:=y
  subst e
  exact hs i x σ _ (y xs q) p
 ·have e:i=xs.length:=by omega
  subst e
  exact .inl ⟨⟨xs,q,Nat.le_refl _⟩,hd σ H p⟩
abbrev R2:=V->V->Hp->VK->Prop
variable {r':R2}
def OpR (X:Cx) (f:Value->Value->Sem Value) (r:R2):Prop :=
 ∀ (pins:List (Addr × Obj)) (s:Shared) (σ:St) (H:Hp) (x y:V) (v u:Value) (Q:VK),Inv X pins σ H s->wz x v->wz y u->r x y H Q ->
  wpAny (model X.prog X.w) X.A (f v u) (EP X pins σ Q) X.xe s
def UnR (X:Cx) (f:Value->Sem Value) (r:V->Hp->VK->Prop):Prop :=
 ∀ (pins:List (Addr × Obj)) (s:Shared) (σ:St) (H:Hp) (x:V) (v:Value) (Q:VK),Inv X pins σ H s->wz x v->r x H Q ->
  wpAny (model X.prog X.w) X.A (f v) (EP X pins σ Q) X.xe s
def je (X:Cx) (f:Value) (r:List V->Hp->VK->Prop):Prop :=
 ∀ (pins:List (Addr × Obj)) (s:Shared) (σ:St) (H:Hp) (xs:List V) (us:List Value) (Q:VK),Inv X pins σ H s->wk xs us->r xs H Q ->
  wpAny (model X.prog X.w) X.A (call f us) (EP X pins σ Q) X.xe s
def tOp (r:R2) (ta tb:TE):TE:=fun σ H Q=>ta σ H fun x H1=>tb σ H1 fun y H2=>r x y H2 Q
def tUn (r:V->Hp->VK->Prop) (ta:TE):TE:=fun σ H Q=>ta σ H fun x H1=>r x H1 Q
def rI (C:Int->Int->Prop) (g:Int->Int->V):R2:=fun x y H Q=>∃ i j,x=.int i/\y=.int j/\C i j/\Q (g i j) H
def rI0 (g:Int->Int->V):R2:=fun x y H Q=>∃ i j,x=.int i/\y=.int j/\Q (g i j) H
def rU (g:Int->V):V->Hp->VK->Prop:=fun x H Q=>∃ i,x=.int i/\Q (g i) H
section
variable {a b c:Expr} {tb tc:TE} {pos:Pos}
theorem vah (ha:PE X a ta) (hb:PE X b tb) {s:Shared} {R:V->V->Hp->Prop} (I:Inv X pins σ H s)
  (h:ta σ H fun x H1=>tb σ H1 fun y H2=>R x y H2) {Q:Value->Shared->Prop} {f:Value->Value->Sem Value}
  (hf:∀ v u s2 x y H2,Inv X pins σ H2 s2->wz x v->wz y u->R x y H2->wpAny (model X.prog X.w) X.A (f v u) Q X.xe s2) :
  wpAny (model X.prog X.w) X.A (eval a X.env) (fun v s₁=>wpAny (model X.prog X.w) X.A (eval b X.env) (fun u s₂=>wpAny (model X.prog X.w) X.A (f v u) Q X.xe s₂) X.xe s₁) X.xe s:=by
 refine thn (ha pins s σ H _ I h) fun v k h'=>?_
 obtain ⟨x,H1,i,d,g⟩:=h'
 refine thn (hb pins k σ H1 _ i g) fun u s2 h'=>?_
 obtain ⟨y,H2,e,c,j⟩:=h'
 exact hf v u s2 x y H2 e d c j
theorem yu {op:Operator} {r:R2} (ho:OpR X (binaryOp op) r) (ha:PE X a ta) (hb:PE X b tb):PE X (.BinOp a op b pos) (tOp r ta tb):=by
 refine .mk fun c s σ H Q I h=>?_
 exact wpAny_BinOp (vah ha hb I h fun v u f x y i e d g q=>ho c f σ i x y v u Q e d g q)
theorem yte {op:UnaryOp} {r:V->Hp->VK->Prop} (ho:UnR X (unaryOp op) r) (ha:PE X a ta):PE X (.UnaryOp op a pos) (tUn r ta):=by
 refine .mk fun b s σ H Q I h=>?_
 exact UnaryOp_ (thn (ha b s σ H _ I h) fun v g ⟨x,f,e,c,d⟩=>ho b g σ f x v Q e c d)
theorem opI {C:Int->Int->Prop} {g:Int->Int->Int}
  (rule:∀ (i j:Int) (t u:Tok) (s:Shared) (Q:Value->Shared->Prop) (E:Value->Shared->Prop),C i j->Q (.int (g i j) s.toks) { s with toks:=s.toks+1 }->wpAny (model X.prog X.w) X.A (f (.int i t) (.int j u)) Q E s) :
  OpR X f (rI C fun i j=>.int (g i j)):=by
 intro a s σ H x y v u Q I d e h
 obtain ⟨i,j,rfl,rfl,c,q⟩:=h
 obtain ⟨t,rfl⟩:=d
 obtain ⟨b,rfl⟩:=e
 exact rule i j t b s _ _ c ⟨.int (g i j),H,I.tok _,⟨_,rfl⟩,q⟩
theorem yz8 {g:Int->Int->Int}
  (rule:∀ (i j:Int) (t u:Tok) (s:Shared) (Q:Value->Shared->Prop) (E:Value->Shared->Prop),Q (.int (g i j) s.toks) { s with toks:=s.toks+1 }->wpAny (model X.prog X.w) X.A (f (.int i t) (.int j u)) Q E s) :
  OpR X f (rI0 fun i j=>.int (g i j)):=by
 intro a s σ H x y v u Q I d b h
 obtain ⟨i,j,rfl,rfl,q⟩:=h
 obtain ⟨t,rfl⟩:=d
 obtain ⟨c,rfl⟩:=b
 exact rule i j t c s _ _ ⟨.int (g i j),H,I.tok _,⟨_,rfl⟩,q⟩
theorem yx8 {g:Int->Int->Bool}
  (rule:∀ (i j:Int) (t u:Tok) (s:Shared) (Q:Value->Shared->Prop) (E:Value->Shared->Prop),Q (.bool (g i j)) s->wpAny (model X.prog X.w) X.A (f (.int i t) (.int j u)) Q E s) :
  OpR X f (rI0 fun i j=>.bl (g i j)):=by
 intro a s σ H x y v u Q I d b h
 obtain ⟨i,j,rfl,rfl,q⟩:=h
 obtain ⟨t,rfl⟩:=d
 obtain ⟨c,rfl⟩:=b
 exact rule i j t c s _ _ ⟨.bl (g i j),H,I,rfl,q⟩
def yx3 (i j:Int):Prop:=0 <= j/\j <= 1000000/\i.natAbs < 2 ^ 64
def vad (i j:Int):Prop:=(-(2 ^ 64) < i/\i < 2 ^ 64)\/(-(2 ^ 64) < j/\j < 2 ^ 64)
theorem vad.ok {i j:Int} (h:vad i j):IntMulOk i j:=by
 rcases h with ⟨b,a⟩ | ⟨b,a⟩
 ·exact .of_left (intBits_le_64 b a)
 ·exact .of_right (intBits_le_64 b a)
theorem yip (k:Nat):(0:Int) <= 2 ^ k:=by
 rw [two_pow_cast]
 exact Int.natCast_nonneg _
theorem w6:OpR X (binaryOp .Add) (rI0 fun i j=>.int (i+j)):=yz8 fun _ _ _ _ _ _ _ q=>add_int q
theorem zv:OpR X (binaryOp .Sub) (rI0 fun i j=>.int (i - j)):=yz8 fun _ _ _ _ _ _ _ q=>sub_int q
theorem u4:OpR X (binaryOp .Mult) (rI vad fun i j=>.int (i * j)):=opI fun _ _ _ _ _ _ _ a q=>mul_int q a.ok
theorem wg:OpR X (binaryOp .Mod) (rI (fun _ j=>0 < j) fun i j=>.int (i % j)):=opI fun i j _ _ _ _ _ a q=>by
 have b:(0:Int) < j:=a
 exact mod_int' (by omega) (by rw [Int.fmod_eq_emod_of_nonneg i (by omega)]; exact q)
theorem yv5:OpR X (binaryOp .Pow) (rI yx3 fun i j=>.int (i ^ j.toNat)):=opI fun _ _ _ _ _ _ _ a q=>pow_int_small a.1 a.2.1 a.2.2 q
theorem yny:OpR X (binaryOp .RShift) (rI (fun _ j=>0 <= j) fun i j=>.int (i / 2 ^ j.toNat)):=opI fun i j _ _ _ _ _ a q =>
 rshift_int a (by rw [Int.fdiv_eq_ediv_of_nonneg i (yip _)]; exact q)
theorem yvk:OpR X (binaryOp .BitAnd) (rI0 fun i j=>.int (Builtin.bitAnd i j)):=yz8 fun _ _ _ _ _ _ _ q=>and_int q
theorem unI {f:Value->Sem Value} {g:Int->Int}
  (rule:∀ (i:Int) (t:Tok) (s:Shared) (Q:Value->Shared->Prop) (E:Value->Shared->Prop),Q (.int (g i) s.toks) { s with toks:=s.toks+1 }->wpAny (model X.prog X.w) X.A (f (.int i t)) Q E s) :
  UnR X f (rU fun i=>.int (g i)):=by
 intro a s σ H x v Q I b h
 obtain ⟨i,rfl,q⟩:=h
 obtain ⟨t,rfl⟩:=b
 exact rule i t s _ _ ⟨.int (g i),H,I.tok _,⟨_,rfl⟩,q⟩
theorem yk9:UnR X (unaryOp .USub) (rU fun i=>.int (-i)):=unI fun _ _ _ _ _ q=>neg_int q
end
def vao:V->V->Bool
 | .non,.non=>true | .non,.int _=>true | .int _,.non=>true | .non,.bl _=>true | .bl _,.non=>true | .non,.str _=>true | .str _,.non=>true
 | .int _,.int _=>true | .bl _,.bl _=>true | .str _,.str _=>true | .byt _,.byt _=>true
 | .int _,.str _=>true | .str _,.int _=>true | .bl _,.str _=>true | .str _,.bl _=>true
 | _,_=>false
def rEq:R2:=fun x y H Q=>vao x y=true/\Q (.bl (decide (x=y))) H
def rNe:R2:=fun x y H Q=>vao x y=true/\Q (.bl (!decide (x=y))) H
theorem yra {i j:Int}:decide (V.int i=V.int j)=(i == j):=by
 rw [Bool.eq_iff_iff]
 simp
theorem yvx {i j:Bool}:decide (V.bl i=V.bl j)=(i == j):=by
 rw [Bool.eq_iff_iff]
 simp
theorem yrp {i j:Str}:decide (V.str i=V.str j)=(i == j):=by
 rw [Bool.eq_iff_iff]
 simp
theorem yqv {i j:Array UInt8}:decide (V.byt i=V.byt j)=(i.toList == j.toList):=by
 rw [Bool.eq_iff_iff]
 cases i
 cases j
 simp
section
variable {a b c:Expr} {tb tc:TE} {pos:Pos}
theorem ue {s:Shared} {Q:VK} {k k':Bool} (I:Inv X pins σ H s) (q:Q (.bl k) H) (e:k=k'):EP X pins σ Q (.bool k') s:=by
 subst e
 exact ⟨.bl k,H,I,rfl,q⟩
theorem ub:OpR X (compareOp .Eq) rEq:=by
 intro e s σ H x y v u Q I d a h
 obtain ⟨c,q⟩:=h
 cases x with
 | non =>
  cases d
  cases y with
  | non=>cases a; exact PySem.EqNone.eq_none_none (ue I q (by simp))
  | bl j=>cases a; exact PySem.EqNone.eq_none_bool (ue I q (by simp))
  | int j=>obtain ⟨b,rfl⟩:=a; exact PySem.EqNone.eq_none_int (ue I q (by simp))
  | str j=>obtain ⟨b,rfl⟩:=a; exact PySem.EqNone.eq_none_str (ue I q (by simp))
  | _=>exact absurd (show false=true from c) Bool.false_ne_true
 | bl i =>
  cases d
  cases y with
  | non=>cases a; exact PySem.EqNone.eq_bool_none (ue I q (by simp))
  | bl j=>cases a; exact eq_bool (ue I q yvx)
  | str j=>obtain ⟨b,rfl⟩:=a; exact PySem.EqMixed.eq_bool_str (ue I q (by simp))
  | _=>exact absurd (show false=true from c) Bool.false_ne_true
 | int i =>
  obtain ⟨t,rfl⟩:=d
  cases y with
  | non=>cases a; exact PySem.EqNone.eq_int_none (ue I q (by simp))
  | int j=>obtain ⟨b,rfl⟩:=a; exact eq_int (ue I q yra)
  | str j=>obtain ⟨b,rfl⟩:=a; exact PySem.EqMixed.eq_int_str (ue I q (by simp))
  | _=>exact absurd (show false=true from c) Bool.false_ne_true
 | str i =>
  obtain ⟨t,rfl⟩:=d
  cases y with
  | non=>cases a; exact PySem.EqNone.eq_str_none (ue I q (by simp))
  | bl j=>cases a; exact PySem.EqMixed.eq_str_bool (ue I q (by simp))
  | int j=>obtain ⟨b,rfl⟩:=a; exact PySem.EqMixed.eq_str_int (ue I q (by simp))
  | str j=>obtain ⟨b,rfl⟩:=a; exact eq_str (ue I q yrp)
  | _=>exact absurd (show false=true from c) Bool.false_ne_true
 | byt i =>
  obtain ⟨t,rfl⟩:=d
  cases y with
  | byt j=>obtain ⟨b,rfl⟩:=a; exact W.eq_bytes (ue I q yqv)
  | _=>exact absurd (show false=true from c) Bool.false_ne_true
 | _=>cases y <;> exact absurd (show false=true from c) Bool.false_ne_true
theorem ylk:OpR X (compareOp .Lt) (rI0 fun i j=>.bl (decide (i < j))):=yx8 fun _ _ _ _ _ _ _ q=>lt_int q
theorem j7:OpR X (compareOp .LtE) (rI0 fun i j=>.bl (decide (i <= j))):=yx8 fun _ _ _ _ _ _ _ q=>le_int q
theorem ynf:OpR X (compareOp .Gt) (rI0 fun i j=>.bl (decide (j < i))):=yx8 fun _ _ _ _ _ _ _ q=>gt_int q
theorem yyw:OpR X (compareOp .GtE) (rI0 fun i j=>.bl (decide (j <= i))):=yx8 fun _ _ _ _ _ _ _ q=>ge_int q
theorem yh4:OpR X (compareOp .Is) (fun x y H Q=>y=.non/\Q (.bl (decide (x=.non))) H):=by
 intro a s σ H x y v u Q I b c h
 obtain ⟨rfl,q⟩:=h
 cases c
 refine is_none_gen (ue I q ?_)
 cases x <;> first
  | (cases b; rfl)
  | (obtain ⟨t,rfl⟩:=b; rfl)
theorem OpR.or {r:R2} (h:OpR X f r) (h':OpR X f r'):OpR X f (fun x y H Q=>r x y H Q\/r' x y H Q):=by
 intro a s σ H x y v u Q I c b q
 rcases q with q | q
 ·exact h a s σ H x y v u Q I c b q
 ·exact h' a s σ H x y v u Q I c b q
theorem vg (b:Expr) (h:op≠.In:=by decide) (h2:op≠.NotIn:=by decide):behindInMarks op b=false:=by
 have c:(op == CmpOp.In)=false:=by cases op <;> first | rfl | exact absurd rfl h
 have a:(op == CmpOp.NotIn)=false:=by cases op <;> first | rfl | exact absurd rfl h2
 cases b <;> simp [behindInMarks,c,a]
theorem jo {r:R2} (ho:OpR X (compareOp op) r) (ha:PE X a ta) (hb:PE X b tb) (hm:behindInMarks op b=false):PE X (.Compare a [op] [b] pos) (tOp r ta tb):=by
 refine .mk fun c s σ H Q I h=>?_
 exact wpAny_Compare1 (vah ha hb I h fun v u f x y i e d g q=>ho c f σ i x y v u Q e d g q) hm
def yrw (t:TE):TT:=fun σ H Q=>t σ H fun x H'=>∃ k,x=.bl k/\Q k H'
theorem yx {r:R2} (ho:OpR X (compareOp op) r) (ha:PE X a ta) (hb:PE X b tb) (hm:behindInMarks op b=false):PT X (.Compare a [op] [b] pos) (yrw (tOp r ta tb)):=by
 refine .mk fun d s σ H Q I h=>?_
 refine wpAny_isTrue_Compare1 (thn (ha d s σ H _ I h) fun v B ⟨x,q,o,j,n⟩=>thn (hb d B σ q _ o n) fun u g ⟨y,A,l,f,w⟩ =>
  thn (ho d g σ A x y v u _ l j f w) fun c C ⟨z,m,p,i,k,e,t⟩=>?_) hm
 subst e
 cases i
 exact wpAny_truthy_bool ⟨m,p,t⟩
def yk3 (r r':R2) (ta tb tc:TE):TE:=fun σ H Q=>ta σ H fun x H1=>tb σ H1 fun y H2=>r x y H2 fun z H3=>∃ k,z=.bl k /\
 (if k=true then tc σ H3 fun w' H4=>r' y w' H4 Q else Q (.bl false) H3)
theorem ya6 {op':CmpOp} {r:R2} (ho:OpR X (compareOp op) r) (ho':OpR X (compareOp op') r') (ha:PE X a ta) (hb:PE X b tb) (hc:PE X c tc)
  (hm:lastMarks [op,op'] [b,c]=false:=by with_unfolding_all rfl):PE X (.Compare a [op,op'] [b,c] pos) (yk3 r r' ta tb tc):=by
 refine .mk fun f s σ H Q I h=>?_
 refine Compare_chain (thn (ha f s σ H _ I h) fun v M ⟨x,p,o,A,t⟩=>chain_link (thn (hb f M σ p _ o t) fun u C ⟨y,D,q,i,J⟩ =>
  thn (ho f C σ D x y v u _ q A i J) fun d w ⟨z,j,g,G,k,e,l⟩=>?_)) hm
 subst e
 cases G
 refine wpAny_truthy_bool ?_
 cases k with
 | false=>exact ite_ff ⟨.bl false,j,g,rfl,l⟩
 | true=>exact ite_tt (chain_last (thn (hc f w σ j _ g l) fun E n ⟨K,L,F,m,B⟩=>ho' f n σ L y K u E Q F i m B))
theorem yhn {op':CmpOp} {r:R2} (ho:OpR X (compareOp op) r) (ho':OpR X (compareOp op') r') (ha:PE X a ta) (hb:PE X b tb) (hc:PE X c tc)
  (hm:lastMarks [op,op'] [b,c]=false:=by with_unfolding_all rfl):PT X (.Compare a [op,op'] [b,c] pos) (yrw (yk3 r r' ta tb tc)):=by
 refine .mk fun f s σ H Q I h=>?_
 refine isTrue_chain (thn (ha f s σ H _ I h) fun v U ⟨x,t,q,J,B⟩=>test_link (thn (hb f U σ t _ q B) fun u L ⟨y,M,w,i,R⟩ =>
  thn (ho f L σ M x y v u _ w J i R) fun d E ⟨z,j,g,P,k,e,l⟩=>?_)) hm
 subst e
 cases P
 refine wpAny_truthy_bool ?_
 cases k with
 | false =>
  obtain ⟨Y,G,F⟩:=l
  cases G
  exact ite_ff ⟨j,g,F⟩
 | true =>
  refine ite_tt (test_last (thn (hc f E σ j _ g l) fun N o ⟨S,T,O,n,K⟩=>thn (ho' f o σ T y S u N _ O i n K) fun Z W h'=>?_))
  obtain ⟨z2,D,A,m,k2,C,p⟩:=h'
  subst C
  cases m
  exact wpAny_truthy_bool ⟨D,A,p⟩
theorem yhy:(sizeLine:Nat) < 2 ^ 63:=by rw [sizeLine_eq]; decide
theorem yll {x:V} (r:wk [x] us):∃ u,us=[u]/\wz x u:=by
 cases r with
 | cons r1 r2=>cases r2; exact ⟨_,rfl,r1⟩
theorem yln {x:V} (r:wk [x,y] us):∃ u w',us=[u,w']/\wz x u/\wz y w':=by
 cases r with
 | cons r1 r2 =>
  cases r2 with
  | cons r3 r4=>cases r4; exact ⟨_,_,rfl,r1,r3⟩
theorem yeo (hc:X.calm=true):je X (.builtin "max") (fun xs H Q=>∃ i j,xs=[.int i,.int j]/\Q (.int (if j > i then j else i)) H):=by
 intro a s σ H xs e Q I r h
 obtain ⟨i,j,rfl,q⟩:=h
 obtain ⟨u,f,rfl,⟨t,rfl⟩,⟨b,rfl⟩⟩:=yln r
 refine max_two_ints (I.ok.hd hc) fun d c k=>⟨_,H,I.kept k,?_,q⟩
 by_cases hj:j > i
 ·rw [if_pos hj,if_pos hj]; exact ⟨_,rfl⟩
 ·rw [if_neg hj,if_neg hj]; exact ⟨_,rfl⟩
theorem yey (hc:X.calm=true):je X (.builtin "min") (fun xs H Q=>∃ i j,xs=[.int i,.int j]/\Q (.int (if j < i then j else i)) H):=by
 intro a s σ H xs e Q I r h
 obtain ⟨i,j,rfl,q⟩:=h
 obtain ⟨u,f,rfl,⟨t,rfl⟩,⟨b,rfl⟩⟩:=yln r
 refine min_two_ints (I.ok.hd hc) fun d c k=>⟨_,H,I.kept k,?_,q⟩
 by_cases hj:j < i
 ·rw [if_pos hj,if_pos hj]; exact ⟨_,rfl⟩
 ·rw [if_neg hj,if_neg hj]; exact ⟨_,rfl⟩
end
structure yto (h:Heap) (x dx C:Addr) (mA:Str->Option Value):Prop where
 obj:h.get? x=some (W.instObj C dx)
 ns:h.Ns1 dx mA
 ne:dx≠x
theorem yi7 {h:Heap} {dx:Addr} (n:h.Ns1 dx mA):∃ od,h.get? dx=some od/\∀ name,W.lookIn name od=some (mA name):=by
 obtain ⟨o,c,l,j,g,k,_,f⟩:=n
 refine ⟨o,j,fun name=>?_⟩
 have e:=f name
 unfold nsFind findBy at e
 rw [<- Array.find?_toList] at e
 unfold W.lookIn
 rw [g]
 dsimp only
 split
 ·rename_i y q
  rw [q] at e
  exact congrArg some e
 ·rename_i q
  rw [q] at e
  have a:c.toList.any (·.refKey)=false:=by
   rw [List.any_eq_false]
   intro y i
   obtain ⟨z,t,b⟩:=k y (Array.mem_toList_iff.mp i)
   simp [DictEntry.refKey,b]
  have d:¬ c.toList.any (·.refKey)=true:=by rw [a]; exact Bool.false_ne_true
  rw [if_neg d]
  exact congrArg some e
theorem yto.look {h:Heap} {x dx:Addr} (I:yto h x dx C mA):∃ od,W.InstAt h x (W.instObj C dx) C (some od)/\∀ name,W.lookIn name od=some (mA name) :=
 let ⟨od,ho,hl⟩:=yi7 I.ns
 ⟨od,⟨I.obj,rfl,rfl,ho⟩,hl⟩
section
variable {prog:Program} {w:World} {A:Around} {s:Shared} {K:W.Frag} {x dx f:Addr} {name:Str} {v:Value}
theorem yqs {expr:Bool} (X:K.In s.heap) (I:yto s.heap x dx C mA) (hg:W.plainGet K C name=true) (hh:W.hasDictIn K C=true)
  (ha:W.findIn K (.ref C) name=some none) (hv:mA name=some v) (hv':W.handedIn v=true) (h:Q v { s with toks:=s.toks+1 }) :
  wpAny (model prog w) A (getAttr (.ref x) name expr) Q E s:=by
 obtain ⟨b,J,a⟩:=I.look
 exact W.get_value X J (W.plainGet_of hg).1 (W.findObj_own hh ha rfl (by rw [a,hv])) hv' h
theorem ymt {pl:Sem Bool} {Q:Value × List Value->Shared->Prop} (X:K.In s.heap) (I:yto s.heap x dx C mA) (hg:W.plainGet K C name=true)
  (hf:W.findIn K (.ref C) name=some (some (.ref f))) (ht:W.isFn K (.ref f)=true) (hv:mA name=none) (h:Q (.ref f,[.ref x]) s) :
  wpAny (model prog w) A (getMethod (.ref x) name pl) Q E s:=by
 obtain ⟨a,J,b⟩:=I.look
 exact W.method_fn X J (W.plainGet_of hg).1 (W.plainGet_of hg).2 hf (beq_iff_eq.mp ht) (by show (W.lookIn name a).map (·.isSome)=some false; rw [b,hv]; rfl) h
theorem ypu {ns:List Str} {Q:Unit->Shared->Prop} (X:K.In s.heap) (I:yto s.heap x dx C mA)
  (hs:W.findIn K (.ref C) "__setattr__"=some (some (.builtin "object.__setattr__"))) (hp:W.plainOver K C=true) (ht:W.takerIn K C name=some none) (hh:W.hasDictIn K C=true)
  (hw:PySem.Within mA ns) (hsz:ns.length <= sizeLine)
  (h:∀ h',yto h' x dx C (fun y=>if y=name then some v else mA y)->Heap.SameBut dx s.heap h'->Q () { s with heap:=h',toks:=s.toks+2 }) :
  wpAny (model prog w) A (setAttr (.ref x) name v) Q E s:=by
 obtain ⟨n,J,o⟩:=I.look
 refine W.set_plain X J hs (W.osa_open (s:={ s with toks:=s.toks+1 }) (r:=none) X J hp ht fun b=>?_)
 obtain ⟨q,k,f⟩:=W.any_some hh
 have m:s.heap.get? x=some ⟨.ref C,some dx,.plain,#[]⟩:=I.obj
 refine wpAny_bind (wpAny_pure (wpAny_bind (wpAny_bind (wpAny_loadPart m (wpAny_bind (W.Looks.here (s:={ s with toks:=s.toks+1 }) (W.looks_clsIn X k) ?_))))))
 rw [f]
 refine wpAny_pure (a:=some dx) (wpAny_bind (wpAny_pure (wpAny_bind ?_)))
 refine wpAny_nsSet1 (s:={ s with toks:=s.toks+1 }) I.ns fun h' c d=>?_
 obtain ⟨p,l,j,g,i,e⟩:=c.count (PySem.Within.cons name v hw)
 refine wpAny_bind (wpAny_lookBehind g (by rw [i]; exact pastItsLine_dict (Nat.le_trans e (by rw [List.length_cons]; omega))) ?_)
 exact wpAny_pure (h _ ⟨(d.2 _ (Ne.symm I.ne)).trans I.obj,c,I.ne⟩ d)
theorem yhd {R:Result->Shared->Prop} {vs:List Value} (X:K.In s.heap) (hm:W.makesIn K C=true)
  (hi:W.findIn K (.ref C) "__init__"=some (some (.ref f))) (hf:W.typeIn K (.ref f)=some (.type "function"))
  (h:codeAny (model prog w) (A.under (.builtin "type.__call__" ⟨.ref C :: vs,kw⟩)) (.call (.ref f) ⟨.ref (s.heap.objs.size+1) :: vs,kw⟩) (W.InitBack (s.heap.objs.size+1) R)
   { s with heap:=(s.heap.push W.emptyDict).push (W.instObj C s.heap.objs.size) }) :
  codeAny (model prog w) A (.call (.ref C) ⟨vs,kw⟩) R s:=by
 obtain ⟨c,g,d,t,b⟩:=s
 exact W.make_core (W.makes_of X hm) (W.looks_findIn X hi) (fun a=>W.bind_fn X a hf) (.inl rfl) h
end
def yav (f:Str) (v:V):List (Str × V)->List (Str × V)
 | []=>[(f,v)]
 | (g,x) :: r=>if g=f then (g,v) :: r else (g,x) :: yav f v r
theorem ybd (f g:Str) (v:V):∀ fs:List (Str × V),(yav f v fs).lookup g=if g=f then some v else fs.lookup g
 | []=>by
  show List.lookup g [(f,v)]=_
  by_cases h:g=f
  ·have a:(g == f)=true:=beq_iff_eq.mpr h
   simp only [List.lookup,a,if_pos h]
  ·have a:(g == f)=false:=beq_eq_false_iff_ne.mpr h
   simp only [List.lookup,a,if_neg h]
 | (k,x) :: r=>by
  have b:=ybd f g v r
  rw [show yav f v ((k,x) :: r)=(if k=f then (k,v) :: r else (k,x) :: yav f v r) from rfl]
  by_cases hk:k=f
  ·rw [if_pos hk]
   by_cases h:g=k
   ·have a:(g == k)=true:=beq_iff_eq.mpr h
    simp only [List.lookup,a,if_pos (h.trans hk)]
   ·have a:(g == k)=false:=beq_eq_false_iff_ne.mpr h
    simp only [List.lookup,a,if_neg (fun e:g=f=>h (e.trans hk.symm))]
  ·rw [if_neg hk]
   by_cases h:g=k
   ·have a:(g == k)=true:=beq_iff_eq.mpr h
    simp only [List.lookup,a,if_neg (fun e:g=f=>hk (h.symm.trans e))]
   ·have a:(g == k)=false:=beq_eq_false_iff_ne.mpr h
    simp only [List.lookup,a]
    exact b
theorem ybq (f:Str) (v:V):∀ fs:List (Str × V),f∈(yav f v fs).map (·.1)/\∀ g,g∈fs.map (·.1)->g∈(yav f v fs).map (·.1)
 | []=>⟨by simp [yav],fun g h=>by simp at h⟩
 | (k,x) :: r=>by
  obtain ⟨b,a⟩:=ybq f v r
  rw [show yav f v ((k,x) :: r)=(if k=f then (k,v) :: r else (k,x) :: yav f v r) from rfl]
  by_cases hk:k=f
  ·rw [if_pos hk]
   subst hk
   exact ⟨by simp,fun g h=>by simpa using h⟩
  ·rw [if_neg hk]
   refine ⟨?_,fun g h=>?_⟩
   ·rw [List.map_cons]
    exact List.mem_cons_of_mem _ b
   ·rw [List.map_cons] at h ⊢
    rcases List.mem_cons.mp h with e | e
    ·exact List.mem_cons.mpr (.inl e)
    ·exact List.mem_cons_of_mem _ (a g e)
theorem ybi (f:Str) (v:V):∀ fs:List (Str × V),(yav f v fs).length <= fs.length+1
 | []=>by simp [yav]
 | (k,x) :: r=>by
  have a:=ybi f v r
  rw [show yav f v ((k,x) :: r)=(if k=f then (k,v) :: r else (k,x) :: yav f v r) from rfl]
  by_cases hk:k=f
  ·rw [if_pos hk,List.length_cons,List.length_cons]; omega
  ·rw [if_neg hk,List.length_cons,List.length_cons]; omega
theorem yd4.some_of {o:Option Value} (r:yd4 (some v) o):∃ u,o=some u/\wz v u:=by
 cases o with
 | none=>exact (show False from r).elim
 | some u=>exact ⟨u,rfl,r⟩
theorem yd4.none_of {o:Option Value} (r:yd4 none o):o=none:=by
 cases o with
 | none=>rfl
 | some u=>exact (show False from r).elim
theorem yjh (r:wz v u):W.handedIn u=true:=by
 cases v with
 | non=>cases (show u=Value.none from r); rfl
 | bl b=>cases (show u=Value.bool b from r); rfl
 | int i=>obtain ⟨t,e⟩:=(show ∃ t,u=Value.int i t from r); cases e; rfl
 | str x=>obtain ⟨t,e⟩:=(show ∃ t,u=Value.str x t from r); cases e; rfl
 | byt b=>obtain ⟨t,e⟩:=(show ∃ t,u=Value.bytes b t from r); cases e; rfl
 | flt b=>obtain ⟨t,e⟩:=(show ∃ t,u=Value.float b t from r); cases e; rfl
 | ref a=>cases (show u=Value.ref a from r); rfl
 | ty n=>cases (show u=Value.type n from r); rfl
section
variable {w:World} {h:Heap} {dx:Addr} {fs fs':List (Str × V)}
theorem ydw (hok:HOk P w H h) (e:H a=some (.ins C dx fs)):∃ mA,yto h a dx C mA/\(∀ f,yd4 (fs.lookup f) (mA f))/\PySem.Within mA (fs.map (·.1))/\fs.length <= 1000/\H dx=some (.own a):=by
 obtain ⟨d,z,b,c,mA,n,r,q⟩:=(show xa P w H h a (.ins C dx fs) from hok a _ e)
 exact ⟨mA,⟨c,n,b⟩,r,q,z,d⟩
end
structure Cls (K:W.Frag) (C:Addr):Prop where
 pg:W.plainGet K C Str.empty=true
 hd:W.hasDictIn K C=true
 po:W.plainOver K C=true
 sa:W.findIn K (.ref C) "__setattr__"=some (some (.builtin "object.__setattr__"))
theorem Cls.get {K:W.Frag} (c:Cls K C) (f:Str):W.plainGet K C f=true:=c.pg
def wq (K:W.Frag) (C:Addr) (f:Str):Prop:=W.findIn K (.ref C) f=some none
theorem wq.taker {K:W.Frag} {f:Str} (n:wq K C f):W.takerIn K C f=some none:=by
 unfold W.takerIn
 rw [show W.findIn K (.ref C) f=some none from n]
 rfl
structure Con (K:W.Frag) (C:Addr) (f:Str) (v:V) (u:Value):Prop where
 at_:W.findIn K (.ref C) f=some (some u)
 rel:wz v u
 get:W.specialIn K u "__get__"=some none
 cp:W.copiedNames.contains f=false
structure ytr (K:W.Frag) (C:Addr) (m:Str) (f:Addr):Prop where
 at_:W.findIn K (.ref C) m=some (some (.ref f))
 fn:W.isFn K (.ref f)=true
 kp:W.keepIn K (.ref f)=true
section
variable {s:Shared} {dx:Addr} {fs:List (Str × V)} {f:Str} {A:Around}
theorem yit {b:Bool} (I:Inv X pins σ H s) (e:H a=some (.ins C dx fs)) (c:Cls X.K C) (n:wq X.K C f) (l:fs.lookup f=some v)
  (h:∀ u s',Inv X pins σ H s'->wz v u->Q u s'):wpAny (model X.prog X.w) A (getAttr (.ref a) f b) Q E s:=by
 obtain ⟨i,O,r,_,_,_⟩:=ydw I.hok e
 obtain ⟨u,g,d⟩:=yd4.some_of (v:=v) (o:=i f) (by rw [<- l]; exact r f)
 exact yqs I.kIn O (c.get f) c.hd n g (yjh d) (h u _ (I.tok _) d)
theorem yaf {m:Str} {g:Addr} {pl:Sem Bool} {Q:Value × List Value->Shared->Prop} (I:Inv X pins σ H s) (e:H a=some (.ins C dx fs)) (c:Cls X.K C) (k:ytr X.K C m g) (l:fs.lookup m=none)
  (h:Q (.ref g,[.ref a]) s):wpAny (model X.prog X.w) A (getMethod (.ref a) m pl) Q E s:=by
 obtain ⟨d,O,r,_,_,_⟩:=ydw I.hok e
 have b:d m=none:=yd4.none_of (by rw [<- l]; exact r m)
 exact ymt I.kIn O (c.get m) k.at_ k.fn b h
theorem yin {Q:Unit->Shared->Prop} (I:Inv X pins σ H s) (e:H a=some (.ins C dx fs)) (c:Cls X.K C) (n:wq X.K C f) (hl:fs.length < 1000) (ry:wz y u)
  (h:∀ s',Inv X pins σ (upd H a (.ins C dx (yav f y fs))) s'->Q () s'):wpAny (model X.prog X.w) A (setAttr (.ref a) f u) Q E s:=by
 obtain ⟨j,O,r,i,_,k⟩:=ydw I.hok e
 have B:(fs.map (·.1)).length <= sizeLine:=by rw [List.length_map,sizeLine_eq]; omega
 refine ypu I.kIn O c.sa c.po n.taker c.hd i B fun p d t=>h _ ?_
 have m:∃ o,p.get? dx=some o:=let ⟨o,_,_,e',_⟩:=d.ns; ⟨o,e'⟩
 refine I.write (x:=a) (e:=dx) (by rw [e]; exact True.intro) (.inr k) (fun b q l z=>(t.2 b l).trans z) m ?_
 refine ⟨by rw [ym O.ne]; exact k,?_,O.ne,d.obj,_,d.ns,fun g=>?_,fun g v=>?_⟩
 ·have:=ybi f y fs; omega
 ·show yd4 ((yav f y fs).lookup g) (if g=f then some u else j g)
  rw [ybd]
  by_cases q:g=f
  ·rw [if_pos q,if_pos q]; exact ry
  ·rw [if_neg q,if_neg q]; exact r g
 ·by_cases q:g=f
  ·rw [q]; exact (ybq f y fs).1
  ·refine (ybq f y fs).2 g (i g fun z=>v ?_)
   show (if g=f then some u else j g)=none
   rw [if_neg q]; exact z
theorem Inv.made (I:Inv X pins σ H s):Inv X pins σ (upd (upd H s.heap.objs.size (.own (s.heap.objs.size+1))) (s.heap.objs.size+1) (.ins C s.heap.objs.size []))
  { s with heap:=(s.heap.push W.emptyDict).push (W.instObj C s.heap.objs.size) }:=by
 have d:(s.heap.push W.emptyDict).get? s.heap.objs.size=some W.emptyDict:=Heap.get?_push_size s.heap rfl
 have h:((s.heap.push W.emptyDict).push (W.instObj C s.heap.objs.size)).get? (s.heap.objs.size+1)=some (W.instObj C s.heap.objs.size):=by
  have:=Heap.get?_push_size (s.heap.push W.emptyDict) (o:=W.instObj C s.heap.objs.size) rfl
  rwa [Heap.size_push] at this
 have g:(s.heap.push W.emptyDict).Ns s.heap.objs.size (fun _=>none):=⟨W.emptyDict,#[],_,d,rfl,(fun e f=>absurd f (by simp)),fun _=>rfl⟩
 have i:=I.laid (a:=s.heap.objs.size) (o:=.own (s.heap.objs.size+1)) (h':=s.heap.push W.emptyDict) (t':=s.toks) (fun b u q=>Heap.get?_push_of_some _ q) (Nat.le_refl _) ⟨_,d⟩
 refine i.laid (a:=s.heap.objs.size+1) (o:=.ins C s.heap.objs.size []) (t':=s.toks) (fun b u q=>Heap.get?_push_of_some _ q) (Nat.le_of_eq (Heap.size_push _ _)) ?_
 have c:s.heap.objs.size≠s.heap.objs.size+1:=Nat.ne_of_lt (Nat.lt_succ_self _)
 refine ⟨by rw [ym c,yd],Nat.zero_le _,c,h,fun _=>none,(Heap.Ns1.of_empty g).at fun o q=>Heap.get?_push_of_some _ q,fun _=>True.intro,fun y j=>absurd rfl j⟩
theorem yqj {prog:Program} {w:World} {env:Env} {pos:Pos} (hb:attributeBase e f env (eval e env)=eval e env)
  (h:wpAny (model prog w) A (eval e env) (fun o s₁=>wpAny (model prog w) A (getAttr o f true) Q E s₁) E s):wpAny (model prog w) A (eval (.Attribute e f pos) env) Q E s :=
 Attribute_any_ h (by rw [arm_eval_Attribute,hb])
end
def yz0 (K:W.Frag) (ta:TE) (f:Str):TE:=fun σ H Q=>ta σ H fun x H1=>∃ a C dx fs v,x=.ref a/\H1 a=some (.ins C dx fs)/\Cls K C/\wq K C f/\fs.lookup f=some v/\Q v H1
def va7 (K:W.Frag) (ta tv:TE) (f:Str):TS:=fun D σ H=>tv σ H fun y H1=>ta σ H1 fun x H2=>∃ a C dx fs,x=.ref a/\H2 a=some (.ins C dx fs)/\Cls K C/\wq K C f/\fs.length < 1000 /\
 D.nx σ (upd H2 a (.ins C dx (yav f y fs)))
section
variable {o value:Expr} {f:Str} {pos pos' tpos:Pos} {tv:TE}
theorem yy (he:PE X e ta) (hb:attributeBase e f X.env (eval e X.env)=eval e X.env):PE X (.Attribute e f pos) (yz0 X.K ta f):=by
 refine .mk fun b s σ H Q I h=>?_
 refine yqj hb (thn (he b s σ H _ I h) fun u y h'=>?_)
 obtain ⟨x,o,m,i,a,C,w,r,v,g,d,c,n,l,q⟩:=h'
 subst g
 obtain rfl:u=Value.ref a:=i
 exact yit m d c n l fun t p j k=>⟨v,o,j,k,q⟩
theorem vv (ha:PE X o ta) (hv:PE X value tv) (hs:swapsWith value (some (.Attribute o f pos')) pos.line X.env=pure false):PS X (.Assign [.Attribute o f pos'] value pos) (va7 X.K ta tv f):=by
 refine .mk fun b s σ H D I h=>?_
 refine plainObj_wpAny_Assign_Attribute (thn (hv b s σ H _ I h) fun u v ⟨y,m,k,p,q⟩=>thn (ha b v σ m _ k q) fun d z h'=>?_) hs
 obtain ⟨x,E,j,i,a,C,B,A,g,e,c,n,l,t⟩:=h'
 subst g
 obtain rfl:d=Value.ref a:=i
 exact yin j e c n l p fun w r=>⟨σ,_,r,t⟩
end
section
variable {s:Shared} {A:Around} {c:Value} {b:Bool}
inductive xp (K:W.Frag) (H:Hp):V->Value->Prop where
 | non:xp K H .non (.type "NoneType")
 | bl (x:Bool):xp K H (.bl x) (.type "bool")
 | int (i:Int):xp K H (.int i) (.type "int")
 | str (x:Str):xp K H (.str x) (.type "str")
 | flt (x:UInt64):xp K H (.flt x) (.type "float")
 | lst {a:Addr} {xs:List V} (e:H a=some (.lst xs)):xp K H (.ref a) (.type "list")
 | frz {a:Addr} {o:Obj} {xs:List V} (e:H a=some (.frz o (.lst xs))):xp K H (.ref a) (.type "list")
 | tup {a:Addr} {xs:List V} (e:H a=some (.tup xs)):xp K H (.ref a) (.type "tuple")
 | dK {a:Addr} {kvs:List (Key × V)} (e:H a=some (.dK kvs)):xp K H (.ref a) (.type "dict")
 | dT {a:Addr} {kvs:List (List Key × V)} (e:H a=some (.dT kvs)):xp K H (.ref a) (.type "dict")
 | ins {a C dx:Addr} {fs:List (Str × V)} (e:H a=some (.ins C dx fs)) (cl:Cls K C) (ha:W.findIn K (.ref C) "__class__"=some (some (.builtin "object.__class__")))
   (hn:W.specialIn K (.builtin "object.__class__") "__get__"=some (some (.builtin "getset_descriptor.__get__"))) (htk:W.takesIn K (.builtin "object.__class__")=some true)
   (hm:W.mroIn K C (.type "object")=some true):xp K H (.ref a) (.ref C)
theorem yju {x:V} {t:Value} (I:Inv X pins σ H s) (rx:wz x u) (ty:xp X.K H x t) (e:W.kitOne X.K t c=some b) (h:∀ tk,Q (.bool b) { s with toks:=tk }) :
  wpAny (model X.prog X.w) A (call (.builtin "isinstance") [u,c]) Q E s:=by
 cases ty with
 | non=>cases (show u=Value.none from rx); exact W.kia_one W.kitx_none I.kIn True.intro e (fun z=>nomatch z) h
 | bl y=>cases (show u=Value.bool y from rx); exact W.kia_one W.kitx_bool I.kIn True.intro e (fun z=>nomatch z) h
 | int i=>obtain ⟨t,q⟩:=(show ∃ t,u=Value.int i t from rx); cases q; exact W.kia_one W.kitx_int I.kIn True.intro e (fun z=>nomatch z) h
 | str y=>obtain ⟨t,q⟩:=(show ∃ t,u=Value.str y t from rx); cases q; exact W.kia_one W.kitx_str I.kIn True.intro e (fun z=>nomatch z) h
 | flt y=>obtain ⟨t,q⟩:=(show ∃ t,u=Value.float y t from rx); cases q; exact W.kia_one W.kitx_float I.kIn True.intro e (fun z=>nomatch z) h
 | @lst a xs ea =>
  cases (show u=Value.ref a from rx)
  obtain ⟨_,_,n,_,d⟩:=(show xa X.prog X.w H s.heap a (.lst xs) from I.hok a _ ea)
  exact W.kia_one W.kitx_list I.kIn ⟨_,d,rfl⟩ e (fun z=>nomatch z) h
 | @frz a ob xs ea =>
  cases (show u=Value.ref a from rx)
  obtain ⟨_,_,_,n,_,d⟩:=(show xa X.prog X.w H s.heap a (.frz ob (.lst xs)) from I.hok a _ ea)
  exact W.kia_one W.kitx_list I.kIn ⟨_,d,rfl⟩ e (fun z=>nomatch z) h
 | @tup a xs ea =>
  cases (show u=Value.ref a from rx)
  obtain ⟨_,_,_,p⟩:=(show xa X.prog X.w H s.heap a (.tup xs) from I.hok a _ ea)
  obtain ⟨o,d,f,_⟩:=p
  exact W.kia_one W.kitx_tuple I.kIn ⟨o,d,f⟩ e (fun z=>nomatch z) h
 | @dK a kvs ea =>
  cases (show u=Value.ref a from rx)
  obtain ⟨_,_,k,_,p⟩:=(show xa X.prog X.w H s.heap a (.dK kvs) from I.hok a _ ea)
  obtain ⟨o,j,g,d,f,_⟩:=p
  exact W.kia_one W.kitx_dict I.kIn ⟨o,d,f.1⟩ e (fun z=>nomatch z) h
 | @dT a kvs ea =>
  cases (show u=Value.ref a from rx)
  obtain ⟨_,_,xs,_,o,j,g,d,f,_⟩:=(show xa X.prog X.w H s.heap a (.dT kvs) from I.hok a _ ea)
  exact W.kia_one W.kitx_dict I.kIn ⟨o,d,f.1⟩ e (fun z=>nomatch z) h
 | @ins a C dx fs ea cl ha hn htk hm =>
  cases (show u=Value.ref a from rx)
  obtain ⟨l,O,_⟩:=ydw I.hok ea
  obtain ⟨m,J,_⟩:=O.look
  exact W.kia_one (W.kitx_own (cl.get _) cl.hd ha hn htk hm) I.kIn J e (fun z=>nomatch z) h
end
structure zi (k:Nat) (A:Around):Prop where
 hd:A.handled=none
 dp:A.depth+3 * k+5 < recursionLimit
 un:A.units+16 * k+200 < cLine
theorem zi.mono {k:Nat} {A:Around} (r:zi k A) (h:j <= k):zi j A:=⟨r.hd,by have:=r.dp; omega,by have:=r.un; omega⟩
theorem zi.deeper {k:Nat} {A:Around} (r:zi (k+1) A) (env:Env):zi k (A.deeper env) :=
 ⟨r.hd,by have:=r.dp; show A.depth+1+3 * k+5 < _; omega,by have:=r.un; show A.units+3+16 * k+200 < _; omega⟩
theorem zi.in1 {k:Nat} {A:Around} (r:zi (k+1) A):zi k A.in1 :=
 ⟨r.hd,by have:=r.dp; show A.depth+3 * k+5 < _; omega,by have:=r.un; show A.units+1+16 * k+200 < _; omega⟩
theorem yid {A:Around} :(A.under (.builtin "type.__call__" ⟨.ref C :: us,kw⟩)).depth=A.depth+1:=by
 first | rfl | simp [Around.under,Code.weight,Code.isCreation,Code.isGuard,Code.isCaller,Code.frames,Code.isFrame,guardIds]
theorem yiq {A:Around} :(A.under (.builtin "type.__call__" ⟨.ref C :: us,kw⟩)).units=A.units+1:=by
 first | rfl | simp [Around.under,Code.cUnits,Code.frames,Code.isFrame]
theorem zi.make {k:Nat} {A:Around} (r:zi (k+1) A) (C:Addr) (us:List Value) (kw:List (Str × Value)):zi k (A.under (.builtin "type.__call__" ⟨.ref C :: us,kw⟩)) :=
 ⟨r.hd,by have:=r.dp; rw [yid]; omega,by have:=r.un; rw [yiq]; omega⟩
theorem zi.depth {k:Nat} {A:Around} (r:zi k A):A.depth < recursionLimit:=by have:=r.dp; omega
theorem zi.units {k:Nat} {A:Around} (r:zi k A):A.units+64 < cLine:=by have:=r.un; omega
def yd5:TA:=fun _ H Q=>Q [] H
def uw (ta:TE) (tr:TA):TA:=fun σ H Q=>ta σ H fun x H1=>tr σ H1 fun xs H2=>Q (x :: xs) H2
section
variable {t:TA} {pos:Pos}
theorem ye:PA X [] yd5:=.mk fun _ _ _ _ H Q I h=>Calls.spliced_nil ⟨[],H,I,.nil,h⟩
theorem ya (ha:PE X e te) (hr:PA X es t) (hs:starEach (e :: es) X.env=(false,eval e X.env) :: starEach es X.env:=by rfl):PA X (e :: es) (uw te t):=by
 refine .mk fun b a s σ H Q I h=>?_
 rw [hs]
 show wpAny _ _ (spliced ((false,eval e X.env) :: backTo b (starEach es X.env))) _ _ s
 refine Calls.spliced_cons (thn (ha a s σ H _ I h) fun u n h'=>?_)
 obtain ⟨x,k,j,f,i⟩:=h'
 exact thn (hr b a n σ k _ j i) fun p o ⟨d,m,g,c,l⟩=>⟨x :: d,m,g,.cons f c,l⟩
def vac (t:TA):TE:=fun σ H Q=>t σ H fun xs H1=>xs.length <= sizeLine/\∀ p,H1 p=none->Q (.ref p) (upd H1 p (.tup xs))
def yx7 (t:TA):TE:=fun σ H Q=>t σ H fun xs H1=>xs.length <= sizeLine/\∀ p,H1 p=none->Q (.ref p) (upd H1 p (.lst xs))
theorem xo {x1} (h:PA X es t):PE X (.Tuple es x1 pos) (vac t):=by
 refine .mk fun a s σ H Q I k=>?_
 refine wpAny_Tuple_spliced (thn (h pos a s σ H _ I k) fun j c ⟨g,f,d,r,z,q⟩=>⟨by rw [<- r.length]; exact z,?_⟩)
 have i:f c.heap.objs.size=none:=d.hok.fresh (Nat.le_refl _)
 refine ⟨.ref c.heap.objs.size,upd f c.heap.objs.size (.tup g),d.laid (t':=c.toks) (fun b u e=>Heap.get?_push_of_some _ e) (Nat.le_refl _) ?_,rfl,q _ i⟩
 exact ⟨z,j,r,⟨_,Heap.get?_push_size _ rfl,rfl,_,rfl⟩⟩
theorem vq (h:PA X es t):PE X (.List es pos) (yx7 t):=by
 refine .mk fun a s σ H Q I k=>?_
 refine wpAny_List_spliced (thn (h pos a s σ H _ I k) fun j c ⟨g,f,d,r,z,q⟩=>⟨by rw [<- r.length]; exact z,?_⟩)
 have i:f c.heap.objs.size=none:=d.hok.fresh (Nat.le_refl _)
 refine ⟨.ref c.heap.objs.size,upd f c.heap.objs.size (.lst g),d.laid (t':=c.toks) (fun b u e=>Heap.get?_push_of_some _ e) (Nat.le_refl _) ?_,rfl,q _ i⟩
 exact ⟨z,j,0,r,Heap.get?_push_size _ rfl⟩
end
abbrev Sp:=List V->Hp->VK->XK->Prop
variable {sp:Sp}
abbrev CXT:=List Env->Hp->Shared->XK->Value->Shared->Prop
variable {CX:CXT}
structure ylu (P:Program) (w:World) (K:W.Frag) (mg:Str->Option Value) (base:Heap) (A:Around) (outer:List Env) (s:Shared) (H:Hp):Prop where
 frames:A.frames=some outer
 mod:Mod K mg base
 bs:∀ b o,base.get? b=some o->s.heap.get? b=some o/\H b=none
 bsz:base.objs.size <= s.heap.objs.size
 funs:s.heap.FunFrames base outer
 frf:∀ b∈frs outer,H b=none
 hok:HOk P w H s.heap
 bare:AllBare s.gens
def CE (outer:List Env) (P:Program) (w:World) (H:Hp) (s:Shared) (Q:VK) (u:Value) (s':Shared):Prop :=
 ∃ v H',s'.os=s.os/\AllBare s'.gens/\Un (frs outer) [] H H' s.heap s'.heap/\HOk P w H' s'.heap/\wz v u/\Q v H'
def CR (CX:CXT) (outer:List Env) (P:Program) (w:World) (H:Hp) (s:Shared) (Q:VK) (E:XK) (r:Result) (s':Shared):Prop :=
 match r with
 | .ok (.ret u)=>CE outer P w H s Q u s'
 | .ok _=>False
 | .error e=>CX outer H s E e s'
structure wa (P:Program) (w:World) (K:W.Frag) (mg:Str->Option Value) (base:Heap) (CX:CXT) (k:Nat) (f:Addr) (fd:FuncData) (ps:List Str) (sp:Sp):Prop where
 len:∀ vs H Q E,sp vs H Q E->vs.length=ps.length
 run:∀ (A:Around) (outer:List Env) (s:Shared) (H:Hp) (args:Args) (us:List Value) (vs:List V) (Q:VK) (E:XK),zi k A->ylu P w K mg base A outer s H->BindsTo s fd args (ps.zip us)->wk vs us->sp vs H Q E ->
  codeAny (model P w) A (.call (.ref f) args) (CR CX outer P w H s Q E) s
theorem wa.mono {w:World} {K:W.Frag} {mg:Str->Option Value} {base:Heap} {k:Nat} {f:Addr} {ps:List Str} (F:wa P w K mg base CX j f fd ps sp) (h:j <= k) :
  wa P w K mg base CX k f fd ps sp:=⟨F.len,fun A a s H b e c Q E d=>F.run A a s H b e c Q E (d.mono h)⟩
theorem wa.imp {w:World} {K:W.Frag} {mg:Str->Option Value} {base:Heap} {k:Nat} {f:Addr} {ps:List Str} {sp':Sp} (F:wa P w K mg base CX k f fd ps sp)
  (h:∀ vs H Q E,sp' vs H Q E->sp vs H Q E):wa P w K mg base CX k f fd ps sp' :=
 ⟨fun vs H Q E q=>F.len vs H Q E (h _ _ _ _ q),fun A a s H b i vs Q E e d c j g=>F.run A a s H b i vs Q E e d c j (h _ _ _ _ g)⟩
theorem ylu.make {w:World} {K:W.Frag} {mg:Str->Option Value} {base:Heap} {A:Around} {outer:List Env} {s:Shared} (e:ylu P w K mg base A outer s H) (C:Addr) (us:List Value) (kw:List (Str × Value)) :
  ylu P w K mg base (A.under (.builtin "type.__call__" ⟨.ref C :: us,kw⟩)) outer s H:=⟨by first | exact e.frames | (simpa [Around.under,Code.envs,Code.isFrame,pushEnvs] using e.frames),e.mod,e.bs,e.bsz,e.funs,e.frf,e.hok,e.bare⟩
theorem ylu.in1 {w:World} {K:W.Frag} {mg:Str->Option Value} {base:Heap} {A:Around} {outer:List Env} {s:Shared} (e:ylu P w K mg base A outer s H) :
  ylu P w K mg base A.in1 outer s H:=⟨e.frames,e.mod,e.bs,e.bsz,e.funs,e.frf,e.hok,e.bare⟩
section
variable {s:Shared}
theorem Inv.env0 (I:Inv X pins σ H s):ylu X.prog X.w X.K X.mg X.base X.A X.stack s H :=
 ⟨I.ok.frames,I.ok.mod,I.bs,Nat.le_trans I.ok.bsz I.sz,I.stack,I.stkFree,I.hok,I.bare⟩
theorem Inv.after {Q:VK} (I:Inv X pins σ H s) (h:CE X.stack X.prog X.w H s Q u s'):EP X pins σ Q u s':=by
 obtain ⟨v,f,i,a,k,e,r,q⟩:=h
 obtain ⟨j,g,d,t,c⟩:=s'
 obtain rfl:c=s.os:=i
 exact ⟨v,f,I.call (h':=j) (g':=g) (d':=d) (t':=t) (ch:=[]) k e a (fun b z=>absurd z (by simp)),r,q⟩
end
def yxj (sp:Sp) (dvs:List V) (E:XK) (t:TA):TE:=fun σ H Q=>t σ H fun vs H1=>sp (vs++dvs) H1 Q E
def yb5 (C:Addr) (m:Str) (sp:Sp) (dvs:List V) (E:XK) (ta:TE) (t:TA):TE:=fun σ H Q=>ta σ H fun x H1=>∃ a dx fs,x=.ref a/\H1 a=some (.ins C dx fs)/\fs.lookup m=none /\
 t σ H1 fun vs H2=>sp (x :: (vs++dvs)) H2 Q E
def ysu (C:Addr) (sp:Sp) (dvs:List V) (E:XK) (t:TA):TE:=fun σ H Q=>t σ H fun vs H1=>∀ x dx,H1 x=none->H1 dx=none->dx≠x ->
 sp (.ref x :: (vs++dvs)) (upd (upd H1 dx (.own x)) x (.ins C dx [])) (fun v H2=>v=.non/\Q (.ref x) H2) E
def uh (K:W.Frag) (fd:FuncData) (ps:List Str) (ds:List Value):Prop :=
 ∀ (s:Shared) (us:List Value),K.In s.heap->(us++ds).length=ps.length->BindsTo s fd ⟨us,[]⟩ (ps.zip (us++ds))
theorem uh.all {K:W.Frag} {ps:List Str} (h:∀ us:List Value,us.length=ps.length->bindArgs fd ⟨us,[]⟩=pure (ps.zip us)):uh K fd ps []:=fun s us _ a=>by
 rw [List.append_nil] at a ⊢
 exact .of_eq (h us a)
def yar (CX:CXT) (X:Cx) (E:XK):Prop:=∀ (pins:List (Addr × Obj)) (σ:St) (H:Hp) (s:Shared) (e:Value) (s':Shared),Inv X pins σ H s->CX X.stack H s E e s'->X.xe e s'
section
variable {k:Nat} {f:Addr} {ps:List Str} {dvs:List V} {ds:List Value} {E:XK} {m:Str} {pos apos:Pos} {o:Expr} {t:TA}
theorem yk6 {s:Shared} {Q:VK} (F:wa X.prog X.w X.K X.mg X.base CX k f fd ps sp) (hr:zi k X.A) (hb:uh X.K fd ps ds) (hd:wk dvs ds) (hx:yar CX X E)
  (I:Inv X pins σ H s) (r:wk vs us) (h:sp (vs++dvs) H Q E):wpAny (model X.prog X.w) X.A (call (.ref f) us) (EP X pins σ Q) X.xe s:=by
 have b:wk (vs++dvs) (us++ds):=r.append hd
 have c:(us++ds).length=ps.length:=by rw [<- b.length]; exact F.len _ _ _ _ h
 refine wpAny_call (codeAny_mono (F.run X.A X.stack s H ⟨us,[]⟩ (us++ds) (vs++dvs) Q E hr I.env0 (hb s us I.kIn c) b h) fun r d a=>?_)
 cases r with
 | error e=>exact hx pins σ H s e d I a
 | ok fl =>
  cases fl with
  | ret u=>exact I.after a
  | next=>exact False.elim a
  | brk=>exact False.elim a
  | cont=>exact False.elim a
theorem y6 (F:wa X.prog X.w X.K X.mg X.base CX k f fd ps sp) (hr:zi k X.A) (hg:Gl X x) (hm:X.mg x=some (.ref f)) (hk:W.keepIn X.K (.ref f)=true) (hb:uh X.K fd ps ds) (hd:wk dvs ds) (hx:yar CX X E)
  (ha:PA X (e :: es) t) (hdb:(x == ("__debug__":Str))=false:=by decide) (he:starEach (e :: es) X.env=(false,eval e X.env) :: starEach es X.env:=by rfl) (hpl:(backTo pos (starEach es X.env)).any (·.1)=false:=by rfl) :
  PE X (.Call (.Name x p) (e :: es) [] pos) (yxj sp dvs E t):=by
 refine .mk fun a s σ H Q I h=>?_
 refine wpAny_Call_Name_kw (zu I hg hm ?_ hdb)
 refine W.callWith_K (h₀:=X.base) I.ok.mod.kin hk (thn (ha pos a s σ H _ I h) fun d i ⟨c,g,b,r,q⟩=>⟨b.kIn,?_⟩) he hpl
 exact yk6 F hr hb hd hx b r q
theorem ybv {pl:Sem Bool} (he:PE X o ta) (c:Cls X.K C) (hm:ytr X.K C m f) (F:wa X.prog X.w X.K X.mg X.base CX k f fd ps sp) (hr:zi k X.A) (hb:uh X.K fd ps ds) (hd:wk dvs ds) (hx:yar CX X E) (ha:PA X (e :: es) t)
  (hst:starEach (e :: es) X.env=(false,eval e X.env) :: starEach es X.env:=by rfl) (hpl:(backTo pos (starEach es X.env)).any (·.1)=false:=by rfl)
  (ht:eval (.Call (.Attribute o m apos) (e :: es) [] pos) X.env=(do
   let ov <- eval o X.env
   standAt apos.atName
   let (f,first) <- holding [ov] (getMethod ov m pl)
   callWith pos f first (backTo pos (starEach (e :: es) X.env)) (backToKw pos (keywordEach [] X.env))):=by rfl) :
  PE X (.Call (.Attribute o m apos) (e :: es) [] pos) (yb5 C m sp dvs E ta t):=by
 refine .mk fun b s σ H Q I h=>?_
 refine W.methodCall_KW (pl:=pl) (thn (he b s σ H _ I h) fun u y h'=>?_) ht
 obtain ⟨x,p,g,n,a,D,B,j,i,l,q⟩:=h'
 subst j
 obtain rfl:u=Value.ref a:=n
 refine yaf g i c hm l ?_
 refine W.callWith_K (first:=[.ref a]) (h₀:=X.base) I.ok.mod.kin hm.kp (thn (ha pos b y σ p _ g q) fun us z ⟨vs,G,d,r,v⟩=>⟨d.kIn,?_⟩) hst hpl
 exact yk6 (us:=.ref a :: us) (vs:=.ref a :: vs) F hr hb hd hx d (.cons rfl r) v
theorem vk {pl:Sem Bool} (he:PE X o ta) (c:Cls X.K C) (hm:ytr X.K C m f) (F:wa X.prog X.w X.K X.mg X.base CX k f fd ps sp) (hr:zi k X.A) (hb:uh X.K fd ps ds) (hd:wk dvs ds) (hx:yar CX X E)
  (ht:eval (.Call (.Attribute o m apos) [] [] pos) X.env=(do
   let ov <- eval o X.env
   standAt apos.atName
   let (f,first) <- holding [ov] (getMethod ov m pl)
   callWith pos f first (backTo pos (starEach [] X.env)) (backToKw pos (keywordEach [] X.env))):=by rfl) :
  PE X (.Call (.Attribute o m apos) [] [] pos) (yb5 C m sp dvs E ta yd5):=by
 refine .mk fun b s σ H Q I h=>?_
 refine W.methodCall_KW (pl:=pl) (thn (he b s σ H _ I h) fun u r h'=>?_) ht
 obtain ⟨x,j,d,i,a,p,n,g,e,l,q⟩:=h'
 subst g
 obtain rfl:u=Value.ref a:=i
 refine yaf d e c hm l ?_
 exact W.callWith_K0 (first:=[.ref a]) d.kIn hm.kp (yk6 (us:=[.ref a]) (vs:=[.ref a]) F hr hb hd hx d (.cons rfl .nil) q)
structure Mk (K:W.Frag) (C f:Addr):Prop where
 makes:W.makesIn K C=true
 init:W.findIn K (.ref C) "__init__"=some (some (.ref f))
 fn:W.isFn K (.ref f)=true
 kp:W.keepIn K (.ref C)=true
theorem yhq {s:Shared} {Q:VK} (M:Mk X.K C f) (F:wa X.prog X.w X.K X.mg X.base CX k f fd ps sp) (hr:zi (k+1) X.A) (hb:uh X.K fd ps ds) (hd:wk dvs ds)
  (hx:yar CX X E) (I:Inv X pins σ H s) (r:wk vs us)
  (h:∀ x dx,H x=none->H dx=none->dx≠x->sp (.ref x :: (vs++dvs)) (upd (upd H dx (.own x)) x (.ins C dx [])) (fun v H2=>v=.non/\Q (.ref x) H2) E) :
  wpAny (model X.prog X.w) X.A (call (.ref C) us) (EP X pins σ Q) X.xe s:=by
 have d:=h (s.heap.objs.size+1) s.heap.objs.size (I.hok.fresh (Nat.le_succ _)) (I.hok.fresh (Nat.le_refl _)) (Nat.ne_of_lt (Nat.lt_succ_self _))
 have b:=Inv.made (C:=C) I
 have c:wk (V.ref (s.heap.objs.size+1) :: (vs++dvs)) (Value.ref (s.heap.objs.size+1) :: (us++ds)):=.cons rfl (r.append hd)
 have l:(Value.ref (s.heap.objs.size+1) :: us++ds).length=ps.length:=by
  have e:=c.length
  rw [F.len _ _ _ _ d] at e
  exact e.symm
 refine wpAny_call (yhd (f:=f) I.kIn M.makes M.init (beq_iff_eq.mp M.fn) (codeAny_mono (F.run _ X.stack _ _ ⟨Value.ref (s.heap.objs.size+1) :: us,[]⟩ (Value.ref (s.heap.objs.size+1) :: (us++ds)) _ _ E (hr.make C us [])
  (b.env0.make C us []) (hb _ (Value.ref (s.heap.objs.size+1) :: us) b.kIn l) c d) fun r i a=>?_))
 cases r with
 | error e=>exact hx pins σ _ _ e i b a
 | ok fl =>
  cases fl with
  | ret u =>
   obtain ⟨v,g,m,n,j,o⟩:=b.after a
   subst j
   exact ⟨n,⟨V.ref (s.heap.objs.size+1),g,m,rfl,o⟩⟩
  | next=>exact False.elim a
  | brk=>exact False.elim a
  | cont=>exact False.elim a
theorem ydx (M:Mk X.K C f) (F:wa X.prog X.w X.K X.mg X.base CX k f fd ps sp) (hr:zi (k+1) X.A) (hg:Gl X x) (hm:X.mg x=some (.ref C)) (hb:uh X.K fd ps ds) (hd:wk dvs ds) (hx:yar CX X E)
  (ha:PA X (e :: es) t) (hdb:(x == ("__debug__":Str))=false:=by decide) (he:starEach (e :: es) X.env=(false,eval e X.env) :: starEach es X.env:=by rfl) (hpl:(backTo pos (starEach es X.env)).any (·.1)=false:=by rfl) :
  PE X (.Call (.Name x p) (e :: es) [] pos) (ysu C sp dvs E t):=by
 refine .mk fun a s σ H Q I h=>?_
 refine wpAny_Call_Name_kw (zu I hg hm ?_ hdb)
 refine W.callWith_K (h₀:=X.base) I.ok.mod.kin M.kp (thn (ha pos a s σ H _ I h) fun d i ⟨c,g,b,r,q⟩=>⟨b.kIn,?_⟩) he hpl
 exact yhq M F hr hb hd hx b r q
theorem jc (M:Mk X.K C f) (F:wa X.prog X.w X.K X.mg X.base CX k f fd ps sp) (hr:zi (k+1) X.A) (hg:Gl X x) (hm:X.mg x=some (.ref C)) (hb:uh X.K fd ps ds) (hd:wk dvs ds) (hx:yar CX X E)
  (hdb:(x == ("__debug__":Str))=false:=by decide):PE X (.Call (.Name x p) [] [] pos) (ysu C sp dvs E yd5):=by
 refine .mk fun a s σ H Q I h=>?_
 refine wpAny_Call_Name_kw (zu I hg hm ?_ hdb)
 exact W.callWith_K0 I.kIn M.kp (yhq (us:=[]) M F hr hb hd hx I .nil h)
end
section
variable {k:Nat} {f:Addr} {ps ks:List Str} {E:XK} {m:Str} {pos apos kpos:Pos} {o:Expr} {kws:List Keyword} {t tk:TA} {nm:Option Str}
structure vak (K:W.Frag) (fd:FuncData) (ps ks:List Str) (g:List Value->List Value->List Value) (gV:List V->List V->List V):Prop where
 to:∀ (s:Shared) (us ws:List Value),K.In s.heap->(g us ws).length=ps.length->BindsTo s fd ⟨us,ks.zip ws⟩ (ps.zip (g us ws))
 rel:∀ {vs:List V} {us:List Value} {zs:List V} {ws:List Value},wk vs us->wk zs ws->wk (gV vs zs) (g us ws)
variable {g:List Value->List Value->List Value} {gV:List V->List V->List V}
end
structure yo (N P:List Str) (sc:Scope):Prop where
 kind:sc.kind=.function
 co:sc.isCoroutine=false
 gen:sc.isGenerator=false
 nd:N.Nodup
 pre:N.take P.length=P
 par:∀ x∈P,sc.names.lookup x=some .local\/sc.names.lookup x=some .cell
 nofree:∀ y∈sc.names,y.2≠.free
theorem yeq {kindOf:Str->Option NameKind} :∀ {binds:List (Str × Value)} {m:Str->Option Value},(∀ v,(x,v)∉binds)->bindL kindOf binds m x=m x
 | [],_,_=>rfl
 | (n,v) :: r,m,h=>by
  unfold bindL
  rw [yeq fun w a=>h w (List.mem_cons_of_mem _ a)]
  split
  ·have:x≠n:=by rintro rfl; exact h v List.mem_cons_self
   simp [this]
  ·rfl
theorem yei {kindOf:Str->Option NameKind} :∀ {binds:List (Str × Value)} {m:Str->Option Value},(∀ v,(x,v)∉binds)->bindC kindOf binds m x=m x
 | [],_,_=>rfl
 | (n,v) :: r,m,h=>by
  unfold bindC
  rw [yei fun w a=>h w (List.mem_cons_of_mem _ a)]
  split
  ·rfl
  ·have:x≠n:=by rintro rfl; exact h v List.mem_cons_self
   simp [this]
theorem yen {kindOf:Str->Option NameKind} {v:Value}:∀ {P:List Str} {vs:List Value} {i:Nat} {m:Str->Option Value},P.Nodup->P[i]?=some x->vs[i]?=some v->kindOf x=some .local ->
  bindL kindOf (P.zip vs) m x=some v
 | [],_,_,_,_,h,_,_=>by simp at h
 | _ :: _,[],_,_,_,_,h,_=>by simp at h
 | p :: P,w :: vs,0,m,nd,h1,h2,hk=>by
  simp at h1 h2; subst h1; subst h2
  show bindL kindOf ((p,w) :: P.zip vs) m p=_
  unfold bindL
  rw [yeq fun v a=>(List.nodup_cons.mp nd).1 (List.of_mem_zip a).1,if_pos hk]
  simp
 | p :: P,w :: vs,i+1,m,nd,h1,h2,hk=>by
  show bindL kindOf ((p,w) :: P.zip vs) m x=_
  unfold bindL
  exact yen (i:=i) (List.nodup_cons.mp nd).2 (by simpa using h1) (by simpa using h2) hk
theorem yeg {kindOf:Str->Option NameKind} {v:Value}:∀ {P:List Str} {vs:List Value} {i:Nat} {m:Str->Option Value},P.Nodup->P[i]?=some x->vs[i]?=some v->kindOf x≠some .local ->
  bindC kindOf (P.zip vs) m x=some v
 | [],_,_,_,_,h,_,_=>by simp at h
 | _ :: _,[],_,_,_,_,h,_=>by simp at h
 | p :: P,w :: vs,0,m,nd,h1,h2,hk=>by
  simp at h1 h2; subst h1; subst h2
  show bindC kindOf ((p,w) :: P.zip vs) m p=_
  unfold bindC
  rw [yei fun v a=>(List.nodup_cons.mp nd).1 (List.of_mem_zip a).1,if_neg hk]
  simp
 | p :: P,w :: vs,i+1,m,nd,h1,h2,hk=>by
  show bindC kindOf ((p,w) :: P.zip vs) m x=_
  unfold bindC
  exact yeg (i:=i) (List.nodup_cons.mp nd).2 (by simpa using h1) (by simpa using h2) hk
def yah (N:List Str) (vs:List V):St:=vs.map some++List.replicate (N.length - vs.length) none
def wc (CX:CXT) (P:Program) (w:World) (K:W.Frag) (mg:Str->Option Value) (base:Heap) (N:List Str) (qual:Str) (scope:Scope) (f:Addr) (cd:Value) (A:Around) (outer:List Env) (s:Shared) (H:Hp) (E:XK):Cx where
 prog:=P
 w:=w
 K:=K
 mg:=mg
 base:=base
 A:=A.deeper (envOfC qual scope s.heap.objs.size f cd)
 N:=N
 s₀:=s
 H₀:=H
 env:=envOfC qual scope s.heap.objs.size f cd
 outer:=outer
 stack:=envOfC qual scope s.heap.objs.size f cd :: outer
 ex:=[]
 calm:=true
 fn:=fun _=>true
 pn:=[]
 xe:=fun e s'=>wpAny (model P w) (A.deeper (envOfC qual scope s.heap.objs.size f cd)) (leaving (envOfC qual scope s.heap.objs.size f cd) e) (fun _ s''=>CX outer H s E e s'') (fun e' s''=>CX outer H s E e' s'') s'
theorem yhi {sc:Scope} {n:Nat} (h:sc.names.lookup x=some .cell):∃ c,(cellsFrom n sc.names []).lookup x=some c:=by
 have q:=W.cellsFrom_some sc.names n [] (.inl h)
 exact Option.isSome_iff_exists.mp q
theorem yjt {w:World} {K:W.Frag} {mg:Str->Option Value} {base:Heap} {N ps:List Str} {qual:Str} {scope:Scope} {f:Addr} {cd:Value} {A:Around} {outer:List Env} {s s1:Shared} {E:XK} 
  (S:yo N ps scope) (hd:A.handled=none) (e0:ylu P w K mg base A outer s H) (hl:vs.length=ps.length) (r:wk vs us)
  (x:InCallC s s.heap.objs.size (bindL (envOfC qual scope s.heap.objs.size f cd).kindOf (ps.zip us) fun _=>none) (cellsFrom (s.heap.objs.size+1) scope.names []) (bindC (envOfC qual scope s.heap.objs.size f cd).kindOf (ps.zip us) fun _=>none) s1) :
  Inv (wc CX P w K mg base N qual scope f cd A outer s H E) [] (yah N vs) H s1:=by
 have D:ps.length <= N.length:=by have:=congrArg List.length S.pre; rw [List.length_take] at this; omega
 obtain ⟨t,J,rfl,C⟩:=x.done
 have j:∀ b:Addr,b∉(wc CX P w K mg base N qual scope f cd A outer s H E).ex:=fun b z=>absurd (show b∈([]:List Addr) from z) (by simp)
 refine ⟨⟨e0.mod,S.kind,rfl,rfl,Nat.le_refl _,fun y z c t d=>?_,fun y g=>?_,fun y c _ h=>?_,fun _=>hd,Around.frames_deeper e0.frames,.inr ⟨rfl,rfl⟩,fun b z=>absurd z (j b),e0.bs,e0.bsz,fun b _ _=>j b,fun b z=>absurd z (j b),e0.funs,e0.frf⟩,
  rfl,e0.bare,Un.kept C,⟨_,x.toInCall.ns,fun i y v t d I=>?_⟩,fun y c h=>⟨_,x.cell y c h⟩,e0.hok.fresh (Nat.le_refl _),fun y c h=>?_,fun p m=>absurd (show p∈([]:List (Addr × Obj)) from m) (by simp),e0.hok.kept C,?_⟩
 ·exact name_of_addr x.apart (PySem.mem_of_lookup t) (PySem.mem_of_lookup d)
 ·have g:scope.names.lookup y=some .cell\/scope.names.lookup y=some .free:=g
  rcases g with g | g
  ·exact yhi g
  ·exact absurd rfl (S.nofree _ (PySem.mem_of_lookup g))
 ·exact Nat.le_of_lt (x.above y c (PySem.mem_of_lookup h))
 ·have o:i < vs.length:=by
   unfold yah at d
   by_cases o:i < vs.length
   ·exact o
   ·rw [List.getElem?_append_right (by simpa using o)] at d
    rw [List.getElem?_replicate] at d
    split at d <;> cases d
  have F:vs[i]?=some v:=by
   unfold yah at d
   rw [List.getElem?_append_left (by simpa using o),List.getElem?_map] at d
   cases e:vs[i]? with
   | none=>rw [e] at d; cases d
   | some a=>rw [e] at d; cases d; rfl
  obtain ⟨u,B,G⟩:=r.get F
  have m:ps[i]?=some y:=by
   rw [<- S.pre,List.getElem?_take_of_lt (by omega)]; exact t
  have l:ps.Nodup:=by rw [<- S.pre]; exact S.nd.sublist (List.take_sublist _ _)
  refine ⟨u,G,?_⟩
  rcases S.par y (List.mem_of_getElem? m) with k | k
  ·exact .inl ⟨k,yen l m B k⟩
  ·obtain ⟨c,e⟩:=yhi (n:=s.heap.objs.size+1) k
   refine .inr ⟨.inl k,c,e,?_⟩
   have q:=x.cell y c e
   rw [yeg l m B (by show scope.names.lookup y≠_; rw [k]; decide)] at q
   exact q
 ·exact e0.hok.fresh (Nat.le_of_lt (x.above y c (PySem.mem_of_lookup h)))
 ·unfold yah
  show _=N.length
  rw [List.length_append,List.length_map,List.length_replicate]
  omega
theorem yne {w:World} {K:W.Frag} {mg:Str->Option Value} {base:Heap} {k:Nat} {f:Addr} {name qual:Str} {params:Arguments} {body:List Stmt} {scope:Scope} {dV kV doc pm cdv ct oc:Value} {an od:Option Addr}
  {osl:Array (Option Value)} {N ps:List Str} {sp:Sp} (lk:K.lookup f=some ⟨oc,od,.func (W.fnOf name qual params body scope dV kV doc pm an cdv ct),osl⟩) (hcd:W.codeIn K cdv qual=true) (S:yo N ps scope)
  (len:∀ vs H Q E,sp vs H Q E->vs.length=ps.length)
  (hbody:∀ (A:Around) (outer:List Env) (s:Shared) (H:Hp) (vs:List V) (Q:VK) (E:XK),zi k (A.deeper (envOfC qual scope s.heap.objs.size f cdv))->sp vs H Q E ->
   ∃ t,PSs (wc CX P w K mg base N qual scope f cdv A outer s H E) body t/\t { nx:=fun _ H'=>Q .non H',rt:=Q } (yah N vs) H) :
  wa P w K mg base CX (k+1) f (W.fnOf name qual params body scope dV kV doc pm an cdv ct) ps sp:=by
 refine ⟨len,fun A outer s H p L vs Q E l d R r h=>?_⟩
 have M:=len _ _ _ _ h
 have z:K.In s.heap:=d.mod.kin.keeps fun b o e=>(d.bs b o e).1
 have i:s.heap.NoLimit:=d.mod.nolimit.keeps fun b o e=>(d.bs b o e).1
 have a:∀ y∈ps.zip L,scope.names.lookup y.1=some .local\/(scope.names.lookup y.1=some .cell/\((cellsFrom (s.heap.objs.size+1) scope.names []).lookup y.1).isSome=true):=fun ⟨n,v⟩ F=>by
  rcases S.par n (List.of_mem_zip F).1 with q | q
  ·exact .inl q
  ·exact .inr ⟨q,W.cellsFrom_some _ _ _ (.inl q)⟩
 refine codeAny_call_function l.depth (z _ _ lk) rfl S.co S.gen rfl (W.codeRec_of z hcd) (R _ _ _ _ ?_)
 refine wpAny_newFunctionEnv_cells S.kind a fun T G B x=>?_
 subst G
 refine ⟨i.keeps x.toInCall.keep,codeAny_func ?_⟩
 obtain ⟨t,C,O⟩:=hbody A outer s H vs Q E (l.deeper _) h
 have I:Inv (wc CX P w K mg base N qual scope f cdv A outer s H E) [] (yah N vs) H B:=yjt S l.hd d M r x
 refine wpAny_mono (C [] B (yah N vs) H _ I O) (fun D m c=>?_) fun e m c=>c
 have g:∀ {σ':St} {H':Hp} {v:V} {u:Value},Inv (wc CX P w K mg base N qual scope f cdv A outer s H E) [] σ' H' m->wz v u->Q v H'->CE outer P w H s Q u m :=
  fun {σ' H' v u} J j q=>⟨v,H',J.os,J.bare,J.base,J.hok,j,q⟩
 cases D with
 | ret u =>
  obtain ⟨v,σ',H',J,j,q⟩:=c
  exact g J j q
 | next =>
  obtain ⟨σ',H',J,q⟩:=c
  exact g (v:=V.non) (u:=Value.none) J rfl q
 | brk =>
  obtain ⟨_,_,_,q⟩:=c
  exact False.elim q
 | cont =>
  obtain ⟨_,_,_,q⟩:=c
  exact False.elim q
section
variable {pos:Pos} {t:TA} {id T:String} {r:List V->Hp->VK->Prop}
def tCB (r:List V->Hp->VK->Prop) (t:TA):TE:=fun σ H Q=>t σ H fun vs H1=>r vs H1 Q
theorem yr (hc:je X (.builtin id) r) (hg:Gl X x) (hm:X.mg x=none) (hv:bootBuiltins x=some (.builtin id)) (ha:PA X (e :: es) t) (hn:x≠"__name__":=by decide) (hdb:(x == ("__debug__":Str))=false:=by decide)
  (he:starEach (e :: es) X.env=(false,eval e X.env) :: starEach es X.env:=by rfl) (hpl:(backTo pos (starEach es X.env)).any (·.1)=false:=by rfl):PE X (.Call (.Name x p) (e :: es) [] pos) (tCB r t):=by
 refine .mk fun a s σ H Q I h=>?_
 refine wpAny_Call_Name_kw (ycy I hg hm hv ?_ hn hdb)
 exact PyProof.Rows.callWith_builtin1 (thn (ha pos a s σ H _ I h) fun f j ⟨b,g,i,c,d⟩=>hc a j σ g b f Q i c d) he hpl
theorem vm (hc:je X (.type T) r) (hg:Gl X x) (hm:X.mg x=none) (hv:bootBuiltins x=some (.type T)) (ha:PA X (e :: es) t) (hn:x≠"__name__":=by decide) (hdb:(x == ("__debug__":Str))=false:=by decide)
  (he:starEach (e :: es) X.env=(false,eval e X.env) :: starEach es X.env:=by rfl) (hpl:(backTo pos (starEach es X.env)).any (·.1)=false:=by rfl):PE X (.Call (.Name x p) (e :: es) [] pos) (tCB r t):=by
 refine .mk fun a s σ H Q I h=>?_
 refine wpAny_Call_Name_kw (ycy I hg hm hv ?_ hn hdb)
 exact PyProof.Rows.callWith_type1 (thn (ha pos a s σ H _ I h) fun f j ⟨b,g,i,c,d⟩=>hc a j σ g b f Q i c d) he hpl
end
end L2
namespace HT
open PySem PyProof.Rows
section
open PySem.SeqAt
open PySem.AutoSeq1 (wpAny_loadPart')
open PySem.MeetsSeq PySem.MeetsSeq2 PySem.MeetsSeq3
end
section
variable {prog:Program} {w:World} {A:Around} {E:Value->Shared->Prop} {s:Shared}
def sIx (n d:Nat):Option Int->Nat
 | none=>d
 | some v=>if v < 0 then (v+(n:Int)).toNat else min v.toNat n
theorem sIx_none (n d:Nat):sIx n d none=d:=rfl
theorem sIx_nat (n d k:Nat):sIx n d (some (k:Int))=min k n:=by
 show (if (k:Int) < 0 then ((k:Int)+(n:Int)).toNat else min (k:Int).toNat n)=min k n
 rw [if_neg (by omega),Int.toNat_natCast]
theorem yun (n d:Nat) (hd:d <= n) (o:Option Int):sIx n d o <= n:=by
 cases o with
 | none=>exact hd
 | some v =>
  show (if v < 0 then (v+(n:Int)).toNat else min v.toNat n) <= n
  by_cases hv:v < 0
  ·rw [if_pos hv]; omega
  ·rw [if_neg hv]; exact Nat.min_le_right _ _
theorem yki (v:Int) (n d:Nat):(if v < 0 then max (v+(n:Int)) 0 else min v (n:Int))=((sIx n d (some v):Nat):Int):=by
 show (if v < 0 then max (v+(n:Int)) 0 else min v (n:Int))=(((if v < 0 then (v+(n:Int)).toNat else min v.toNat n):Nat):Int)
 by_cases hv:v < 0
 ·simp only [if_pos hv]; omega
 ·simp only [if_neg hv]; omega
theorem yia (lo hi:Option Int) (n:Nat):Builtin.Slice.sliceAdjust lo hi 1 (n:Int)=(((sIx n 0 lo:Nat):Int),((sIx n n hi:Nat):Int)):=by
 have a:¬ ((1:Int) < 0):=by omega
 unfold Builtin.Slice.sliceAdjust
 simp only [a,if_false]
 refine Prod.ext ?_ ?_
 ·cases lo with
  | none=>rfl
  | some v=>exact yki v n 0
 ·cases hi with
  | none=>rfl
  | some v=>exact yki v n n
theorem yih (i j:Nat):Builtin.Slice.slicePlaces (i:Int) (j:Int) 1=j - i:=by
 unfold Builtin.Slice.slicePlaces
 have a:(1:Int) > 0:=by omega
 simp only [a,if_true,Int.ediv_one]
 split <;> omega
theorem ych {v:Value} {o:Option Int} {Q:Option Int->Shared->Prop} (p:IsPart v o) (h:Q o s):wpAny (model prog w) A (Builtin.Slice.slicePartIndex v) Q E s:=by
 cases p with
 | none=>exact slicePart_none h
 | int i t=>exact slicePart_int h
theorem zd {sl:Addr} {vl vu:Value} {lo hi:Option Int} {n:Nat} {Q:Int × Int × Nat->Shared->Prop} (hs:s.heap.IsSliceOf sl vl vu .none) (pl:IsPart vl lo) (pu:IsPart vu hi)
  (h:Q (((sIx n 0 lo:Nat):Int),1,sIx n n hi - sIx n 0 lo) s):wpAny (model prog w) A (Builtin.Slice.sliceApplied (.ref sl) (pure (n:Int))) Q E s:=by
 obtain ⟨d,b,c,a⟩:=id hs
 unfold Builtin.Slice.sliceApplied Builtin.Slice.sliceFields
 refine wpAny_bind (wpAny_bind (wpAny_field b a (x:=vl) rfl (wpAny_bind (wpAny_field b a (x:=vu) rfl (wpAny_bind (wpAny_field b a (x:=.none) rfl (wpAny_pure ?_)))))))
 refine wpAny_bind (slicePart_none ?_)
 show wpAny _ _ (if ((1:Int) == 0)=true then _ else _) _ _ s
 rw [if_neg (by decide)]
 refine wpAny_bind (ych pl (wpAny_bind (ych pu (wpAny_bind (wpAny_pure ?_)))))
 show wpAny _ _ (match Builtin.Slice.sliceAdjust lo hi 1 (n:Int) with | (lo,hi)=>pure (lo,(1:Int),Builtin.Slice.slicePlaces lo hi 1)) _ _ s
 rw [yia lo hi n]
 show wpAny _ _ (pure (((sIx n 0 lo:Nat):Int),(1:Int),Builtin.Slice.slicePlaces ((sIx n 0 lo:Nat):Int) ((sIx n n hi:Nat):Int) 1)) _ _ s
 rw [yih]
 exact wpAny_pure h
theorem ymn (xs:Array Value) (i k:Nat):((List.range k).filterMap fun (m:Nat)=>xs[((i:Int)+(m:Int) * 1).toNat]?).toArray=((xs.toList.drop i).take k).toArray:=by
 have e:(fun (m:Nat)=>xs[((i:Int)+(m:Int) * 1).toNat]?)=fun m=>xs[i+m]?:=by
  funext m
  have:((i:Int)+(m:Int) * 1).toNat=i+m:=by omega
  rw [this]
 rw [e]
 have:=pick_run xs i k
 rw [List.filterMap_map] at this
 have a:((fun x=>xs[x]?) ∘ fun x=>i+x)=fun m=>xs[i+m]?:=rfl
 rw [a] at this
 rw [this]
theorem getItem_tuple_cut {t sl:Addr} {items:Array Value} {vl vu:Value} {lo hi:Option Int} {Q:Value->Shared->Prop} (ht:IsTup s.heap t items) (hs:s.heap.IsSliceOf sl vl vu .none) (pl:IsPart vl lo) (pu:IsPart vu hi)
  (hw:¬ (sIx items.size 0 lo=0/\sIx items.size items.size hi=items.size))
  (h:Q (.ref s.heap.objs.size) { s with heap:=s.heap.push { cls:=.type "tuple",data:=.seq ((items.toList.drop (sIx items.size 0 lo)).take (sIx items.size items.size hi - sIx items.size 0 lo)).toArray } })
  (hsz:items.size <= sizeLine):wpAny (model prog w) A (getItem (.ref t) (.ref sl)) Q E s:=by
 have a:sizeOk (.seq ((items.toList.drop (sIx items.size 0 lo)).take (sIx items.size items.size hi - sIx items.size 0 lo)).toArray):=by
  show ((items.toList.drop (sIx items.size 0 lo)).take (sIx items.size items.size hi - sIx items.size 0 lo)).toArray.size <= sizeLine
  rw [List.size_toArray,List.length_take,List.length_drop,Array.length_toList]
  omega
 have k:sIx items.size items.size hi <= items.size:=yun _ _ (Nat.le_refl _) hi
 obtain ⟨f,e,c,g⟩:=id hs
 have d:s.TypeIs (.ref sl) "slice":=⟨f,e,c⟩
 unfold getItem
 try with_reducible refine wpAny_holding ?_
 first | refine wpAny_bind (wpAny_pure ?_) | skip
 refine wpAny_bind (wpAny_sequenceKey ht.typeIs (by decide) ?_)
 refine wpAny_bind (wpAny_callSpecial?_slot (name:=Str.ofString "__getitem__") ht.typeIs PyProof.Rows.slot_tuple_getitem
  (wpAny_call_entry PyProof.Rows.slot_tuple_getitem ht.typeIs entry_tuple_getitem ?_ (args_tuple_getitem _ _)))
 show wpAny _ _ (Builtin.Tuple.tupleItemsOf (.ref t) >>= _) _ _ s
 refine wpAny_bind (tupleItemsOf_ ht ?_)
 refine wpAny_bind (wpAny_typeOf d ?_)
 rw [if_pos (by decide)]
 refine wpAny_bind (zd hs pl pu ?_)
 have b:¬ ((((sIx items.size 0 lo:Nat):Int) == 0 && (1:Int) == 1 && (sIx items.size items.size hi - sIx items.size 0 lo) == items.size)=true):=by
  intro q
  rw [Bool.and_eq_true,Bool.and_eq_true] at q
  have i:((sIx items.size 0 lo:Nat):Int)=0:=eq_of_beq q.1.1
  have j:sIx items.size items.size hi - sIx items.size 0 lo=items.size:=eq_of_beq q.2
  exact hw ⟨by omega,by omega⟩
 show wpAny _ _ (if (((sIx items.size 0 lo:Nat):Int) == 0 && (1:Int) == 1 && (sIx items.size items.size hi - sIx items.size 0 lo) == items.size)=true then _ else _) _ _ s
 rw [if_neg b,ymn]
 first
  | exact wpAny_bind (m:=Builtin.Tuple.tupleExact _) (wpAny_newObj_type (wpAny_pure ⟨_,rfl,wpAny_pure h⟩) a)
  | exact wpAny_bind (m:=Builtin.Tuple.tupleExact _) (wpAny_newObj_type (wpAny_bind (wpAny_pure (wpAny_pure ⟨_,rfl,wpAny_pure h⟩))) a)
  | exact wpAny_bind (wpAny_bind (m:=Builtin.Tuple.tupleExact _) (wpAny_newObj_type (wpAny_pure (wpAny_pure ⟨_,rfl,wpAny_pure h⟩)) a))
  | exact wpAny_bind (wpAny_bind (m:=Builtin.Tuple.tupleExact _) (wpAny_newObj_type (wpAny_pure ⟨_,rfl,wpAny_pure h⟩) a))
end
end HT
namespace L2
open PySem PySem.Spec PyProof.Rows
variable {pins:List (Addr × Obj)} {its:List Value} {v:Value}
abbrev TO:=St->Hp->(Option Int->Hp->Prop)->Prop
def PO (X:Cx) (e:Option Expr) (t:TO):Prop :=
 ∀ (pins:List (Addr × Obj)) (s:Shared) (σ:St) (H:Hp) (Q:Option Int->Hp->Prop),Inv X pins σ H s->t σ H Q ->
  wpAny (model X.prog X.w) X.A (evalPart e X.env) (fun u s'=>∃ o H',Inv X pins σ H' s'/\IsPart u o/\Q o H') X.xe s
def yj4:TO:=fun _ H Q=>Q none H
def yxp (t:TE):TO:=fun σ H Q=>t σ H fun x H1=>∃ i,x=.int i/\Q (some i) H1
section
variable {X:Cx} {e:Expr} {te:TE} {lo hi:Option Expr} {tl th:TO} {pos p2:Pos}
theorem ybt:PO X none yj4:=by
 intro a s σ H Q I h
 rw [evalPart_none]
 exact wpAny_pure ⟨none,H,I,.none,h⟩
theorem ybs (h:PE X e te):PO X (some e) (yxp te):=by
 intro a s σ H Q I b
 rw [evalPart_some]
 refine thn (h a s σ H _ I b) fun u j h'=>?_
 obtain ⟨x,g,f,c,d⟩:=h'
 obtain ⟨i,rfl,q⟩:=d
 obtain ⟨t,rfl⟩:=c
 exact ⟨some i,g,f,.int i t,q⟩
def SlR (X:Cx) (r:V->Option Int->Option Int->Hp->VK->Prop):Prop :=
 ∀ (pins:List (Addr × Obj)) (s:Shared) (σ:St) (H:Hp) (x:V) (v vl vu:Value) (lo hi:Option Int) (sl:Addr) (Q:VK),Inv X pins σ H s->wz x v->s.heap.IsSliceOf sl vl vu .none->IsPart vl lo->IsPart vu hi->r x lo hi H Q ->
  ∃ T id,typeLookup (.type T) "__getitem__"=pure (some (.builtin id))/\s.TypeIs v T/\wpAny (model X.prog X.w) X.A (getItem v (.ref sl)) (EP X pins σ Q) X.xe s
theorem SlR.or {r r':V->Option Int->Option Int->Hp->VK->Prop} (h:SlR X r) (h':SlR X r'):SlR X (fun x lo hi H Q=>r x lo hi H Q\/r' x lo hi H Q):=by
 intro a s σ H x v b i lo hi d Q I c f e g q
 rcases q with q | q
 ·exact h a s σ H x v b i lo hi d Q I c f e g q
 ·exact h' a s σ H x v b i lo hi d Q I c f e g q
def tSl (r:V->Option Int->Option Int->Hp->VK->Prop) (te:TE) (tl th:TO):TE:=fun σ H Q=>te σ H fun x H1=>tl σ H1 fun l H2=>th σ H2 fun u H3=>r x l u H3 Q
theorem jx {r:V->Option Int->Option Int->Hp->VK->Prop} (hr:SlR X r) (he:PE X e te) (hl:PO X lo tl) (hu:PO X hi th):PE X (.Subscript e (.Slice lo hi none p2) pos) (tSl r te tl th):=by
 refine .mk fun a s σ H Q I h=>?_
 refine Subscript_ (thn (he a s σ H _ I h) fun v J h'=>?_)
 obtain ⟨x,m,k,z,p⟩:=h'
 refine wpAny_Slice (thn (hl a J σ m _ k p) fun f D ⟨l,E,n,j,G⟩=>thn (hu a D σ E _ n G) fun d c h'=>?_)
 obtain ⟨u,g,t,y,C⟩:=h'
 rw [evalPart_none]
 refine wpAny_pure ?_
 have F:Inv X a σ g { c with heap:=c.heap.push { cls:=.type "slice",data:=.fields #[f,d,.none] } }:=t.kept (t':=c.toks) fun b K q=>Heap.get?_push_of_some _ q
 obtain ⟨T,id,B,i,o⟩:=hr a { c with heap:=c.heap.push { cls:=.type "slice",data:=.fields #[f,d,.none] } } σ g x v f d l u c.heap.objs.size Q F z (Heap.IsSliceOf.new ..) j y C
 show wpAny (model X.prog X.w) X.A (subscriptTail e (.Slice lo hi none p2) v (.ref c.heap.objs.size)) (EP X a σ Q) X.xe { c with heap:=c.heap.push { cls:=.type "slice",data:=.fields #[f,d,.none] } }
 exact tail_any (ops:=[.ref c.heap.objs.size,v]) i B o (by with_unfolding_all rfl)
def yi0 (xs:List V) (lo hi:Option Int):List V:=(xs.drop (HT.sIx xs.length 0 lo)).take (HT.sIx xs.length xs.length hi - HT.sIx xs.length 0 lo)
theorem ybg (xs:List V) (lo hi:Option Int):(yi0 xs lo hi).length <= xs.length:=by
 unfold yi0
 rw [List.length_take,List.length_drop]
 omega
def vbb (K:W.Frag):V->Option Int->Option Int->Hp->VK->Prop:=fun x lo hi H Q=>∃ a xs,x=.ref a/\SqT K H a xs /\
 ¬ (HT.sIx xs.length 0 lo=0/\HT.sIx xs.length xs.length hi=xs.length)/\∀ p,H p=none->Q (.ref p) (upd H p (.tup (yi0 xs lo hi)))
theorem yt0:SlR X (vbb X.K):=by
 intro i s σ H x v u y lo e w Q I l n m p h
 obtain ⟨a,d,rfl,t,k,q⟩:=h
 cases l
 obtain ⟨f,r,g,j⟩:=I.tuple t
 have c:f.toArray.size=d.length:=by rw [List.size_toArray]; exact r.length.symm
 refine ⟨"tuple",_,PyProof.Rows.slot_tuple_getitem.lookup,g.typeIs,?_⟩
 refine HT.getItem_tuple_cut g n m p (by rw [c]; exact k) ?_ (by rw [c]; exact j)
 rw [c]
 refine ⟨.ref s.heap.objs.size,_,I.laid (t':=s.toks) (o:=.tup (yi0 d lo e)) (fun b z q=>Heap.get?_push_of_some _ q) (Nat.le_refl _) ?_,rfl,q _ (I.hok.fresh (Nat.le_refl _))⟩
 exact ⟨Nat.le_trans (ybg d lo e) j,_,(r.drop (HT.sIx d.length 0 lo)).take (HT.sIx d.length d.length e - HT.sIx d.length 0 lo),IsTup.new _ _⟩
end
def ixN (n:Nat) (i:Int):Option Nat:=if 0 <= i then (if i < n then some i.toNat else none) else if -(n:Int) <= i then some (i+n).toNat else none
def atI {α:Type} (xs:List α) (i:Int):Option α:=(ixN xs.length i).bind fun j=>xs[j]?
theorem ykd {n:Nat} {i:Int} {j:Nat} (h:ixN n i=some j):seqIndex? i n=some j/\j < n/\-(n:Int) <= i/\i < n:=by
 unfold ixN at h
 by_cases h0:0 <= i
 ·rw [if_pos h0] at h
  by_cases h1:i < n
  ·rw [if_pos h1] at h
   have e:i.toNat=j:=Option.some.inj h
   exact ⟨by rw [seqIndex_of h0 h1,e],by omega,by omega,h1⟩
  ·rw [if_neg h1] at h; cases h
 ·rw [if_neg h0] at h
  by_cases h1:-(n:Int) <= i
  ·rw [if_pos h1] at h
   have e:(i+n).toNat=j:=Option.some.inj h
   exact ⟨by rw [seqIndex_neg (by omega) h1,e],by omega,h1,by omega⟩
  ·rw [if_neg h1] at h; cases h
theorem yka {α:Type} {xs:List α} {i:Int} {v:α} (h:atI xs i=some v):∃ j,seqIndex? i xs.length=some j/\xs[j]?=some v/\j < xs.length/\-(xs.length:Int) <= i/\i < xs.length:=by
 unfold atI at h
 cases e:ixN xs.length i with
 | none=>rw [e] at h; cases h
 | some j =>
  rw [e] at h
  obtain ⟨d,b,a,c⟩:=ykd e
  exact ⟨j,d,h,b,a,c⟩
theorem xx {α:Type} {xs:List α} {j:Nat} {v:α} (h:xs[j]?=some v):atI xs (j:Int)=some v:=by
 have a:j < xs.length:=(List.getElem?_eq_some_iff.mp h).1
 have e:ixN xs.length (j:Int)=some j:=by
  unfold ixN
  rw [if_pos (by omega),if_pos (by omega)]; simp
 unfold atI; rw [e]; exact h
def yrt (b:Expr):Prop:=∀ o i,subscripted b false o i=operate [o,i] (getItem o i)
def IxR (X:Cx) (r:R2):Prop :=
 ∀ (value slice:Expr) (pins:List (Addr × Obj)) (s:Shared) (σ:St) (H:Hp) (x y:V) (v u:Value) (Q:VK),Inv X pins σ H s->wz x v->wz y u->r x y H Q ->
  subscripted slice false v u=operate [v,u] (getItem v u)->wpAny (model X.prog X.w) X.A (subscriptTail value slice v u) (EP X pins σ Q) X.xe s
def MtR (X:Cx) (id:String) (r:V->List V->Hp->VK->Prop):Prop :=
 ∀ (pins:List (Addr × Obj)) (s:Shared) (σ:St) (H:Hp) (x:V) (xs:List V) (v:Value) (us:List Value) (Q:VK),Inv X pins σ H s->wz x v->wk xs us->r x xs H Q ->
  wpAny (model X.prog X.w) X.A (call (.builtin id) (v :: us)) (EP X pins σ Q) X.xe s
section
variable {X:Cx} {a b:Expr} {ta tb:TE} {pos:Pos}
theorem IxR.or {r r':R2} (h:IxR X r) (h':IxR X r'):IxR X (fun x y H Q=>r x y H Q\/r' x y H Q):=by
 intro a b c s σ H x y v u Q I d f q e
 rcases q with q | q
 ·exact h a b c s σ H x y v u Q I d f q e
 ·exact h' a b c s σ H x y v u Q I d f q e
theorem MtR.or {id:String} {r r':V->List V->Hp->VK->Prop} (h:MtR X id r) (h':MtR X id r'):MtR X id (fun x xs H Q=>r x xs H Q\/r' x xs H Q):=by
 intro a s σ H x xs v c Q I d b q
 rcases q with q | q
 ·exact h a s σ H x xs v c Q I d b q
 ·exact h' a s σ H x xs v c Q I d b q
theorem uj {r:R2} (hr:IxR X r) (ha:PE X a ta) (hb:PE X b tb) (hs:yrt b):PE X (.Subscript a b pos) (tOp r ta tb):=by
 refine .mk fun c s σ H Q I h=>?_
 exact Subscript_ (vah ha hb I h fun v u f x y i e d g q=>hr a b c f σ i x y v u Q e d g q (hs _ _))
def va4 (K:W.Frag):R2:=fun x y H Q=>∃ p xs i v,x=.ref p/\y=.int i/\SqL K H p xs/\atI xs i=some v/\Q v H
def vaw (K:W.Frag):R2:=fun x y H Q=>∃ p xs i v,x=.ref p/\y=.int i/\SqT K H p xs/\atI xs i=some v/\Q v H
theorem wy:IxR X (va4 X.K):=by
 intro d f a s σ H x y v u Q I D A h n
 obtain ⟨p,M,i,z,rfl,rfl,F,C,q⟩:=h
 cases D
 obtain ⟨t,rfl⟩:=A
 obtain ⟨g,r,e,L⟩:=I.list F
 obtain ⟨j,c,B,N,J,o⟩:=yka C
 obtain ⟨w,m,k⟩:=r.get B
 have E:=r.length
 have O:=yhy
 have b:EP X a σ Q w s:=⟨z,H,I,k,q⟩
 by_cases h0:0 <= i
 ·have l:i.toNat=j:=by
   rw [seqIndex_of h0 o] at c
   exact Option.some.inj c
  exact item_listR e.isList h0 (by omega) (by rw [l]; simpa using m) b n
 ·have l:(i+(g.toArray.size:Int)).toNat=j:=by
   rw [seqIndex_neg (by omega) J] at c
   rw [List.size_toArray,<- E]
   exact Option.some.inj c
  exact subscriptTail_builtinR (x:=w) e.isList.typeIs slot_list_getitem.lookup
   (wpAny_getItem_list_neg (Q:=fun r G=>r=w/\EP X a σ Q r G) e.isList (by omega) (by rw [List.size_toArray] <;> omega) (by omega) (by rw [l]; simpa using m) ⟨rfl,b⟩) n
theorem yh2:IxR X (vaw X.K):=by
 intro b c a s σ H x y v u Q I n g h E
 obtain ⟨p,J,i,z,rfl,rfl,C,m,q⟩:=h
 cases n
 obtain ⟨t,rfl⟩:=g
 obtain ⟨k,r,f,G⟩:=I.tuple C
 obtain ⟨j,B,l,M,L,F⟩:=yka m
 obtain ⟨w,o,d⟩:=r.get l
 have A:=r.length
 have N:=yhy
 have e:EP X a σ Q w s:=⟨z,H,I,d,q⟩
 exact subscriptTail_builtinR (x:=w) f.typeIs slot_tuple_getitem.lookup
  (getItem_tuple (j:=j) (Q:=fun r D=>r=w/\EP X a σ Q r D) f (by omega) (by omega) (by rw [List.size_toArray,<- A]; exact B) (by simpa using o) ⟨rfl,e⟩) E
theorem yil (its:List Value) (n j:Nat) (u:Value):Obj.mapSeq (·.setIfInBounds j u) { cls:=.type "list",data:=.seq its.toArray n }={ cls:=.type "list",data:=.seq (its.set j u).toArray n }:=by
 simp [Obj.mapSeq]
theorem Inv.lst {σ:St} {H:Hp} {s:Shared} {p:Addr} {xs:List V} (I:Inv X pins σ H s) (h:H p=some (.lst xs)) :
  ∃ (its:List Value) (n:Nat),wk xs its/\s.heap.get? p=some { cls:=.type "list",data:=.seq its.toArray n }/\xs.length <= sizeLine:=by
 obtain ⟨z,its,n,r,e⟩:=I.hok p _ h
 exact ⟨its,n,r,e,z⟩
theorem Inv.lstUpd {σ:St} {H:Hp} {s:Shared} {p:Addr} {xs ys:List V} {its':List Value} {n n':Nat} {f:Obj->Obj} (I:Inv X pins σ H s) (h:H p=some (.lst xs))
  (ho:s.heap.get? p=some { cls:=.type "list",data:=.seq its.toArray n }) (hf:f { cls:=.type "list",data:=.seq its.toArray n }={ cls:=.type "list",data:=.seq its'.toArray n' }) (r:wk ys its') (hz:ys.length <= sizeLine) (t:Nat) :
  Inv X pins σ (upd H p (.lst ys)) { s with heap:=s.heap.update p f,toks:=t }:=by
 have e:(s.heap.update p f).get? p=some { cls:=.type "list",data:=.seq its'.toArray n' }:=by
  rw [Heap.get?_update_self f ho (by rw [hf] <;> rfl),hf]
 refine I.write (x:=p) (e:=p) (by rw [h]; trivial) (.inl rfl) (fun b u a q=>(Heap.get?_update_other _ _ (Ne.symm a)).trans q) ⟨_,e⟩ ?_
 exact ⟨hz,its',n',r,e⟩
def yy3:V->V->V->Hp->(Hp->Prop)->Prop:=fun o i v H Q=>∃ p xs k j,o=.ref p/\i=.int k/\H p=some (.lst xs)/\ixN xs.length k=some j/\Q (upd H p (.lst (xs.set j v)))
theorem yl4:vay X yy3:=by
 intro b s σ H o i v D F u Q I B C z h
 obtain ⟨p,y,k,j,rfl,rfl,w,A,q⟩:=h
 cases B
 obtain ⟨t,rfl⟩:=C
 obtain ⟨a,n,r,d,x⟩:=I.lst w
 obtain ⟨c,E,m,l⟩:=ykd A
 have e:=r.length
 have G:=yhy
 have g:Inv X b σ (upd H p (.lst (y.set j v))) { s with heap:=s.heap.update p (Obj.mapSeq (·.setIfInBounds j u)) } :=
  I.lstUpd w d (yil a n j u) (r.set z j) (by rw [List.length_set]; exact x) s.toks
 by_cases h0:0 <= k
 ·have f:k.toNat=j:=by
   rw [seqIndex_of h0 l] at c
   exact Option.some.inj c
  exact W.ki_setAt d h0 (by omega) (by rw [List.size_toArray,<- e]; exact l) (by rw [f]; exact ⟨_,g,q⟩)
 ·have f:(k+(a.toArray.size:Int)).toNat=j:=by
   rw [seqIndex_neg (by omega) m] at c
   rw [List.size_toArray,<- e]
   exact Option.some.inj c
  exact W.ki_setBack d (by omega) (by rw [List.size_toArray,<- e]; exact m) (by omega) (by rw [f]; exact ⟨_,g,q⟩)
theorem yd6 (lo hi:Option Int) (n:Nat):(sliceBounds lo hi none n).1=((HT.sIx n 0 lo:Nat):Int)/\(sliceBounds lo hi none n).2.1=((HT.sIx n n hi:Nat):Int)/\(sliceBounds lo hi none n).2.2=1:=by
 refine ⟨?_,?_,rfl⟩
 ·cases lo with
  | none=>simp [sliceBounds,HT.sIx]
  | some i =>
   simp only [sliceBounds,HT.sIx,Option.getD_none,show (1:Int) > 0 by decide,if_true]
   by_cases h:i < 0
   ·simp only [h,if_true] <;> omega
   ·simp only [h,if_false] <;> omega
 ·cases hi with
  | none=>simp [sliceBounds,HT.sIx]
  | some i =>
   simp only [sliceBounds,HT.sIx,Option.getD_none,show (1:Int) > 0 by decide,if_true]
   by_cases h:i < 0
   ·simp only [h,if_true] <;> omega
   ·simp only [h,if_false] <;> omega
theorem yc4 (its:List Value) (lo hi:Option Int):slicePick its.toArray lo hi none=((its.drop (HT.sIx its.length 0 lo)).take (HT.sIx its.length its.length hi - HT.sIx its.length 0 lo)).toArray:=by
 obtain ⟨c,a,b⟩:=yd6 lo hi its.toArray.size
 unfold slicePick
 rw [c,a,b]
 simp only [sliceRange_one,pick_run,List.size_toArray] <;> rfl
def var (K:W.Frag):V->Option Int->Option Int->Hp->VK->Prop:=fun x lo hi H Q=>∃ a xs,x=.ref a/\SqL K H a xs/\∀ p,H p=none->Q (.ref p) (upd H p (.lst (yi0 xs lo hi)))
theorem ydy:SlR X (var X.K):=by
 intro g s σ H x v t w lo e u Q I i k j m h
 obtain ⟨a,c,rfl,p,q⟩:=h
 cases i
 obtain ⟨n,r,f,l⟩:=I.list p
 have d:=r.length
 refine ⟨"list",_,slot_list_getitem.lookup,f.isList.typeIs,?_⟩
 refine wpAny_getItem_list_slice f.isList k j m .none (by simp) ?_ (by rw [List.size_toArray] <;> omega)
 rw [yc4,<- d]
 refine ⟨.ref s.heap.objs.size,_,I.laid (t':=s.toks) (o:=.lst (yi0 c lo e)) (fun b y q=>Heap.get?_push_of_some _ q) (Nat.le_refl _) ?_,rfl,q _ (I.hok.fresh (Nat.le_refl _))⟩
 exact ⟨Nat.le_trans (ybg c lo e) l,_,0,(r.drop (HT.sIx c.length 0 lo)).take (HT.sIx c.length c.length e - HT.sIx c.length 0 lo),Heap.get?_push_size _ rfl⟩
def yfj:V->Bool
 | .non=>true
 | .bl _=>true
 | .int _=>true
 | .str _=>true
 | _=>false
def eqV:V->V->Bool
 | .non,.non=>true
 | .bl a,.bl b=>a == b
 | .bl a,.int b=>(if a then 1 else 0) == b
 | .int a,.bl b=>a == (if b then 1 else 0)
 | .int a,.int b=>a == b
 | .str a,.str b=>a == b
 | _,_=>false
theorem yui {A:Around} {s:Shared} {y x:V} {u:Value} (ry:wz y u) (rx:wz x v) (fy:yfj y=true) (fx:yfj x=true):SeqAt.EqAt A s u v (eqV y x):=by
 cases y with
 | non =>
  cases ry
  cases x with
  | non=>cases rx; exact SeqAt.EqAt.same _
  | bl b=>cases rx; exact SeqAt.EqAt.none_bool b
  | int b=>obtain ⟨t,rfl⟩:=rx; exact SeqAt.EqAt.none_int b t
  | str b=>obtain ⟨t,rfl⟩:=rx; exact SeqAt.EqAt.none_str b t
  | _=>exact absurd (show false=true from fx) Bool.false_ne_true
 | bl a =>
  cases ry
  cases x with
  | non=>cases rx; exact SeqAt.EqAt.bool_none a
  | bl b=>cases rx; exact SeqAt.EqAt.bool_bool a b
  | int b=>obtain ⟨t,rfl⟩:=rx; exact SeqAt.EqAt.bool_int a b t
  | str b=>obtain ⟨t,rfl⟩:=rx; exact SeqAt.EqAt.bool_str a b t
  | _=>exact absurd (show false=true from fx) Bool.false_ne_true
 | int a =>
  obtain ⟨c,rfl⟩:=ry
  cases x with
  | non=>cases rx; exact SeqAt.EqAt.int_none a c
  | bl b=>cases rx; exact SeqAt.EqAt.int_bool a c b
  | int b=>obtain ⟨t,rfl⟩:=rx; exact SeqAt.EqAt.int_int a c b t
  | str b=>obtain ⟨t,rfl⟩:=rx; exact SeqAt.EqAt.int_str a c b t
  | _=>exact absurd (show false=true from fx) Bool.false_ne_true
 | str a =>
  obtain ⟨c,rfl⟩:=ry
  cases x with
  | non=>cases rx; exact SeqAt.EqAt.str_none a c
  | bl b=>cases rx; exact SeqAt.EqAt.str_bool a c b
  | int b=>obtain ⟨t,rfl⟩:=rx; exact SeqAt.EqAt.str_int a c b t
  | str b=>obtain ⟨t,rfl⟩:=rx; exact SeqAt.EqAt.str_str a c b t
  | _=>exact absurd (show false=true from fx) Bool.false_ne_true
 | _=>exact absurd (show false=true from fy) Bool.false_ne_true
def eqU (x:V) (u:Value):Bool:=match u with
 | .none=>eqV .non x
 | .bool b=>eqV (.bl b) x
 | .int i _=>eqV (.int i) x
 | .str z _=>eqV (.str z) x
 | _=>false
theorem yn5 {x y:V} {u:Value} (r:wz y u) (f:yfj y=true):eqU x u=eqV y x:=by
 cases y with
 | non=>cases r; rfl
 | bl b=>cases r; rfl
 | int i=>obtain ⟨t,rfl⟩:=r; rfl
 | str z=>obtain ⟨t,rfl⟩:=r; rfl
 | _=>exact absurd (show false=true from f) Bool.false_ne_true
theorem ygd {x:V}:∀ {xs:List V} {us:List Value},wk xs us->xs.all yfj=true->us.any (eqU x)=xs.any fun y=>eqV y x
 | _,_,.nil,_=>rfl
 | y :: xs,u :: us,.cons r t,f=>by
  rw [List.all_cons,Bool.and_eq_true] at f
  rw [List.any_cons,List.any_cons,yn5 r f.1,ygd t f.2]
theorem ydq {A:Around} {s:Shared} {x:V} (rx:wz x v) (fx:yfj x=true):∀ {xs:List V} {us:List Value},wk xs us->xs.all yfj=true->∀ u∈us,SeqAt.EqAt A s u v (eqU x u)
 | _,_,.nil,_=>fun u a=>by cases a
 | y :: xs,u :: us,.cons r t,f=>fun b a=>by
  rw [List.all_cons,Bool.and_eq_true] at f
  rcases List.mem_cons.mp a with rfl | a
  ·rw [yn5 r f.1]; exact yui r rx f.1 fx
  ·exact ydq rx fx t f.2 b a
def inV (x:V) (xs:List V):Bool:=xs.any fun y=>eqV y x
def rIn (K:W.Frag) (neg:Bool):R2:=fun x y H Q=>∃ p xs,y=.ref p/\(SqL K H p xs\/SqT K H p xs)/\yfj x=true/\xs.all yfj=true/\Q (.bl (if neg then !inV x xs else inV x xs)) H
theorem yjr:OpR X (compareOp .In) (rIn X.K false):=by
 intro i s σ H x y v u Q I f k h
 obtain ⟨p,l,rfl,b,g,c,q⟩:=h
 cases k
 rcases b with b | b
 ·obtain ⟨a,r,e,j⟩:=I.list b
  refine SeqAt.in_listAt (eqU x) e.isList (fun w d=>ydq f g r c w (by simpa using d)) ⟨.bl _,H,I,rfl,?_⟩
  rw [show a.toArray.any (eqU x)=a.any (eqU x) by simp,ygd r c]
  exact q
 ·obtain ⟨a,r,e,j⟩:=I.tuple b
  refine SeqAt.in_tupleAt (eqU x) e (fun w d=>ydq f g r c w (by simpa using d)) ⟨.bl _,H,I,rfl,?_⟩
  rw [show a.toArray.any (eqU x)=a.any (eqU x) by simp,ygd r c]
  exact q
theorem y9:je X (.builtin "len") (fun xs H Q=>∃ p ys,xs=[.ref p]/\(SqL X.K H p ys\/SqT X.K H p ys)/\Q (.int ys.length) H):=by
 intro f s σ H xs k Q I r h
 obtain ⟨p,ys,rfl,b,q⟩:=h
 obtain ⟨u,rfl,g⟩:=yll r
 cases g
 have j:=yhy
 rcases b with b | b
 ·obtain ⟨e,c,d,i⟩:=I.list b
  have a:=c.length
  exact Calls.call_len_list d.isList (by simp only [List.size_toArray] <;> omega) ⟨.int ys.length,H,I.tok _,⟨s.toks+1,by rw [List.size_toArray,a]⟩,q⟩
 ·obtain ⟨e,c,d,i⟩:=I.tuple b
  have a:=c.length
  exact len_tuple d (by simp only [List.size_toArray] <;> omega) ⟨.int ys.length,H,I.tok _,⟨s.toks+1,by rw [List.size_toArray,a]⟩,q⟩
theorem je.or {f:Value} {r r':List V->Hp->VK->Prop} (h:je X f r) (h':je X f r'):je X f (fun xs H Q=>r xs H Q\/r' xs H Q):=by
 intro a s σ H xs c Q I b q
 rcases q with q | q
 ·exact h a s σ H xs c Q I b q
 ·exact h' a s σ H xs c Q I b q
theorem vi:je X (.type "list") (fun xs H Q=>∃ p ys,xs=[.ref p]/\(SqL X.K H p ys\/SqT X.K H p ys)/\∀ l,H l=none->Q (.ref l) (upd H l (.lst ys))):=by
 intro i s σ H xs B Q I r h
 obtain ⟨p,ys,rfl,t,q⟩:=h
 obtain ⟨u,rfl,A⟩:=yll r
 cases A
 have k:∀ (a:List Value),wk ys a->ys.length <= sizeLine->∀ (c:Heap) (f:Nat),(∀ b o',s.heap.get? b=some o'->c.get? b=some o') ->
   c.get? s.heap.objs.size=some { cls:=.type "list",dict:=none,data:=.seq a.toArray f,slots:=#[] }->EP X i σ Q (.ref s.heap.objs.size) { s with heap:=c }:=fun a d m c f j e =>
  ⟨.ref s.heap.objs.size,_,I.laid (t':=s.toks) j (Nat.le_refl _) (show xa X.prog X.w _ c _ (.lst ys) from ⟨m,a,f,d,e⟩),rfl,q _ (I.hok.fresh (Nat.le_refl _))⟩
 rcases t with t | t
 ·obtain ⟨a,d,x,m⟩:=I.list t
  have g:=d.length
  obtain ⟨o,z,y,n,v⟩:=x.isList
  exact call_list_seq p (.inl rfl) z y v (fun c f j e=>k a d m c f j e) (by simp only [List.size_toArray] <;> omega)
 ·obtain ⟨a,d,x,m⟩:=I.tuple t
  have g:=d.length
  obtain ⟨o,z,y,n,v⟩:=x
  exact call_list_seq p (.inr rfl) z y v (fun c f j e=>k a d m c f j e) (by simp only [List.size_toArray] <;> omega)
theorem xq:je X (.type "tuple") (fun xs H Q=>∃ p ys,xs=[.ref p]/\((SqL X.K H p ys/\∀ l,H l=none->Q (.ref l) (upd H l (.tup ys)))\/(SqT X.K H p ys/\Q (.ref p) H))):=by
 intro a s σ H xs x Q I r h
 obtain ⟨p,ys,rfl,h⟩:=h
 obtain ⟨u,rfl,n⟩:=yll r
 cases n
 rcases h with ⟨i,q⟩ | ⟨i,q⟩
 ·obtain ⟨c,f,g,m⟩:=I.list i
  have j:=f.length
  refine call_tuple_list g.isList (fun d v=>?_) (by simp only [List.size_toArray] <;> omega)
  have k:Inv X a σ H { s with heap:=d }:=I.kept (t':=s.toks) v
  have t:Inv X a σ (upd H d.objs.size (.tup ys)) { s with heap:=d.push { cls:=.type "tuple",data:=.seq c.toArray } } :=
   k.laid (t':=s.toks) (fun b o e=>Heap.get?_push_of_some _ e) (Nat.le_refl _) (show xa X.prog X.w _ _ _ (.tup ys) from ⟨m,c,f,IsTup.new _ _⟩)
  exact ⟨.ref d.objs.size,_,t,rfl,q _ (k.hok.fresh (Nat.le_refl _))⟩
 ·obtain ⟨c,f,g,m⟩:=I.tuple i
  exact call_tuple_same g ⟨.ref p,H,I,rfl,q⟩
def tyV (K:W.Frag) (T:String) (x:V) (H:Hp):Prop:=match x with
 | .str _=>T="str"
 | .int _=>T="int"
 | .ref p=>(T="list"/\∃ xs,SqL K H p xs)\/(T="tuple"/\∃ o,K.lookup p=some o/\o.cls=.type "tuple"/\o.dict=none) \/
   (T="dict"/\((∃ kvs,H p=some (.dK kvs))\/∃ kvs,H p=some (.dT kvs)))\/(T="set"/\∃ S n,H p=some (.set S n))
 | _=>False
theorem yo8 {σ:St} {H:Hp} {s:Shared} {T:String} {x:V} (I:Inv X pins σ H s) (r:wz x v) (ty:tyV X.K T x H) :
  s.TypeIs v T/\∀ a,v=.ref a->∃ ob,s.heap.get? a=some ob/\ob.dict=none:=by
 cases x with
 | str z =>
  obtain ⟨t,rfl⟩:=r
  cases (show T="str" from ty)
  exact ⟨typeIs_str s z t,fun _ e=>nomatch e⟩
 | int i =>
  obtain ⟨t,rfl⟩:=r
  cases (show T="int" from ty)
  exact ⟨typeIs_int s i t,fun _ e=>nomatch e⟩
 | ref p =>
  cases r
  rcases ty with ⟨rfl,q,l⟩ | ⟨rfl,o,b,k,f⟩ | ⟨rfl,b⟩ | ⟨rfl,S,n,b⟩
  ·obtain ⟨m,_,j,_⟩:=I.list l
   refine ⟨j.isList.typeIs,fun a e=>?_⟩
   cases e
   obtain ⟨o,n,e,c,f,_⟩:=j
   exact ⟨o,e,f⟩
  ·refine ⟨⟨o,I.kIn p o b,k⟩,fun a e=>?_⟩
   cases e
   exact ⟨o,I.kIn _ o b,f⟩
  ·have z:∃ o,s.heap.get? p=some o/\o.ExactDict:=by
    rcases b with ⟨g,b⟩ | ⟨g,b⟩
    ·obtain ⟨_,_,_,_,o,_,_,e,d,_⟩:=I.hok p _ b
     exact ⟨o,e,d⟩
    ·obtain ⟨_,_,_,_,o,_,_,e,d,_⟩:=I.hok p _ b
     exact ⟨o,e,d⟩
   obtain ⟨o,e,d⟩:=z
   refine ⟨⟨o,e,d.1⟩,fun a h=>?_⟩
   cases h
   exact ⟨o,e,d.2.1⟩
  ·obtain ⟨o,_,_,_,e,d,_⟩:=I.hok p _ b
   refine ⟨⟨o,e,d.1⟩,fun a h=>?_⟩
   cases h
   exact ⟨o,e,d.2.1⟩
 | _=>exact False.elim ty
def vaq (K:W.Frag) (T:String) (r:V->List V->Hp->VK->Prop) (to:TE):TE:=fun σ H Q=>to σ H fun x H1=>tyV K T x H1/\r x [] H1 Q
def tBM (K:W.Frag) (T:String) (r:V->List V->Hp->VK->Prop) (to:TE) (t:TA):TE:=fun σ H Q=>to σ H fun x H1=>tyV K T x H1/\t σ H1 fun xs H2=>r x xs H2 Q
variable {o e:Expr} {es:List Expr} {to:TE} {t:TA} {name:Str} {apos cpos:Pos} {T id:String} {r:V->List V->Hp->VK->Prop}
theorem yn6 (pa:PlainAttrs T) (slot:Slot T name id) (hty:typeOf (.builtin id)=pure (.type "method_descriptor")) (hm:MtR X id r) (ho:PE X o to)
  (hbase:attributeBase o name X.env (eval o X.env)=eval o X.env:=by rfl) (hline:(apos.endLine == cpos.line)=true:=by rfl):PE X (.Call (.Attribute o name apos) [] [] cpos) (vaq X.K T r to):=by
 refine .mk fun a s σ H Q I h=>?_
 refine wpAny_Call_method0_late hbase hline (thn (ho a s σ H _ I h) fun v j h'=>?_)
 obtain ⟨x,g,c,b,d,f⟩:=h'
 obtain ⟨i,e⟩:=yo8 c b d
 exact ⟨T,id,pa,slot,hty,i,e,Calls.callWith_builtin rfl (PySem.evalArgs_none (hm a j σ g x [] v [] Q c b .nil f))⟩
theorem yb4 (pa:PlainAttrs T) (slot:Slot T name id) (hty:typeOf (.builtin id)=pure (.type "method_descriptor")) (hm:MtR X id r) (ho:PE X o to) (ha:PA X (e :: es) t)
  (hbase:attributeBase o name X.env (eval o X.env)=eval o X.env:=by rfl)
  (hfew:((backTo cpos (starEach (e :: es) X.env)).all (fun x=>!x.1) && (backToKw cpos (keywordEach [] X.env)).all (fun x=>x.1.isSome)
   && decide ((e :: es).length+([]:List Keyword).length+(if ([]:List Keyword).isEmpty then 0 else 1) < 30))=true:=by rfl)
  (hline:(apos.endLine == cpos.line)=true:=by rfl) (hs:starEach (e :: es) X.env=(false,eval e X.env) :: starEach es X.env:=by rfl) (hplain:(backTo cpos (starEach es X.env)).any (·.1)=false:=by rfl) :
  PE X (.Call (.Attribute o name apos) (e :: es) [] cpos) (tBM X.K T r to t):=by
 refine .mk fun a s σ H Q I h=>?_
 refine wpAny_Call_method_late hbase hfew hline rfl (thn (ho a s σ H _ I h) fun v y h'=>?_)
 obtain ⟨x,n,c,b,f,m⟩:=h'
 obtain ⟨q,g⟩:=yo8 c b f
 refine ⟨T,id,pa,slot,hty,q,g,?_⟩
 have d:=ha cpos a y σ n _ c m
 rw [hs] at d ⊢
 refine Calls.callWith_builtin (by show (false || (backTo cpos (starEach es X.env)).any (·.1))=false; rw [hplain] <;> rfl) (Calls.evalArgs_plain ?_)
 exact thn d fun p j ⟨k,u,l,i,w⟩=>hm a j σ u x k v p Q l b i w
end
def MtM (X:Cx) (id:String) (r:V->List V->Hp->VK->Prop):Prop :=
 ∀ (pins:List (Addr × Obj)) (s:Shared) (σ:St) (H:Hp) (x:V) (xs:List V) (v:Value) (us:List Value) (Q:VK),Inv X pins σ H s->wz x v->wk xs us->r x xs H Q ->
  wpAny (model X.prog X.w) X.A (call (.builtin id) (v :: us)) (EP X pins σ Q) X.xe s
theorem wk.one:∀ {x:V} {us:List Value},wk [x] us->∃ u,us=[u]/\wz x u
 | _,_,.cons r .nil=>⟨_,rfl,r⟩
theorem wk.two:∀ {x y:V} {us:List Value},wk [x,y] us->∃ u v,us=[u,v]/\wz x u/\wz y v
 | _,_,_,.cons r (.cons q .nil)=>⟨_,_,rfl,r,q⟩
theorem wk.zero:∀ {us:List Value},wk [] us->us=[]
 | _,.nil=>rfl
theorem wk.rep {xs:List V} {us:List Value} (h:wk xs us):∀ k:Nat,wk (List.replicate k xs).flatten (List.replicate k us).flatten
 | 0=>.nil
 | k+1=>by
  rw [List.replicate_succ,List.replicate_succ,List.flatten_cons,List.flatten_cons]
  exact wk.append h (wk.rep h k)
theorem yez (its:List Value):∀ (k:Nat) (acc:List Value),
  List.foldl (fun x1 x2=>x1++x2) acc.toArray (List.replicate k its.toArray)=(acc++(List.replicate k its).flatten).toArray
 | 0,acc=>by simp
 | k+1,acc=>by
  have e:acc.toArray++its.toArray=(acc++its).toArray:=by simp
  have a:(acc++its)++(List.replicate k its).flatten=acc++(List.replicate (k+1) its).flatten:=by
   rw [List.replicate_succ,List.flatten_cons,List.append_assoc]
  rw [<- a,<- yez its k (acc++its),<- e,List.replicate_succ,List.foldl_cons]
section
variable {X:Cx} {σ:St} {H:Hp} {s:Shared} {l b:Addr} {xs ys zs:List V}
theorem Inv.lset {its':List Value} {n:Nat} {f:Array Value->Array Value} {t':Nat} (I:Inv X pins σ H s) (hH:H l=some (.lst xs))
  (e:s.heap.get? l=some { cls:=.type "list",data:=.seq its.toArray n }) (hf:f its.toArray=its'.toArray) (hv:wk ys its') (hz:ys.length <= sizeLine) :
  Inv X pins σ (upd H l (.lst ys)) { s with heap:=s.heap.update l (Obj.mapSeq f),toks:=t' }:=by
 have q:=PySem.IsL.update e f
 rw [hf] at q
 refine I.write (x:=l) (e:=l) (by rw [hH]; exact trivial) (.inl rfl) (fun c u a b=>(Heap.get?_update_other s.heap (Obj.mapSeq f) (Ne.symm a)).trans b) ⟨_,q⟩ ?_
 exact ⟨hz,its',_,hv,q⟩
theorem Inv.lnew {t':Nat} (I:Inv X pins σ H s) (hv:wk ys its) (hz:ys.length <= sizeLine) :
  Inv X pins σ (upd H s.heap.objs.size (.lst ys)) { s with heap:=s.heap.push { cls:=.type "list",data:=.seq its.toArray },toks:=t' } :=
 I.laid (fun _ _ q=>Heap.get?_push_of_some _ q) (Nat.le_refl _) ⟨hz,its,0,hv,Heap.get?_push_size _ rfl⟩
theorem Inv.fresh (I:Inv X pins σ H s):H s.heap.objs.size=none:=I.hok.fresh (Nat.le_refl _)
theorem Inv.lstM (I:Inv X pins σ H s) (hH:H l=some (.lst xs)):xs.length <= sizeLine/\∃ (its:List Value) (n:Nat),wk xs its/\xs.length=its.length/\s.heap.get? l=some { cls:=.type "list",data:=.seq its.toArray n }:=by
 obtain ⟨z,its,n,r,e⟩:=I.hok l _ hH
 exact ⟨z,its,n,r,r.length,e⟩
theorem yhc {n:Nat} (h:n <= sizeLine):Builtin.List.listTooLong n=false:=by
 unfold Builtin.List.listTooLong
 exact decide_eq_false (by omega)
end
section
variable {X:Cx}
def ydz:V->List V->Hp->VK->Prop:=fun x vs H Q=>∃ l xs y,x=.ref l/\vs=[y]/\H l=some (.lst xs)/\xs.length < sizeLine/\Q .non (upd H l (.lst (xs++[y])))
theorem xg:MtM X "list.append" ydz:=by
 intro b s σ H x i v k Q I d g h
 obtain ⟨l,j,y,rfl,rfl,c,m,q⟩:=h
 cases d
 obtain ⟨u,rfl,f⟩:=g.one
 obtain ⟨z,a,n,r,o,e⟩:=I.lstM c
 refine call_meets F.slot_list_append ⟨_,e,rfl⟩ F.entry_list_append (F.args_list_append_2 _ _) (PySem.list_append l a.toArray n u (by rw [List.size_toArray]; omega)) ⟨e,?_⟩
 refine ⟨.non,_,I.lset (its':=a++[u]) c e (by simp) (r.append (.cons f .nil)) ?_,rfl,q⟩
 rw [List.length_append,List.length_singleton]
 omega
def yrq:V->List V->Hp->VK->Prop:=fun x vs H Q=>∃ l b xs zs,x=.ref l/\vs=[.ref b]/\H l=some (.lst xs)/\H b=some (.lst zs)/\xs.length+zs.length <= sizeLine/\Q .non (upd H l (.lst (xs++zs)))
theorem yjv:MtM X "list.extend" yrq:=by
 intro i s σ H x J v E Q I j w h
 obtain ⟨l,b,D,A,rfl,rfl,g,k,B,q⟩:=h
 cases j
 obtain ⟨u,rfl,m⟩:=w.one
 cases m
 obtain ⟨z,c,n,r,G,e⟩:=I.lstM g
 obtain ⟨C,a,p,t,y,o⟩:=I.lstM k
 have f:c.toArray.size+a.toArray.size <= sizeLine:=by rw [List.size_toArray,List.size_toArray]; omega
 have d:¬ (!c.toArray.isEmpty && Builtin.List.listTooLong (c.toArray.size+a.toArray.size))=true:=by
  rw [yhc f,Bool.and_false]
  exact Bool.false_ne_true
 refine call_meets F.slot_list_extend ⟨_,e,rfl⟩ F.entry_list_extend (F.args_list_extend_2 _ _)
  (AutoSeq1.list_extend_list_list_0 l c.toArray n b a.toArray p d (by rw [List.size_toArray]; omega) (by omega)) ⟨e,o,?_⟩
 refine ⟨.non,_,I.lset (its':=c++a) g e (by simp) (r.append t) ?_,rfl,q⟩
 rw [List.length_append]
 omega
def vbg:R2:=fun x y H Q=>∃ l b xs zs,x=.ref l/\y=.ref b/\H l=some (.lst xs)/\H b=some (.lst zs)/\xs.length+zs.length <= sizeLine/\∀ p,H p=none->Q (.ref p) (upd H p (.lst (xs++zs)))
theorem yoz:OpR X (binaryOp .Add) vbg:=by
 intro d s σ H x y v u Q I i o h
 obtain ⟨l,b,A,w,rfl,rfl,p,k,D,q⟩:=h
 cases i
 cases o
 obtain ⟨z,c,n,r,C,e⟩:=I.lstM p
 obtain ⟨t,a,B,g,j,m⟩:=I.lstM k
 refine PySem.P.add_list e m ?_ (by rw [List.size_toArray,List.size_toArray]; omega)
 have f:c.toArray++a.toArray=(c++a).toArray:=by simp
 rw [f]
 exact ⟨.ref _,_,I.lnew (t':=s.toks) (r.append g) (by rw [List.length_append]; omega),rfl,q _ I.fresh⟩
def vbs:R2:=fun x y H Q=>∃ l k xs,x=.ref l/\y=.int k/\H l=some (.lst xs)/\-(2 ^ 63) <= k/\k < 2 ^ 63/\xs.length * k.toNat <= sizeLine /\
 ∀ p,H p=none->Q (.ref p) (upd H p (.lst (List.replicate k.toNat xs).flatten))
theorem yrh {α:Type} (xs:List α) (k:Nat):(List.replicate k xs).flatten.length=k * xs.length:=by
 induction k with
 | zero=>simp
 | succ k ih=>rw [List.replicate_succ,List.flatten_cons,List.length_append,ih,Nat.succ_mul,Nat.add_comm]
theorem yfb:OpR X (binaryOp .Mult) vbs:=by
 intro w s σ H x y v u Q I C A h
 obtain ⟨l,k,L,rfl,rfl,D,G,B,p,q⟩:=h
 cases C
 obtain ⟨t,rfl⟩:=A
 obtain ⟨z,b,n,r,E,e⟩:=I.lstM D
 have i:b.toArray.size * k.toNat <= sizeLine:=by rw [List.size_toArray,<- E]; exact p
 have d:¬ b.toArray.size * k.toNat > (2 ^ 63 - 1) / 8:=by
  have:(sizeLine:Nat) <= (2 ^ 63 - 1) / 8:=by decide
  omega
 have f:¬ (!Builtin.List.listFitsIndex k)=true:=by
  rw [fitsIndex_both G B]
  exact Bool.false_ne_true
 have c:¬ Builtin.List.listTooLong (b.toArray.size * k.toNat)=true:=by
  rw [yhc i]
  exact Bool.false_ne_true
 have g:List.foldl (fun o j=>o++j) #[] (List.replicate (if b.toArray.isEmpty=true then 0 else k.toNat) b.toArray)=(List.replicate k.toNat b).flatten.toArray:=by
  have J:∀ m:Nat,List.foldl (fun o j=>o++j) #[] (List.replicate m b.toArray)=(List.replicate m b).flatten.toArray:=fun m=>by
   have:=yez b m []
   rw [List.nil_append] at this
   exact this
  rw [J]
  cases b with
  | nil=>simp
  | cons a r'=>rw [if_neg (by simp)]
 refine wpAny_binaryOp_repeat_ref (T:="list") (U:="int") (by decide) ⟨_,e,rfl⟩ (fun K=>typeIs_int K k t) noFill_list_mul F.fills_int_mul F.slot_int_rmul repeat_list F.slot_int_index.lookup
  (call_meets F.slot_int_rmul (typeIs_int s k t) F.entry_int_rmul (F.args_int_rmul_2 _ _) (int___rmul___int_list k t l b.toArray n)
   ⟨e,rfl,⟨_,e,rfl⟩,call_meets F.slot_list_mul ⟨_,e,rfl⟩ F.entry_list_mul (F.args_list_mul_2 _ _) (AutoListH.list___mul___list_int_3 l b.toArray n k t f d c) ⟨e,?_⟩⟩)
 rw [g]
 exact ⟨.ref _,_,I.lnew (t':=s.toks) (r.rep k.toNat) (by rw [yrh,Nat.mul_comm]; exact p),rfl,q _ I.fresh⟩
end
end L2
namespace Att
open PySem PySem.W PySem.Calls PyProof.Rows
theorem ybb {P:Params} {h:Heap}:∀ (ns:List Int) (vs:List Value),WellAll P h vs (ns.map WData.int)->IntsAre vs ns:=by
 intro ns
 induction ns with
 | nil =>
  intro vs w
  rw [List.map_nil] at w
  cases w
  exact .nil
 | cons n ns ih =>
  intro vs w
  rw [List.map_cons] at w
  cases w with
  | cons a b =>
   cases a
   exact .cons _ _ (ih _ b)
theorem yje {l:OpenLaw} {n:Nat} (hn:l.most=some n) {P:Params} {h:Heap} {args:List WData} {vals:List Value}
  (hpre:l.row.toRowW.claim.pre args=true) (hwl:WellAll P h vals args) :
  ∃ a vs ns,vals=[Value.ref a]/\args=[WData.list (ns.map WData.int)]/\h.get? a=some { cls:=.type "list",data:=.seq vs.toArray }/\IntsAre vs ns/\ns.length <= n:=by
 have f:WShape.hasAll [] args [.list .int]=true:=(pre_splitW hpre).1
 have g:l.pre.holds [] { args:=args }=true:=(pre_splitW hpre).2
 obtain ⟨d,r,rfl,m,i⟩:=hasAllW_cons f
 obtain rfl:=hasAllW_nil i
 obtain ⟨o,rfl,k⟩:=hasW_list m
 obtain ⟨ns,rfl⟩:=items_int k
 have b:ns.length <= n:=by
  unfold OpenLaw.pre at g
  have c:(WTm.not (.lt (.lit (.int (n:Int))) (.len (.arg 0)))).holds [] { args:=[.list (ns.map .int)] }=true:=by
   have c:=(holds_andW g).1
   rw [hn] at c
   exact c
  have e:=condW_of c (w_not (w_lt w_lit (w_len_list (w_arg rfl))))
  rw [List.length_map] at e
  refine Nat.le_of_not_lt fun q=>?_
  have j:(n:Int) < ((ns.length:Nat):Int):=by omega
  first
   | (rw [decide_eq_true j] at e; exact absurd e (by decide))
   | (simp at e; omega)
 cases hwl with
 | cons w1 w2 =>
  cases w2
  cases w1 with
  | list ho hall=>exact ⟨_,_,ns,rfl,rfl,ho,ybb ns _ hall,b⟩
theorem yj2 (l:OpenLaw) (args:List WData):l.row.toRowW.claim.post args (.bool true) args=true :=
 postW_of (r:=l.row.toRowW) (X:=(true == true))
  (show WShape.has [] (.bool true) .bool=true by first | rfl | decide | simp [WShape.has,WShape.arms,WShape.armsAll])
  (show (WTm.eq .res (.lit (.bool true))).value [] { args:=args,res:=some (.bool true),after:=args }=some (.bool (true == true)) from w_eq_bool (w_res rfl) w_lit) rfl
theorem attach_call {l:OpenLaw} {n:Nat} {q:Program} {loose:List Str} {XP:(Str->Option Value)->Heap->Prop} {YP:World->Heap->Prop} {d:DefRec}
  (hn:l.most=some n) (hdf:d.params.defaults=[])
  (call:∀ (w:World) (s₀ s₁:Shared) (mg mb:Str->Option Value) (fa:Addr) (o:Obj) (pm cd doc:Value) (a:Addr) (vs:List Value) (ns:List Int),
   Ground q loose [] XP w s₀ mg mb s₁.heap->YP w s₁.heap ->
   s₁.heap.get? fa=some o->o.data=.func (docDef d.name d.params d.body d.scope pm cd doc)->s₁.heap.CodeRec cd d.name->mg d.name=some (.ref fa) ->
   s₁.heap.get? a=some { cls:=.type "list",data:=.seq vs.toArray }->IntsAre vs ns->ns.length <= n->s₁.gens=#[] ->
   codeAny (model l.prog w) callerA (.call (.ref fa) ⟨[.ref a],[]⟩) (fun r s'=>r=.ok (.ret (.bool true))/\OldK s₁.heap s'.heap/\s'.os=s₁.os/\AllBare s'.gens) s₁) :
  WalkO q loose XP YP l.row.toRowW d [] (fun f vs=>PySem.call f vs):=by
 intro w s₀ s₁ mg mb G Y fa o pm cd doc A kV B F h k j y t p H c m v i z
 obtain rfl:A=.none:=Dflts.none k hdf
 obtain rfl:kV=.none:=Dflts.noKw k
 obtain ⟨a,vs,ns,rfl,rfl,e,b,g⟩:=yje hn c i
 refine enter_call (codeAny_mono (call w s₀ s₁ mg mb fa o pm cd doc a vs ns G Y B (fd_plain F) h j e b g y) fun r s' C=>?_)
 obtain ⟨rfl,x,E,D⟩:=C
 exact ⟨.inl ⟨.bool true,.bool true,[],rfl,fun _=>rfl,.bool true,yj2 l _,fun _=>⟨List.Pairwise.nil,fun _ u=>(nomatch u)⟩⟩,x,E,D⟩
section
variable {prog:Program} {w:World} {A:Around} {E:Value->Shared->Prop} {s:Shared} {K:Frag}
def vaj (h:Heap) (L d:Addr):List (Addr × Obj):=(List.range h.objs.size).filterMap fun a=>if a=L\/a=d then none else (h.get? a).map fun o=>(a,o)
end
end Att
namespace L2
open PySem PySem.Spec PyProof.Rows
variable {C a p:Addr} {fd:FuncData} {f qual x:Str} {T:String}
theorem ye0:∀ {vs:List Value} {ns:List Int},IntsAre vs ns->wk (ns.map V.int) vs
 | _,_,.nil=>.nil
 | _,_,.cons n t h=>.cons ⟨t,rfl⟩ (ye0 h)
def yz9 (H:Hp):Prop:=∀ b,H b=none\/∃ o xs,H b=some (.frz o (.lst xs))
theorem yms {P:Program} {w:World} {K:W.Frag} {mg mb:Str->Option Value} {CX:CXT} {k:Nat} {fa:Addr} {sp:Sp} {s₁:Shared} {vs:List Value} {ns:List Int}
  (KX:K.In s₁.heap) (hns:s₁.heap.Ns mainGlobals mg) (hb:s₁.heap.Ns builtinsNs mb) (hbb:∀ x:Str,x≠"__name__"->mb x=bootBuiltins x) (hlim:s₁.heap.NoLimit) (hg:s₁.gens=#[])
  (ha:s₁.heap.get? a=some { cls:=.type "list",data:=.seq vs.toArray }) (hi:IntsAre vs ns) (hl:ns.length <= sizeLine) (hr:zi k callerA)
  (F:∀ base:Heap,K.In base->base.Ns mainGlobals mg->wa P w K mg base CX k fa fd [x] sp) (hbind:∀ (s:Shared) (u:Value),BindsTo s fd ⟨[u],[]⟩ [(x,u)])
  (hsp:∀ H:Hp,yz9 H->SqL K H a (ns.map V.int)->sp [.ref a] H (fun v _=>v=.bl true) fun _ _ _=>False)
  (hCX:∀ H e s',CX [] H s₁ (fun _ _ _=>False) e s'->False) :
  codeAny (model P w) callerA (.call (.ref fa) ⟨[.ref a],[]⟩) (fun r s'=>r=.ok (.ret (.bool true))/\OldK s₁.heap s'.heap/\s'.os=s₁.os/\AllBare s'.gens) s₁:=by
 have I:=ye0 hi
 have y:=hi.length
 have g:∀ H:Hp,yz9 H->SqL K H a (ns.map V.int)->HOk P w H s₁.heap->(∀ b,H b≠none->b=a)->(H a≠none->K.lookup a=none) ->
   codeAny (model P w) callerA (.call (.ref fa) ⟨[.ref a],[]⟩) (fun r s'=>r=.ok (.ret (.bool true))/\OldK s₁.heap s'.heap/\s'.os=s₁.os/\AllBare s'.gens) s₁:=by
  intro H J Y B L U
  have c:∀ {b:Addr} {o:Obj},s₁.heap.get? b=some o->H b=none->(ynm s₁.heap H).get? b=some o:=fun e n=>yml e n
  have D:∀ {b:Addr} {o:Obj} {p:Array DictEntry} {j:Nat},s₁.heap.get? b=some o->o.data=.dict p j->H b=none:=fun {b o p j} e d=>by
   cases q:H b with
   | none=>rfl
   | some u =>
    have C:b=a:=L b (by rw [q]; simp)
    subst C
    rw [ha] at e; cases e
    have Q:Data.seq vs.toArray _=Data.dict p j:=d
    cases Q
  have f:∀ {b:Addr} {m:Str->Option Value},s₁.heap.Ns b m->(ynm s₁.heap H).Ns b m:=fun {b m} ⟨o,p,j,e,d,r⟩=>⟨o,p,j,c e (D e d),d,r⟩
  have t:K.In (ynm s₁.heap H):=fun b o e=>c (KX b o e) (by
   cases q:H b with
   | none=>rfl
   | some u =>
    have C:b=a:=L b (by rw [q]; simp)
    subst C
    rw [U (by rw [q]; simp)] at e; cases e)
  have M:Mod K mg (ynm s₁.heap H):=⟨t,f hns,⟨mb,f hb,hbb⟩,let ⟨mc,h1,h2⟩:=hlim; ⟨mc,f h1,h2⟩⟩
  have N:ylu P w K mg (ynm s₁.heap H) callerA [] s₁ H:=⟨rfl,M,fun b o e=>ypo e,Nat.le_of_eq (yjc _ _),trivial,fun b hb=>absurd (show b∈([]:List Addr) from hb) (by simp),B,.of_eq hg⟩
  refine codeAny_mono ((F _ t (f hns)).run callerA [] s₁ H ⟨[.ref a],[]⟩ [.ref a] [.ref a] _ _ hr N (hbind s₁ (.ref a)) (.cons rfl .nil) (hsp H J Y)) fun r s' h=>?_
  cases r with
  | error e=>exact (hCX H e s' h).elim
  | ok fl =>
   cases fl with
   | next=>exact False.elim h
   | brk=>exact False.elim h
   | cont=>exact False.elim h
   | ret u =>
    obtain ⟨v,Z,os,l,E,i,O,q⟩:=h
    have T:v=.bl true:=q
    subst T
    obtain rfl:u=Value.bool true:=O
    refine ⟨rfl,OldK.of_keep fun b o e=>?_,os,l⟩
    cases q:H b with
    | none=>exact E.keep b o e q (by intro z; exact absurd (show b∈([]:List Addr) from z) (by simp)) (by simp)
    | some u =>
     rcases J b with z | ⟨X,xs,z⟩
     ·rw [q] at z; cases z
     ·have S:=E.frzs b X _ z
      obtain ⟨G,_⟩:=B b _ z
      obtain ⟨R,_⟩:=i b _ S
      rw [e] at G; cases G
      exact R
 cases hk:K.lookup a with
 | some o =>
  have e:=KX a o hk
  rw [ha] at e
  cases e
  refine g (fun _=>none) (fun _=>.inl rfl) (.inr ⟨_,vs.toArray,_,hk,rfl,rfl,rfl,by rw [List.size_toArray,y]; exact hl,by simpa using I⟩) (fun b u z=>by have A:(none:Option HO)=some u:=z; cases A) (fun b z=>absurd rfl z) fun z=>absurd rfl z
 | none =>
  refine g (fun b=>if b=a then some (.frz { cls:=.type "list",data:=.seq vs.toArray } (.lst (ns.map V.int))) else none) (fun b=>?_) (.inl (.inr ⟨{ cls:=.type "list",data:=.seq vs.toArray },if_pos rfl⟩)) (fun b u z=>?_) (fun b z=>?_) fun _=>hk
  ·by_cases hb:b=a
   ·exact .inr ⟨_,_,if_pos hb⟩
   ·exact .inl (if_neg hb)
  ·by_cases hb:b=a
   ·have A:=(if_pos hb).symm.trans z
    cases A
    subst hb
    exact ⟨ha,by rw [List.length_map]; exact hl,vs,_,I,ha⟩
   ·have A:=(if_neg hb).symm.trans z
    cases A
  ·by_cases hb:b=a
   ·exact hb
   ·exact absurd (if_neg hb) z
theorem walk_of {l:W.OpenLaw} {n k:Nat} {q:Program} {loose:List Str} {XP:(Str->Option Value)->Heap->Prop} {YP:World->Heap->Prop} {d:DefRec} {K:Params->W.Frag} {CX:World->CXT} {sp:World->Sp} 
  (hn:l.most=some n) (hn2:n <= sizeLine) (hdf:d.params.defaults=[]) (hr:zi k callerA)
  (hY:∀ (w:World) (h:Heap),YP w h->(K w.params).In h)
  (F:∀ (w:World) (mg:Str->Option Value) (fa:Addr) (h:Heap),(K w.params).In h->h.Ns mainGlobals mg->mg d.name=some (.ref fa) ->
   ∃ fd:FuncData,(∀ (s:Shared) (u:Value),BindsTo s fd ⟨[u],[]⟩ [(x,u)]) /\
    ∀ base:Heap,(K w.params).In base->base.Ns mainGlobals mg->wa l.prog w (K w.params) mg base (CX w) k fa fd [x] (sp w))
  (hsp:∀ (w:World) (H:Hp) (a:Addr) (ns:List Int),ns.length <= n->yz9 H->SqL (K w.params) H a (ns.map V.int)->sp w [.ref a] H (fun v _=>v=.bl true) fun _ _ _=>False)
  (hCX:∀ (w:World) (H:Hp) (s:Shared) (e:Value) (s':Shared),CX w [] H s (fun _ _ _=>False) e s'->False) :
  W.WalkO q loose XP YP l.row.toRowW d [] (fun f vs=>PySem.call f vs):=by
 refine Att.attach_call hn hdf fun w s₀ s₁ mg E fa o D L A a vs ns G Y J I y m j i c B=>?_
 have p:=hY w _ Y
 obtain ⟨fd,r,t⟩:=F w mg fa _ p G.T.g m
 exact yms p G.T.g G.T.b G.T.builtins G.T.nolimit B j i (Nat.le_trans c hn2) hr t r (fun H C z=>hsp w H a ns c C z) fun H e s'=>hCX w H s₁ e s'
def vo (s:Stmt) (j:Nat):Stmt:=match s with
 | .ClassDef _ _ _ body _ _ _ _ _ _ _=>body.getD j (.Pass ⟨0,0,0,0⟩)
 | _=>.Pass ⟨0,0,0,0⟩
def wn (s:Stmt):Arguments:=match s with
 | .FunctionDef _ a _ _ _ _ _ _ _ _=>a
 | _=>{ posonlyargs:=[],args:=[],vararg:=none,kwonlyargs:=[],kw_defaults:=[],kwarg:=none,defaults:=[] }
def v8 (s:Stmt):List Stmt:=match s with
 | .FunctionDef _ _ b _ _ _ _ _ _ _=>b
 | _=>[]
def yh (s:Stmt):Scope:=match s with
 | .FunctionDef _ _ _ _ _ _ sc _ _ _=>sc
 | _=>{ kind:=.function,names:=[],isGenerator:=false,isCoroutine:=false }
abbrev CX0:CXT:=fun _ _ _ _ _ _=>False
abbrev E0:XK:=fun _ _ _=>False
theorem y7 {X:Cx}:yar CX0 X E0:=fun _ _ _ _ _ _ _ h=>h.elim
structure Fun (K:W.Frag) (x qual:Str) (st:Stmt) (f:Addr) (fd:FuncData):Prop where
 ex:∃ (oc:Value) (od:Option Addr) (kV doc pm:Value) (an:Option Addr) (cdv ct:Value) (osl:Array (Option Value)),
  fd=W.fnOf x qual (wn st) (v8 st) (yh st) .none kV doc pm an cdv ct/\K.lookup f=some ⟨oc,od,.func fd,osl⟩/\W.codeIn K cdv qual=true
 kp:W.keepIn K (.ref f)=true
section
variable {P:Program} {w:World} {K:W.Frag} {mg:Str->Option Value} {base:Heap}
theorem Fun.ok {st:Stmt} {f:Addr} {N ps:List Str} {k:Nat} {sp:Sp} (F:Fun K x qual st f fd) (S:yo N ps (yh st)) (len:∀ vs H Q E,sp vs H Q E->vs.length=ps.length)
  (hbody:∀ (cdv:Value) (A:Around) (outer:List Env) (s:Shared) (H:Hp) (vs:List V) (Q:VK) (E:XK),zi k (A.deeper (envOfC qual (yh st) s.heap.objs.size f cdv))->sp vs H Q E ->
   ∃ t,PSs (wc CX0 P w K mg base N qual (yh st) f cdv A outer s H E).nox (v8 st) t/\t { nx:=fun _ H'=>Q .non H',rt:=Q } (yah N vs) H):wa P w K mg base CX0 (k+1) f fd ps sp:=by
 obtain ⟨j,m,kV,e,i,n,cdv,l,g,rfl,d,a⟩:=F.ex
 refine yne d a S len fun A outer s H vs Q E c b=>?_
 obtain ⟨t,h,q⟩:=hbody cdv A outer s H vs Q E c b
 exact ⟨t,h.nox,q⟩
theorem Fun.binds {st:Stmt} {f:Addr} {ps:List Str} (F:Fun K x qual st f fd)
  (h:∀ (kV doc pm:Value) (an:Option Addr) (cdv ct:Value) (us:List Value),us.length=ps.length->bindArgs (W.fnOf x qual (wn st) (v8 st) (yh st) .none kV doc pm an cdv ct) ⟨us,[]⟩=pure (ps.zip us)):uh K fd ps []:=by
 obtain ⟨d,e,kV,doc,pm,an,cdv,ct,b,rfl,c,a⟩:=F.ex
 exact .all (h kV doc pm an cdv ct)
theorem yo0 {st:Stmt} {f:Addr} {oc:Value} {od an:Option Addr} {osl:Array (Option Value)} {kV doc pm cdv ct:Value} (l:K.lookup f=some ⟨oc,od,.func (W.fnOf x qual (wn st) (v8 st) (yh st) .none kV doc pm an cdv ct),osl⟩)
  (c:W.codeIn K cdv qual=true) (k:W.keepIn K (.ref f)=true):Fun K x qual st f (W.fnOf x qual (wn st) (v8 st) (yh st) .none kV doc pm an cdv ct):=⟨⟨oc,od,kV,doc,pm,an,cdv,ct,osl,rfl,l,c⟩,k⟩
end
theorem ynd {A:Around} {k:Nat} (hr:zi k A):A.units+1 < cLine:=Nat.lt_of_le_of_lt (Nat.add_le_add_left (by decide:1 <= 64) _) hr.units
section
variable {X:Cx}
theorem pv (i:Nat) {pos:Pos} (hN:X.N[i]?=some x:=by rfl) (hv:Vis X.env.scope x:=by first | exact Or.inl rfl | exact Or.inr (Or.inl rfl) | exact Or.inr (Or.inr rfl)) (hd:(x == ("__debug__":Str))=false:=by decide)
  (hcd:(x == ("__classdict__":Str))=false:=by decide):PE X (.Name x pos) (ypk i):=yv2 hN hv hd hcd
end
theorem ylt {A B:Prop} (h:B):if false=true then A else B:=by
 rw [if_neg Bool.false_ne_true]
 exact h
theorem ynn {A B:Prop} (h:A):if true=true then A else B:=by
 rw [if_pos rfl]
 exact h
def yz (H H':Hp):Prop:=∀ b o,H b=some o->H' b=some o
theorem yz.refl (H:Hp):yz H H:=fun _ _ h=>h
theorem yz.trans {H H1 H2:Hp} (a:yz H H1) (b:yz H1 H2):yz H H2:=fun c o h=>b c o (a c o h)
theorem yz.free {H H':Hp} (e:yz H H') {l:Addr} (h:H' l=Option.none):H l=Option.none:=by
 cases q:H l with
 | none=>rfl
 | some o =>
  rw [e l o q] at h
  cases h
theorem yz.seq {K:W.Frag} {H H':Hp} {xs:List V} (e:yz H H') (h:SqL K H a xs):SqL K H' a xs:=by
 rcases h with (h | ⟨o,h⟩) | h
 ·exact .inl (.inl (e _ _ h))
 ·exact .inl (.inr ⟨o,e _ _ h⟩)
 ·exact .inr h
section
variable {X:Cx}
theorem vy:je X (.builtin "isinstance") (fun xs H Q=>∃ x cv t c k,xs=[x,cv]/\wz cv c/\(∀ u,wz cv u->u=c)/\xp X.K H x t/\W.kitOne X.K t c=some k/\Q (.bl k) H):=by
 intro a s σ H xs l Q I r h
 obtain ⟨x,cv,t,c,k,rfl,_,j,b,e,q⟩:=h
 obtain ⟨u,i,rfl,f,d⟩:=yln r
 obtain rfl:=j i d
 exact yju I f b e fun g=>⟨.bl k,H,I.tok g,rfl,q⟩
theorem uu {pos:Pos} (hg:Gl X x) (hm:X.mg x=none) (hv:bootBuiltins x=some (.type T)) (hn:x≠"__name__":=by decide) (hd:(x == ("__debug__":Str))=false:=by decide):PE X (.Name x pos) (tC (.ty T)):=yrb hg hm hv rfl hn hd
theorem v7 {i:Int} {t:Tok} {pos:Pos} (hg:Gl X x) (hm:X.mg x=some (.int i t)) (hd:(x == ("__debug__":Str))=false:=by decide):PE X (.Name x pos) (tC (.int i)):=ykh hg hm ⟨t,rfl⟩ hd
theorem xt {pos:Pos} (hg:Gl X x) (hm:X.mg x=some (.ref C)) (hd:(x == ("__debug__":Str))=false:=by decide):PE X (.Name x pos) (tC (.ref C)):=ykh hg hm rfl hd
mutual
inductive RdV (K:W.Frag) (H:Hp):V->PyData->Prop
 | non:RdV K H .non .none
 | bl (b:_):RdV K H (.bl b) (.bool b)
 | int (i:_):RdV K H (.int i) (.int i)
 | str (x:_):RdV K H (.str x) (.str x)
 | lst {a xs ds:_}:SqL K H a xs->yiz K H xs ds->RdV K H (.ref a) (.list ds)
 | tup {a xs ds:_}:SqT K H a xs->yiz K H xs ds->RdV K H (.ref a) (.tuple ds)
inductive yiz (K:W.Frag) (H:Hp):List V->List PyData->Prop
 | nil:yiz K H [] []
 | cons {x xs d ds:_}:RdV K H x d->yiz K H xs ds->yiz K H (x :: xs) (d :: ds)
end
mutual
theorem RdV.reads {pins:List (Addr × Obj)} {σ:St} {H:Hp} {s:Shared} (I:Inv X pins σ H s):∀ {x:V} {d:PyData} {u:Value},RdV X.K H x d->wz x u->∃ as,Reads s.heap u d as
 | _,_,_,.non,r=>by cases r; exact ⟨_,.none⟩
 | _,_,_,.bl _,r=>by cases r; exact ⟨_,.bool _⟩
 | _,_,_,.int _,r=>by obtain ⟨t,rfl⟩:=r; exact ⟨_,.int _ _⟩
 | _,_,_,.str _,r=>by obtain ⟨t,rfl⟩:=r; exact ⟨_,.str _ _⟩
 | _,_,_,.lst hq hs,r=>by
  cases r
  obtain ⟨g,e,⟨o,n,f,a,i,b⟩,h⟩:=I.list hq
  obtain ⟨as,c⟩:=yiz.reads I hs e
  exact ⟨_,.list f a b (by simpa using c)⟩
 | _,_,_,.tup hq hs,r=>by
  cases r
  obtain ⟨g,e,⟨o,f,a,n,b⟩,h⟩:=I.tuple hq
  obtain ⟨as,c⟩:=yiz.reads I hs e
  exact ⟨_,.tuple f a b (by simpa using c)⟩
theorem yiz.reads {pins:List (Addr × Obj)} {σ:St} {H:Hp} {s:Shared} (I:Inv X pins σ H s):∀ {xs:List V} {ds:List PyData} {us:List Value},yiz X.K H xs ds->wk xs us->∃ as,ReadsAll s.heap us ds as
 | _,_,_,.nil,.nil=>⟨_,.nil⟩
 | _,_,_,.cons h hs,.cons r rs=>by
  obtain ⟨as,a⟩:=RdV.reads I h r
  obtain ⟨c,b⟩:=yiz.reads I hs rs
  exact ⟨_,.cons a b⟩
end
def yx4 (K:W.Frag) (g:Bool->Bool):R2:=fun x y H Q=>∃ d e,RdV K H x d/\RdV K H y e/\SeqAt.shaped d=true/\SeqAt.shaped e=true/\Q (.bl (g (PyData.eqv d e))) H
theorem yk2 (hu:X.A.units+64 < cLine):OpR X (compareOp .Eq) (yx4 X.K fun b=>b):=by
 intro a s σ H x y v u Q I f l h
 obtain ⟨d,e,j,c,m,k,q⟩:=h
 obtain ⟨n,i⟩:=j.reads I f
 obtain ⟨o,g⟩:=c.reads I l
 exact eq_dataH i g m k hu ⟨.bl _,H,I,rfl,q⟩
theorem ycv (hu:X.A.units+64 < cLine):OpR X (compareOp .NotEq) (yx4 X.K fun b=>!b):=by
 intro a s σ H x y v u Q I f l h
 obtain ⟨d,e,j,c,m,k,q⟩:=h
 obtain ⟨n,i⟩:=j.reads I f
 obtain ⟨o,g⟩:=c.reads I l
 exact ne_dataH i g m k hu ⟨.bl _,H,I,rfl,q⟩
theorem zl {K:W.Frag} {H:Hp}:∀ ns:List Int,yiz K H (ns.map V.int) (ns.map PyData.int)
 | []=>.nil
 | n :: r=>.cons (.int n) (zl r)
theorem jk:∀ ns:List Int,PyData.canLayAll0 (ns.map PyData.int)=true
 | []=>rfl
 | _ :: r=>by simp [PyData.canLayAll0,PyData.canLay0,jk r]
theorem yag:∀ ns:List Int,PyData.depthAll (ns.map PyData.int)=0
 | []=>rfl
 | _ :: r=>by simp [PyData.depthAll,PyData.depth,yag r]
theorem ycp (ns:List Int):SeqAt.shaped (.list (ns.map PyData.int))=true:=by
 simp [SeqAt.shaped,PyData.canLay0,PyData.depth,jk,yag]
theorem jm:∀ ns ms:List Int,PyData.eqvAll (ns.map PyData.int) (ms.map PyData.int)=decide (ns=ms)
 | [],[]=>by simp [PyData.eqvAll]
 | [],_ :: _=>by simp [PyData.eqvAll]
 | _ :: _,[]=>by simp [PyData.eqvAll]
 | a :: r,b :: t=>by
  simp only [List.map_cons,PyData.eqvAll,PyData.eqv,jm r t]
  by_cases h:a=b <;> by_cases h':r=t <;> simp [h,h']
theorem yzo {K:W.Frag} {g:Bool->Bool} {H:Hp} {Q:VK} {b:Addr} (ns ms:List Int) (ha:SqL K H a (ns.map V.int)) (hb:SqL K H b (ms.map V.int)) (h:Q (.bl (g (decide (ns=ms)))) H):yx4 K g (.ref a) (.ref b) H Q :=
 ⟨_,_,.lst ha (zl ns),.lst hb (zl ms),ycp ns,ycp ms,by rw [PyData.eqv,jm]; exact h⟩
def yy9 (_ j:Int):Prop:=0 < j/\j < 2 ^ 200
theorem vh:OpR X (binaryOp .FloorDiv) (rI yy9 fun i j=>.int (i / j)):=opI fun i j _ _ _ _ _ b q=>by
 obtain ⟨d,c⟩:=b
 refine floordiv_int (by omega) ?_ (.inl (PyProof.noPylong_of_log2 ?_))
 ·rw [Int.fdiv_eq_ediv_of_nonneg _ (by omega)]; exact q
 ·have e:j.natAbs < 2 ^ 200:=by omega
  have a:j.natAbs≠0:=by omega
  have:=(Nat.log2_lt a).mpr e
  omega
def yxm (k:Int):R2:=fun x y H Q=>∃ i j,x=.int i/\y=.int j/\yx3 i j/\i ^ j.toNat=k/\Q (.int k) H
theorem yrc (k:Int):OpR X (binaryOp .Pow) (yxm k):=by
 intro a s σ H x y v u Q I d c h
 obtain ⟨i,j,rfl,rfl,b,e,q⟩:=h
 exact yv5 a s σ H (.int i) (.int j) v u Q I d c ⟨i,j,rfl,rfl,b,by show Q (.int (i ^ j.toNat)) H; rw [e]; exact q⟩
def van (t:TS):TS:=fun D σ H=>∃ M:St->Hp->Prop,t { D with nx:=M } σ H/\∀ σ' H',M σ' H'->D.nx σ' H'
theorem ybx {st:Stmt} {t:TS} (h:PS X st t):PS X st (van t):=by
 refine .mk fun a s σ H D I ⟨M,e,c⟩=>?_
 refine thn (h a s σ H { D with nx:=M } I e) fun f g q=>?_
 cases f with
 | next =>
  obtain ⟨σ',b,d,q⟩:=q
  exact ⟨σ',b,d,c σ' b q⟩
 | ret v=>exact q
 | brk=>exact q
 | cont=>exact q
end
def xi (nx:St->Hp->Prop) (σ:St) (H:Hp):Prop:=nx σ H
section
variable {K:W.Frag} {σ:St} {H:Hp} {Q:VK} {QB:Bool->Hp->Prop} {QL:List V->Hp->Prop} {v x y:V} {i j:Int} {b:Bool} {ta tb tc te:TE} {t u:TS} {tA tB':TT} {tr:TA} {D:yb6}
 {nx bk ct:St->Hp->Prop} {rt:VK} {A B:Prop}
theorem yp {N:List Str} {vs:List V} {σ':St} (e:yah N vs=σ') (h:t D σ' H):t D (yah N vs) H:=by rw [e]; exact h
theorem yth {k:Nat} (e:σ[k]?=some (some v)) (h:Q v H):ypk k σ H Q:=⟨v,e,h⟩
theorem i_c (h:Q v H):tC v σ H Q:=h
theorem va9 {r:R2} (h:ta σ H fun x H1=>tb σ H1 fun y H2=>r x y H2 Q):tOp r ta tb σ H Q:=h
theorem vbj {r:V->Hp->VK->Prop} (h:ta σ H fun x H1=>r x H1 Q):tUn r ta σ H Q:=h
theorem vbe {g:Int->Int->V} (h:Q (g i j) H):rI0 g (.int i) (.int j) H Q:=⟨i,j,rfl,rfl,h⟩
theorem i_I {C:Int->Int->Prop} {g:Int->Int->V} (hc:C i j) (h:Q (g i j) H):rI C g (.int i) (.int j) H Q:=⟨i,j,rfl,rfl,hc,h⟩
theorem i_U {g:Int->V} (h:Q (g i) H):rU g (.int i) H Q:=⟨i,rfl,h⟩
theorem yyr (h:Q (.bl (decide (i=j))) H):rEq (.int i) (.int j) H Q:=⟨rfl,by
 have e:decide (V.int i=V.int j)=decide (i=j):=by simp
 rw [e]; exact h⟩
theorem yzr (h:Q (.bl (!decide (i=j))) H):rNe (.int i) (.int j) H Q:=⟨rfl,by
 have e:decide (V.int i=V.int j)=decide (i=j):=by simp
 rw [e]; exact h⟩
theorem yw9 (h:ta σ H fun x H'=>∃ k,x=.bl k/\QB k H'):yrw ta σ H QB:=h
theorem vbp (h:ta σ H fun x H'=>∃ k,x=.bl k/\QB k H'):tB ta σ H QB:=h
theorem vbv {P:Bool->Prop} (h:P b):∃ k,V.bl b=V.bl k/\P k:=⟨b,rfl,h⟩
theorem ypr {r r':R2} (h:ta σ H fun x H1=>tb σ H1 fun y H2=>r x y H2 fun z H3=>∃ k,z=.bl k/\(if k=true then tc σ H3 fun w' H4=>r' y w' H4 Q else Q (.bl false) H3)):yk3 r r' ta tb tc σ H Q:=h
theorem ywa (h:ta σ H fun x H1=>∃ c,x=.bl c/\if c=true then tb σ H1 Q else Q (.bl false) H1):yxk ta tb σ H Q:=h
theorem yy2 (h:ta σ H fun x H1=>∃ c,x=.bl c/\if c=true then Q (.bl true) H1 else tb σ H1 Q):vaz ta tb σ H Q:=h
theorem ywt (h:ta σ H fun x H1=>∃ c,x=.bl c/\Q (.bl (!c)) H1):yxn ta σ H Q:=h
theorem yzw {t1 t2:TT} (h:t1 σ H fun c H1=>if c=true then t2 σ H1 QB else QB false H1):va0 t1 t2 σ H QB:=h
theorem vbc {t1 t2:TT} (h:t1 σ H fun c H1=>if c=true then QB true H1 else t2 σ H1 QB):tOr t1 t2 σ H QB:=h
theorem yzf {t1:TT} (h:t1 σ H fun c H1=>QB (!c) H1):va2 t1 σ H QB:=h
theorem yze (h:tA σ H fun c H1=>if c=true then ta σ H1 Q else tb σ H1 Q):tIf tA ta tb σ H Q:=h
theorem yyc (h:t ⟨u D,D.rt,D.bk,D.ct⟩ σ H):yts t u D σ H:=h
theorem yvo (h:nx σ H):yxo ⟨nx,rt,bk,ct⟩ σ H:=h
theorem yzv (h:te σ H rt):vam te ⟨nx,rt,bk,ct⟩ σ H:=h
theorem yu3 (h:rt .non H):yy7 ⟨nx,rt,bk,ct⟩ σ H:=h
theorem yva (h:te σ H fun _ H1=>nx σ H1):yrx te ⟨nx,rt,bk,ct⟩ σ H:=h
theorem vbr (h:tA σ H fun c H1=>if c=true then t D σ H1 else u D σ H1):va8 tA t u D σ H:=h
theorem ygn (M:St->Hp->Prop) (h1:t ⟨M,rt,bk,ct⟩ σ H) (h2:∀ σ' H',M σ' H'->nx σ' H'):van t ⟨nx,rt,bk,ct⟩ σ H:=⟨M,h1,h2⟩
theorem yyn {g:TG} (h:te σ H fun x H1=>g x σ H1 nx):ypl te g ⟨nx,rt,bk,ct⟩ σ H:=h
theorem yt4 {sp:Sp} {dvs:List V} {E:XK} (h:tr σ H fun vs H1=>sp (vs++dvs) H1 Q E):yxj sp dvs E tr σ H Q:=h
theorem ywv (h:ta σ H fun x H1=>tr σ H1 fun xs H2=>QL (x :: xs) H2):uw ta tr σ H QL:=h
theorem yzb (h:QL [] H):yd5 σ H QL:=h
theorem vbm {r:List V->Hp->VK->Prop} (h:tr σ H fun vs H1=>r vs H1 Q):tCB r tr σ H Q:=h
theorem yyz (h:tr σ H fun xs H1=>xs.length <= sizeLine/\∀ p,H1 p=none->Q (.ref p) (upd H1 p (.tup xs))):vac tr σ H Q:=h
theorem yzn (h:tr σ H fun xs H1=>xs.length <= sizeLine/\∀ p,H1 p=none->Q (.ref p) (upd H1 p (.lst xs))):yx7 tr σ H Q:=h
theorem yb0 {m:Str} {sp:Sp} {dvs:List V} {E:XK} (h:ta σ H fun x H1=>∃ a dx fs,x=.ref a/\H1 a=some (.ins C dx fs)/\fs.lookup m=none/\tr σ H1 fun vs H2=>sp (x :: (vs++dvs)) H2 Q E):yb5 C m sp dvs E ta tr σ H Q:=h
theorem yyv (h:ta σ H fun x H1=>∃ a C dx fs v,x=.ref a/\H1 a=some (.ins C dx fs)/\Cls K C/\wq K C f/\fs.lookup f=some v/\Q v H1):yz0 K ta f σ H Q:=h
theorem yv0 (h:tb σ H fun y H1=>ta σ H1 fun x H2=>∃ a C dx fs,x=.ref a/\H2 a=some (.ins C dx fs)/\Cls K C/\wq K C f/\fs.length < 1000/\xi nx σ (upd H2 a (.ins C dx (yav f y fs)))):va7 K ta tb f ⟨nx,rt,bk,ct⟩ σ H:=h
theorem vbt {r:V->Option Int->Option Int->Hp->VK->Prop} {tl th:TO} (h:te σ H fun x H1=>tl σ H1 fun l H2=>th σ H2 fun u H3=>r x l u H3 Q):tSl r te tl th σ H Q:=h
theorem ym1 {QO:Option Int->Hp->Prop} (h:QO none H):yj4 σ H QO:=h
theorem yvj {QO:Option Int->Hp->Prop} (h:ta σ H fun x H1=>∃ i,x=.int i/\QO (some i) H1):yxp ta σ H QO:=h
theorem yzm {P:Int->Prop} (h:P i):∃ k,V.int i=V.int k/\P k:=⟨i,rfl,h⟩
theorem ywq (h:A):V.non=V.non/\A:=⟨rfl,h⟩
theorem g0 {a0:Option V} {r:St} {N:St->Hp->Prop} (h:N (some v :: r) H):vn 0 v (a0 :: r) H N:=h
theorem g1 {a0 a1:Option V} {r:St} {N:St->Hp->Prop} (h:N (a0 :: some v :: r) H):vn 1 v (a0 :: a1 :: r) H N:=h
theorem g2 {a0 a1 a2:Option V} {r:St} {N:St->Hp->Prop} (h:N (a0 :: a1 :: some v :: r) H):vn 2 v (a0 :: a1 :: a2 :: r) H N:=h
theorem g3 {a0 a1 a2 a3:Option V} {r:St} {N:St->Hp->Prop} (h:N (a0 :: a1 :: a2 :: some v :: r) H):vn 3 v (a0 :: a1 :: a2 :: a3 :: r) H N:=h
theorem g4 {a0 a1 a2 a3 a4:Option V} {r:St} {N:St->Hp->Prop} (h:N (a0 :: a1 :: a2 :: a3 :: some v :: r) H):vn 4 v (a0 :: a1 :: a2 :: a3 :: a4 :: r) H N:=h
theorem g5 {a0 a1 a2 a3 a4 a5:Option V} {r:St} {N:St->Hp->Prop} (h:N (a0 :: a1 :: a2 :: a3 :: a4 :: some v :: r) H):vn 5 v (a0 :: a1 :: a2 :: a3 :: a4 :: a5 :: r) H N:=h
theorem g6 {a0 a1 a2 a3 a4 a5 a6:Option V} {r:St} {N:St->Hp->Prop} (h:N (a0 :: a1 :: a2 :: a3 :: a4 :: a5 :: some v :: r) H):vn 6 v (a0 :: a1 :: a2 :: a3 :: a4 :: a5 :: a6 :: r) H N:=h
theorem g7 {a0 a1 a2 a3 a4 a5 a6 a7:Option V} {r:St} {N:St->Hp->Prop} (h:N (a0 :: a1 :: a2 :: a3 :: a4 :: a5 :: a6 :: some v :: r) H):vn 7 v (a0 :: a1 :: a2 :: a3 :: a4 :: a5 :: a6 :: a7 :: r) H N:=h
theorem g8 {a0 a1 a2 a3 a4 a5 a6 a7 a8:Option V} {r:St} {N:St->Hp->Prop} (h:N (a0 :: a1 :: a2 :: a3 :: a4 :: a5 :: a6 :: a7 :: some v :: r) H):vn 8 v (a0 :: a1 :: a2 :: a3 :: a4 :: a5 :: a6 :: a7 :: a8 :: r) H N:=h
theorem g9 {a0 a1 a2 a3 a4 a5 a6 a7 a8 a9:Option V} {r:St} {N:St->Hp->Prop} (h:N (a0 :: a1 :: a2 :: a3 :: a4 :: a5 :: a6 :: a7 :: a8 :: some v :: r) H):vn 9 v (a0 :: a1 :: a2 :: a3 :: a4 :: a5 :: a6 :: a7 :: a8 :: a9 :: r) H N:=h
theorem g10 {a0 a1 a2 a3 a4 a5 a6 a7 a8 a9 a10:Option V} {r:St} {N:St->Hp->Prop} (h:N (a0 :: a1 :: a2 :: a3 :: a4 :: a5 :: a6 :: a7 :: a8 :: a9 :: some v :: r) H):vn 10 v (a0 :: a1 :: a2 :: a3 :: a4 :: a5 :: a6 :: a7 :: a8 :: a9 :: a10 :: r) H N:=h
theorem g11 {a0 a1 a2 a3 a4 a5 a6 a7 a8 a9 a10 a11:Option V} {r:St} {N:St->Hp->Prop} (h:N (a0 :: a1 :: a2 :: a3 :: a4 :: a5 :: a6 :: a7 :: a8 :: a9 :: a10 :: some v :: r) H):vn 11 v (a0 :: a1 :: a2 :: a3 :: a4 :: a5 :: a6 :: a7 :: a8 :: a9 :: a10 :: a11 :: r) H N:=h
theorem g12 {a0 a1 a2 a3 a4 a5 a6 a7 a8 a9 a10 a11 a12:Option V} {r:St} {N:St->Hp->Prop} (h:N (a0 :: a1 :: a2 :: a3 :: a4 :: a5 :: a6 :: a7 :: a8 :: a9 :: a10 :: a11 :: some v :: r) H):vn 12 v (a0 :: a1 :: a2 :: a3 :: a4 :: a5 :: a6 :: a7 :: a8 :: a9 :: a10 :: a11 :: a12 :: r) H N:=h
theorem g13 {a0 a1 a2 a3 a4 a5 a6 a7 a8 a9 a10 a11 a12 a13:Option V} {r:St} {N:St->Hp->Prop} (h:N (a0 :: a1 :: a2 :: a3 :: a4 :: a5 :: a6 :: a7 :: a8 :: a9 :: a10 :: a11 :: a12 :: some v :: r) H):vn 13 v (a0 :: a1 :: a2 :: a3 :: a4 :: a5 :: a6 :: a7 :: a8 :: a9 :: a10 :: a11 :: a12 :: a13 :: r) H N:=h
theorem g14 {a0 a1 a2 a3 a4 a5 a6 a7 a8 a9 a10 a11 a12 a13 a14:Option V} {r:St} {N:St->Hp->Prop} (h:N (a0 :: a1 :: a2 :: a3 :: a4 :: a5 :: a6 :: a7 :: a8 :: a9 :: a10 :: a11 :: a12 :: a13 :: some v :: r) H):vn 14 v (a0 :: a1 :: a2 :: a3 :: a4 :: a5 :: a6 :: a7 :: a8 :: a9 :: a10 :: a11 :: a12 :: a13 :: a14 :: r) H N:=h
theorem g15 {a0 a1 a2 a3 a4 a5 a6 a7 a8 a9 a10 a11 a12 a13 a14 a15:Option V} {r:St} {N:St->Hp->Prop} (h:N (a0 :: a1 :: a2 :: a3 :: a4 :: a5 :: a6 :: a7 :: a8 :: a9 :: a10 :: a11 :: a12 :: a13 :: a14 :: some v :: r) H):vn 15 v (a0 :: a1 :: a2 :: a3 :: a4 :: a5 :: a6 :: a7 :: a8 :: a9 :: a10 :: a11 :: a12 :: a13 :: a14 :: a15 :: r) H N:=h
theorem g16 {a0 a1 a2 a3 a4 a5 a6 a7 a8 a9 a10 a11 a12 a13 a14 a15 a16:Option V} {r:St} {N:St->Hp->Prop} (h:N (a0 :: a1 :: a2 :: a3 :: a4 :: a5 :: a6 :: a7 :: a8 :: a9 :: a10 :: a11 :: a12 :: a13 :: a14 :: a15 :: some v :: r) H):vn 16 v (a0 :: a1 :: a2 :: a3 :: a4 :: a5 :: a6 :: a7 :: a8 :: a9 :: a10 :: a11 :: a12 :: a13 :: a14 :: a15 :: a16 :: r) H N:=h
theorem g17 {a0 a1 a2 a3 a4 a5 a6 a7 a8 a9 a10 a11 a12 a13 a14 a15 a16 a17:Option V} {r:St} {N:St->Hp->Prop} (h:N (a0 :: a1 :: a2 :: a3 :: a4 :: a5 :: a6 :: a7 :: a8 :: a9 :: a10 :: a11 :: a12 :: a13 :: a14 :: a15 :: a16 :: some v :: r) H):vn 17 v (a0 :: a1 :: a2 :: a3 :: a4 :: a5 :: a6 :: a7 :: a8 :: a9 :: a10 :: a11 :: a12 :: a13 :: a14 :: a15 :: a16 :: a17 :: r) H N:=h
theorem g18 {a0 a1 a2 a3 a4 a5 a6 a7 a8 a9 a10 a11 a12 a13 a14 a15 a16 a17 a18:Option V} {r:St} {N:St->Hp->Prop} (h:N (a0 :: a1 :: a2 :: a3 :: a4 :: a5 :: a6 :: a7 :: a8 :: a9 :: a10 :: a11 :: a12 :: a13 :: a14 :: a15 :: a16 :: a17 :: some v :: r) H):vn 18 v (a0 :: a1 :: a2 :: a3 :: a4 :: a5 :: a6 :: a7 :: a8 :: a9 :: a10 :: a11 :: a12 :: a13 :: a14 :: a15 :: a16 :: a17 :: a18 :: r) H N:=h
theorem g19 {a0 a1 a2 a3 a4 a5 a6 a7 a8 a9 a10 a11 a12 a13 a14 a15 a16 a17 a18 a19:Option V} {r:St} {N:St->Hp->Prop} (h:N (a0 :: a1 :: a2 :: a3 :: a4 :: a5 :: a6 :: a7 :: a8 :: a9 :: a10 :: a11 :: a12 :: a13 :: a14 :: a15 :: a16 :: a17 :: a18 :: some v :: r) H):vn 19 v (a0 :: a1 :: a2 :: a3 :: a4 :: a5 :: a6 :: a7 :: a8 :: a9 :: a10 :: a11 :: a12 :: a13 :: a14 :: a15 :: a16 :: a17 :: a18 :: a19 :: r) H N:=h
theorem g20 {a0 a1 a2 a3 a4 a5 a6 a7 a8 a9 a10 a11 a12 a13 a14 a15 a16 a17 a18 a19 a20:Option V} {r:St} {N:St->Hp->Prop} (h:N (a0 :: a1 :: a2 :: a3 :: a4 :: a5 :: a6 :: a7 :: a8 :: a9 :: a10 :: a11 :: a12 :: a13 :: a14 :: a15 :: a16 :: a17 :: a18 :: a19 :: some v :: r) H):vn 20 v (a0 :: a1 :: a2 :: a3 :: a4 :: a5 :: a6 :: a7 :: a8 :: a9 :: a10 :: a11 :: a12 :: a13 :: a14 :: a15 :: a16 :: a17 :: a18 :: a19 :: a20 :: r) H N:=h
theorem g21 {a0 a1 a2 a3 a4 a5 a6 a7 a8 a9 a10 a11 a12 a13 a14 a15 a16 a17 a18 a19 a20 a21:Option V} {r:St} {N:St->Hp->Prop} (h:N (a0 :: a1 :: a2 :: a3 :: a4 :: a5 :: a6 :: a7 :: a8 :: a9 :: a10 :: a11 :: a12 :: a13 :: a14 :: a15 :: a16 :: a17 :: a18 :: a19 :: a20 :: some v :: r) H):vn 21 v (a0 :: a1 :: a2 :: a3 :: a4 :: a5 :: a6 :: a7 :: a8 :: a9 :: a10 :: a11 :: a12 :: a13 :: a14 :: a15 :: a16 :: a17 :: a18 :: a19 :: a20 :: a21 :: r) H N:=h
theorem g22 {a0 a1 a2 a3 a4 a5 a6 a7 a8 a9 a10 a11 a12 a13 a14 a15 a16 a17 a18 a19 a20 a21 a22:Option V} {r:St} {N:St->Hp->Prop} (h:N (a0 :: a1 :: a2 :: a3 :: a4 :: a5 :: a6 :: a7 :: a8 :: a9 :: a10 :: a11 :: a12 :: a13 :: a14 :: a15 :: a16 :: a17 :: a18 :: a19 :: a20 :: a21 :: some v :: r) H):vn 22 v (a0 :: a1 :: a2 :: a3 :: a4 :: a5 :: a6 :: a7 :: a8 :: a9 :: a10 :: a11 :: a12 :: a13 :: a14 :: a15 :: a16 :: a17 :: a18 :: a19 :: a20 :: a21 :: a22 :: r) H N:=h
theorem g23 {a0 a1 a2 a3 a4 a5 a6 a7 a8 a9 a10 a11 a12 a13 a14 a15 a16 a17 a18 a19 a20 a21 a22 a23:Option V} {r:St} {N:St->Hp->Prop} (h:N (a0 :: a1 :: a2 :: a3 :: a4 :: a5 :: a6 :: a7 :: a8 :: a9 :: a10 :: a11 :: a12 :: a13 :: a14 :: a15 :: a16 :: a17 :: a18 :: a19 :: a20 :: a21 :: a22 :: some v :: r) H):vn 23 v (a0 :: a1 :: a2 :: a3 :: a4 :: a5 :: a6 :: a7 :: a8 :: a9 :: a10 :: a11 :: a12 :: a13 :: a14 :: a15 :: a16 :: a17 :: a18 :: a19 :: a20 :: a21 :: a22 :: a23 :: r) H N:=h
theorem yat {n:Nat} {tg:TGs} {xs:List V} {N:St->Hp->Prop} (hq:SqT K H a xs) (hl:xs.length=n) (h:tg xs σ H N):ypf K n tg (.ref a) σ H N:=⟨a,xs,rfl,hq,hl,h⟩
theorem yp9 {tg:TG} {us:TGs} {r:List V} {N:St->Hp->Prop} (h:tg v σ H fun σ' H'=>us r σ' H' N):xu tg us (v :: r) σ H N:=⟨v,r,rfl,h⟩
theorem yvl {N:St->Hp->Prop} (h:N σ H):yi1 [] σ H N:=⟨rfl,h⟩
theorem zx {p:Prop} [Decidable p] (h1:p->A) (h2:¬ p->B):if decide p=true then A else B:=by
 by_cases h:p
 ·rw [if_pos (decide_eq_true h)]; exact h1 h
 ·rw [if_neg (by simp [h])]; exact h2 h
theorem yb1 {p:Prop} [Decidable p] (hp:p) (h:A):if decide p=true then A else B:=by rw [if_pos (decide_eq_true hp)]; exact h
theorem zw {p:Prop} [Decidable p] (hp:¬ p) (h:B):if decide p=true then A else B:=by rw [if_neg (by simp [hp])]; exact h
theorem ylm {p:Prop} [Decidable p] (hp:p) (h:B):if (!decide p)=true then A else B:=by rw [if_neg (by simp [hp])]; exact h
theorem yso {p:Prop} [Decidable p] (hp:¬ p) (h:A):if (!decide p)=true then A else B:=by rw [if_pos (by simp [hp])]; exact h
theorem vbk {p:Prop} [Decidable p] (h1:p->B) (h2:¬ p->A):if (!decide p)=true then A else B:=by
 by_cases h:p
 ·exact ylm h (h1 h)
 ·exact yso h (h2 h)
theorem yzc (h:B):if (!true)=true then A else B:=ylt h
theorem yyx (h:A):if (!false)=true then A else B:=ynn h
theorem yza {α:Type} {z:α} [Decidable (z=z)] (h:A):if decide (z=z)=true then A else B:=yb1 rfl h
theorem yaa {r:List (Str × V)}:List.lookup f ((f,v) :: r)=some v:=by simp [List.lookup]
theorem xb {g:Str} {r:List (Str × V)} {o:Option V} (h:¬ f=g) (e:List.lookup f r=o):List.lookup f ((g,v) :: r)=o:=by
 have a:(f == g)=false:=by simp [h]
 simp [List.lookup,a,e]
theorem j5:List.lookup f ([]:List (Str × V))=none:=rfl
theorem yac {r:List (Str × V)}:yav f v ((f,x) :: r)=(f,v) :: r:=by simp [yav]
theorem w8 {g:Str} {r r':List (Str × V)} (h:¬ g=f) (e:yav f v r=r'):yav f v ((g,x) :: r)=(g,x) :: r':=by simp [yav,h,e]
theorem uq:yav f v []=[(f,v)]:=rfl
theorem ww {c:Addr} {o o':HO} (hn:H a=none) (h:H c=some o):upd H a o' c=some o:=by rw [ym (yc h hn)]; exact h
theorem yi {c:Addr} {o o':HO} (hn:c≠a) (h:H c=some o):upd H a o' c=some o:=by rw [ym hn]; exact h
theorem vd {o:HO} (hn:H a=none):yz H (upd H a o):=fun _ _ h=>ww hn h
theorem yz.tup {H':Hp} {xs:List V} (e:yz H H') (h:SqT K H a xs):SqT K H' a xs:=by
 rcases h with (h | ⟨o,h⟩) | h
 ·exact .inl (.inl (e _ _ h))
 ·exact .inl (.inr ⟨o,e _ _ h⟩)
 ·exact .inr h
theorem yty {sp:Sp} {dvs:List V} {E:XK} (h:tr σ H fun vs H1=>∀ x dx,H1 x=none->H1 dx=none->dx≠x->sp (.ref x :: (vs++dvs)) (upd (upd H1 dx (.own x)) x (.ins C dx [])) (fun v H2=>v=.non/\Q (.ref x) H2) E):ysu C sp dvs E tr σ H Q:=h
theorem vbn {r:V->List V->Hp->VK->Prop} (h:ta σ H fun x H1=>tyV K T x H1/\tr σ H1 fun xs H2=>r x xs H2 Q):tBM K T r ta tr σ H Q:=h
theorem yya {r:V->List V->Hp->VK->Prop} (h:ta σ H fun x H1=>tyV K T x H1/\r x [] H1 Q):vaq K T r ta σ H Q:=h
theorem yb2 {xs:List V} (h:H p=some (.lst xs)) (k:A):tyV K "list" (.ref p) H/\A:=⟨.inl ⟨rfl,_,SqL.of h⟩,k⟩
theorem ul {l:Addr} {xs:List V} (h:H l=some (.lst xs)) (hz:xs.length < sizeLine) (k:Q .non (upd H l (.lst (xs++[y])))):ydz (.ref l) [y] H Q:=⟨l,xs,y,rfl,rfl,h,hz,k⟩
theorem j9 {ys:List V} {P:List V->Prop} (h:SqL K H p ys) (k:P ys):∃ p' ys',[V.ref p]=[V.ref p']/\(SqL K H p' ys'\/SqT K H p' ys')/\P ys':=⟨p,ys,rfl,.inl h,k⟩
theorem ypa {ys:List V} {P:List V->Prop} (h:SqT K H p ys) (k:P ys):∃ p' ys',[V.ref p]=[V.ref p']/\(SqL K H p' ys'\/SqT K H p' ys')/\P ys':=⟨p,ys,rfl,.inr h,k⟩
theorem xk {ys:List V} {P:List V->Prop} (h:SqL K H p ys) (k:P ys):∃ p' ys',[V.ref p]=[V.ref p']/\(SqL K H p' ys'\/SqT K H p' ys')/\P ys':=⟨p,ys,rfl,.inl h,k⟩
theorem zh {xs:List V} (h:SqL K H p xs) (e:atI xs i=some v) (k:Q v H):va4 K (.ref p) (.int i) H Q:=⟨p,xs,i,v,rfl,rfl,h,e,k⟩
theorem yng {xs:List V} (h:SqT K H p xs) (e:atI xs i=some v) (k:Q v H):vaw K (.ref p) (.int i) H Q:=⟨p,xs,i,v,rfl,rfl,h,e,k⟩
theorem ym7 {xs:List V} {lo hi:Option Int} (h:SqL K H p xs) (k:∀ q,H q=none->Q (.ref q) (upd H q (.lst (yi0 xs lo hi)))):var K (.ref p) lo hi H Q:=⟨p,xs,rfl,h,k⟩
theorem yax {xs:List V} (n:Nat):yi0 xs none (some (n:Int))=xs.take n:=by
 unfold yi0
 rw [HT.sIx_none,HT.sIx_nat,List.drop_zero,Nat.sub_zero]
 rcases Nat.le_total n xs.length with h | h
 ·rw [Nat.min_eq_left h]
 ·rw [Nat.min_eq_right h,List.take_of_length_le (Nat.le_refl _),List.take_of_length_le h]
theorem yyj {wi:TI} {g:TG} {tb:TS} (h:wi σ H fun J H1=>∃ W:Nat->Nat->St->Hp->Prop,(∃ m,W 0 m σ H1)/\∀ i m σ H,W i m σ H ->
  (J.stop i H/\D.nx σ H)\/(J.go i H/\∃ N:St->Hp->Prop,(∀ σ' H',N σ' H'->∃ m',m' < m/\W (i+1) m' σ' H')/\∀ x H',J.yld i H x H'->g x σ H' fun σ2 H2=>tb { D with nx:=N,ct:=N,bk:=D.nx } σ2 H2)):yz5 wi g tb D σ H:=h
theorem yp7 {R:It->Hp->Prop} (h:ta σ H fun x H1=>∃ a,x=.ref a/\(∃ xs,SqL K H1 a xs)/\R (Itl K a) H1):yxy K ta σ H R:=h
theorem yt2 {R:It->Hp->Prop} (h:ta σ H fun x H1=>∃ a,x=.ref a/\(∃ xs,SqT K H1 a xs)/\R (Itt K a) H1):vax K ta σ H R:=h
theorem ypv {R:It->Hp->Prop} (h:tr σ H fun vs H1=>∃ j:Int,vs=[.int j]/\-(2 ^ 62) <= j/\j < 2 ^ 62/\R (Itr 0 j.toNat) H1):yxl tr σ H R:=h
theorem yab {n m:String} {k:Bool} {P:Bool->Prop} (ty:xp K H x (.type n)) (e:W.kitOne K (.type n) (.type m)=some k) (h:P k) :
  ∃ x' cv t c k',[x,V.ty m]=[x',cv]/\wz cv c/\(∀ u,wz cv u->u=c)/\xp K H x' t/\W.kitOne K t c=some k'/\P k':=⟨x,.ty m,.type n,.type m,k,rfl,rfl,fun _ r=>r,ty,e,h⟩
theorem yvz {k:Int} (hc:yx3 i j) (e:i ^ j.toNat=k) (h:Q (.int k) H):yxm k (.int i) (.int j) H Q:=⟨i,j,rfl,rfl,hc,e,h⟩
theorem yqy (h:nx σ H):xi nx σ H:=h
end
def yon:V->Bool
 | .int _=>true
 | .bl _=>true
 | _=>false
def ykk:V->Bool
 | .bl _=>true
 | _=>false
def j0:V->Bool
 | .int _=>true
 | _=>false
theorem yg8 (K:W.Frag) (n:String):W.kitOne K (.type n) (.type n)=some true:=by
 unfold W.kitOne
 rw [if_pos (by simp)]
theorem ypn {K:W.Frag} {H:Hp} {x:V} {n:String} (ty:xp K H x (.type n)):W.kitOne K (.type n) (.type "int")=some (yon x):=by
 cases ty <;> rfl
theorem ymv {K:W.Frag} {H:Hp} {x:V} {n:String} (ty:xp K H x (.type n)):W.kitOne K (.type n) (.type "bool")=some (ykk x):=by
 cases ty <;> rfl
end L2
namespace SpanMath
def Ch (c:Int):Prop:=32768 <= c/\c <= 16744448
def s0:Int × Int × Int:=(0,1099511627776,5)
structure Ok (x:Int × Int × Int):Prop where
 l0:0 <= x.1
 w0:4294967296 <= x.2.1
 w1:x.2.1 <= 1099511627776
 z:5 <= x.2.2
end SpanMath
namespace SpanMath
def pw:Nat->Int
 | 0=>1
 | k+1=>pw k * 256
def lo:Nat->Int->List Int
 | 0,_=>[]
 | k+1,n=>n % 256 :: lo k (n / 256)
def val (xs:List Int):Int:=xs.foldl (fun a b=>a * 256+b) 0
def vbq:Nat->Int->Int->Nat
 | 0,_,_=>0
 | n+1,a,b=>if a=b then 0 else vbq n (a / 256) (b / 256)+1
end SpanMath
namespace SpanMath
abbrev Sn:=Int × Int × Int
def sz (x:Sn):Nat:=x.2.2.toNat
structure OkS (x:Sn):Prop where
 ok:Ok x
 top:x.1+x.2.1 <= pw (sz x)
theorem OkS.sz {x:Sn} (h:OkS x):((sz x:Nat):Int)=x.2.2:=by
 have:=h.ok.z
 unfold SpanMath.sz
 omega
structure Sub (x y:Sn) (r:Nat):Prop where
 z:sz y=sz x+r
 l:x.1 * pw r <= y.1
 h:y.1+y.2.1 <= (x.1+x.2.1) * pw r
def blk (l e:Int):Int:=(l+e - 1) / e
def yx6 (l w:Int) (k:Nat):Prop:=(blk l (pw k)+1) * pw k <= l+w
instance (l w:Int) (k:Nat):Decidable (yx6 l w k):=inferInstanceAs (Decidable ((blk l (pw k)+1) * pw k <= l+w))
end SpanMath
namespace L2
open PySem PySem.Spec PyProof.Rows
abbrev Cx.comp (X:Cx) (scope:Scope) (C:Addr) (x:Str) (s2:Shared) (H2:Hp) (fp:List Addr):Cx :=
 { X with N:=[x],s₀:=s2,H₀:=H2,env:=compEnv scope C X.env,outer:=X.stack,ex:=fp,fn:=fun _=>true,pn:=[],xe:=fun _ _=>False }
def yao (J:It) (te:TE) (D:Addr) (R:Hp->Prop) (H1:Hp):Prop:=∃ W:Nat->Nat->Hp->Prop,(∃ m,W 0 m (upd H1 D (.lst []))) /\
 ∀ i m H2,W i m H2->(J.stop i H2/\R H2)\/(J.go i H2/\∀ x H3,J.yld i H2 x H3->te [some x] H3 fun y H4=>∃ ys,H4 D=some (.lst ys)/\ys.length < sizeLine/\∃ m',m' < m/\W (i+1) m' (upd H4 D (.lst (ys++[y]))))
def yye (wi:TI) (te:TE):TE:=fun σ H Q=>wi σ H fun J H1=>∀ D,H1 D=none->yao J te D (fun H2=>Q (.ref D) H2) H1
section
variable {X:Cx} {iter elt:Expr} {x:Str} {px pos:Pos} {scope:Scope} {te:TE} {wi:TI} {pins:List (Addr × Obj)} {σ:St}
theorem yi3 {α:Type} {t:Sem α} {Q Q':α->Shared->Prop} {M:Model} {A:Around} {E:Value->Shared->Prop} {s:Shared} (h:wpAny M A t Q (fun _ _=>False) s) (hQ:∀ a s,Q a s->Q' a s):wpAny M A t Q' E s:=wpAny_mono h hQ fun _ _ z=>z.elim
theorem yvq {H:Hp} {Q:VK} (h:wi σ H fun J H1=>∀ D,H1 D=none->yao J te D (fun H2=>Q (.ref D) H2) H1):yye wi te σ H Q:=h
def cW (n:Nat) (Pv:Nat->Hp->Prop) (i m:Nat) (H:Hp):Prop:=m=n - i/\i <= n/\Pv i H
theorem x6 {K:W.Frag} {a D:Addr} {xs:List V} {R:Hp->Prop} {H1:Hp} (Pv:Nat->Hp->Prop) (h0:Pv 0 (upd H1 D (.lst []))) (hl:∀ i H,i <= xs.length->Pv i H->SqL K H a xs)
  (hs:∀ i x H,xs[i]?=some x->i < xs.length->Pv i H->te [some x] H fun y H4=>∃ ys,H4 D=some (.lst ys)/\ys.length < sizeLine/\∃ m',m' < xs.length - i/\cW xs.length Pv (i+1) m' (upd H4 D (.lst (ys++[y]))))
  (hd:∀ H,Pv xs.length H->R H):yao (Itl K a) te D R H1:=by
 refine ⟨cW xs.length Pv,⟨xs.length,by simp,Nat.zero_le _,h0⟩,?_⟩
 rintro i m H ⟨rfl,b,p⟩
 have q:=hl i H b p
 by_cases hlt:i < xs.length
 ·refine .inr ⟨⟨xs,xs[i],q,by simp [hlt]⟩,fun x c y=>?_⟩
  obtain ⟨e,y⟩:=y
  subst e
  exact hs i x _ (y xs q) hlt p
 ·have e:i=xs.length:=by omega
  subst e
  exact .inl ⟨⟨xs,q,Nat.le_refl _⟩,hd H p⟩
theorem wb {n i:Nat} {Pv:Nat->Hp->Prop} {D:Addr} {ys:List V} {y:V} {H4:Hp} (hD:H4 D=some (.lst ys)) (hl:ys.length < sizeLine) (hi:i < n) (p:Pv (i+1) (upd H4 D (.lst (ys++[y])))) :
  ∃ ys,H4 D=some (.lst ys)/\ys.length < sizeLine/\∃ m',m' < n - i/\cW n Pv (i+1) m' (upd H4 D (.lst (ys++[y]))):=⟨ys,hD,hl,n - (i+1),by omega,rfl,hi,p⟩
end
end L2
namespace L2
open PySem
def ykn:Expr->Bool
 | .Starred _ _=>false
 | _=>true
theorem yb {e:Expr} {es:List Expr} {env:Env} (h:ykn e=true):starEach (e :: es) env=(false,eval e env) :: starEach es env:=by
 cases e <;> first | rfl | cases h
end L2
namespace L2
open PySem PySem.Spec PyProof.Rows
variable {C D a f x:Addr} {e:Expr} {fd:FuncData} {h':Heap} {pins:List (Addr × Obj)} {M:Model} {i:Nat} {P:Program} {scope:Scope} {qual:Str} {cd u:Value} {E Q:Value->Shared->Prop}
structure XCls (K:W.Frag) (C:Addr):Prop where
 hd:W.hasDictIn K C=true
 ga:W.findIn K (.ref C) "__getattribute__"=some (some (.builtin "BaseException.__getattribute__"))
 gt:W.findIn K (.ref C) "__getattr__"=some none
 ca:W.findIn K (.ref C) "__class__"=some (some (.builtin "object.__class__"))
 gg:W.specialIn K (.builtin "object.__class__") "__get__"=some (some (.builtin "getset_descriptor.__get__"))
 tk:W.takesIn K (.builtin "object.__class__")=some true
 mo:W.mroIn K C (.type "object")=some true
 mb:W.mroIn K C (.type "BaseException")=some true
theorem XCls.cl {K:W.Frag} (c:XCls K C):(W.clsIn K C).isSome=true:=by
 obtain ⟨a,h,_⟩:=W.any_some c.hd
 rw [h]; rfl
theorem yht {K:W.Frag} (h0:W.subIn K (.ref D) (.type "BaseException")=some true) (h1:W.hasDictIn K D=true) (h2:W.typeIn K (.ref D)=some (.type "type"))
  (h3:W.subIn K (.ref C) (.ref D)=some true):W.exmOne K (.ref C) (.ref D)=some true:=by
 obtain ⟨a,h,_⟩:=W.any_some h1
 unfold W.exmOne W.kitCls
 rw [h0]
 dsimp only
 rw [h,h2,h3]
 rfl
def yd2 (x C:Addr) (h:Heap):Prop:=∃ ox,h.get? x=some ox/\ox.cls=.ref C
section
variable {prog:Program} {w:World} {A:Around} {s:Shared} {K:W.Frag}
theorem yd2.type {h:Heap} (I:yd2 x C h):W.Looks M h (typeOf (.ref x)) (.ref C):=by
 obtain ⟨c,b,a⟩:=I
 exact a ▸ (W.Looks.ld b).andThen .now
theorem XCls.finds (c:XCls K C) {h:Heap} (X:K.In h):W.Looks M h (Builtin.ObjectAttr.find (.ref x) (.ref C) "__class__") (.bind (.builtin "getset_descriptor.__get__") (.builtin "object.__class__")):=by
 have b:=W.looks_findIn (M:=M) X c.ca
 have a:W.Looks M h (Builtin.ObjectAttr.getOf (some (.builtin "object.__class__"))) (some (.builtin "getset_descriptor.__get__")):=W.looks_specialIn X c.gg
 have d:W.Looks M h (Builtin.ObjectAttr.dataDescriptor? (some (.builtin "object.__class__")) (some (.builtin "getset_descriptor.__get__"))) (some (.builtin "getset_descriptor.__get__",.builtin "object.__class__")):=(W.looks_takesIn X c.tk).andThen .now
 exact b.andThen (a.andThen (d.andThen (W.Looks.tag .now)))
theorem ypx {R:Result->Shared->Prop} {tp:Value} (c:XCls K C) (X:K.In s.heap) (I:yd2 x C s.heap) (h:R (.ok (.ret (.ref C))) s) :
  codeAny (model prog w) A (.call (.builtin "getset_descriptor.__get__") ⟨[.builtin "object.__class__",.ref x,tp],[]⟩) R s:=by
 obtain ⟨b,g,d,t,a⟩:=s
 have f:=I.type (M:=model prog w)
 have e:=W.looks_mroIn (M:=model prog w) X c.mo
 refine codeAny_call_builtin W.KF.slot_gs.plain W.KF.entry_gs (W.KF.slot_gs.check _ _ _ _ _ _ _ _ W.KF.type_class (W.KF.args_gs _ _ _) ?_)
 unfold Builtin.«getset_descriptor.__get__» Builtin.Getset_descriptor.descrGet
 rw [W.dga_obj]
 refine wpAny_bind (wpAny_pure ?_)
 unfold Builtin.Getset_descriptor.descrGetter Builtin.Getset_descriptor.descrCheckInstance Builtin.Getset_descriptor.descrNameAndClass isInstance
 simp only [W.KF.owner_class]
 repeat lk
 refine ⟨Code.quiet_builtin _ (by decide +kernel),codeAny_builtin W.KF.entry_class ?_⟩
 unfold Builtin.«object.__class__» shownTypeOf
 repeat lk
 exact h
theorem yjy (c:XCls K C) {Q:Option Value->Shared->Prop} (X:K.In s.heap) (I:yd2 x C s.heap) (h:Q (some (.ref C)) { s with toks:=s.toks+1 }) :
  wpAny (model prog w) A (getAttr? (.ref x) "__class__") Q E s:=by
 obtain ⟨e,g,d,t,k⟩:=s
 have b:=I.type (M:=model prog w)
 have j:=W.looks_findIn (M:=model prog w) X c.ga
 have l:=W.looks_findIn (M:=model prog w) X c.gt
 have n:W.Looks (model prog w) e (isInstance (.ref x) (.type "BaseException")) true:=b.andThen (W.looks_mroIn X c.mb)
 have f:=c.finds (x:=x) (M:=model prog w) X
 unfold getAttr? getAttrBy? getAttrBy
 refine wpAny_bind (wpAny_mkText (wpAny_bind (wpAny_attempt (wpAny_holding (wpAny_bind (b.at (wpAny_bind (j.at ?_))))))))
 have i:(onTheHeap (Value.ref C) && Value.builtin "BaseException.__getattribute__" == Value.builtin "object.__getattribute__")=false:=by
  have z:(Value.builtin "BaseException.__getattribute__" == Value.builtin "object.__getattribute__")=false:=by decide +kernel
  rw [z]; rfl
 dsimp only
 rw [i]
 unfold getAttrByItsOwn hookBefore
 rw [if_neg Bool.false_ne_true]
 refine wpAny_bind ?_
 rw [if_pos (show onTheHeap (.ref C)=true from rfl)]
 refine l.at ?_
 refine wpAny_bind (wpAny_attempt (wpAny_holding ?_))
 unfold callGetattribute
 rw [if_neg (by simp)]
 unfold boundAndCalled
 rw [F.attr_ValueError.ga.bind (.ref x)]
 refine wpAny_bind (wpAny_pure ?_)
 refine wpAny_call (codeAny_call_builtin F.attr_ValueError.ga.plain F.entry_bexc_ga ?_)
 have p:builtinKind "BaseException.__getattribute__"=some .slot:=by decide +kernel
 have a:splitId "BaseException.__getattribute__"=some ("BaseException","__getattribute__"):=by decide +kernel
 have m:=F.args_bexc_ga (.ref x) (.str "__class__" t)
 simp only [checkBuiltinCall,p,a,List.cons_append,List.nil_append]
 refine wpAny_bind (n.at ?_)
 rw [if_neg (by simp)]
 refine wpAny_of_eq m ?_
 unfold Builtin.«object.__getattribute__»
 have q:slotArgs "__getattribute__" 1 ⟨[Value.ref x,Value.str "__class__" t],[]⟩=pure (Value.ref x,[Value.str "__class__" t]):=by kernel_rfl
 have o:Builtin.ObjectAttr.attrName (Value.str "__class__" t)=pure "__class__":=by kernel_rfl
 refine wpAny_bind (wpAny_of_eq q ?_)
 dsimp only
 refine wpAny_bind (wpAny_of_eq o ?_)
 refine wpAny_bind (b.at ?_)
 refine wpAny_bind (f.at ?_)
 dsimp only
 show wpAny _ _ (holding [_] (call _ [_,_,_]) >>= ret) _ _ _
 refine wpAny_bind (wpAny_holding (wpAny_call (ypx (s:=⟨e,g,d,t+1,k⟩) c X I ?_)))
 refine wpAny_pure ?_
 exact W.handed_on rfl (wpAny_pure h)
theorem ykm (c:XCls K C):W.KitX K (.ref x) (.ref C) (yd2 x C) where
 ty:=fun _ _ _ I=>I.type
 it:=fun M h X _=>by
  obtain ⟨e,a⟩:=Option.isSome_iff_exists.mp c.cl
  unfold W.clsIn at a
  split at a
  ·rename_i there
   intro o i l j k q
   unfold isType loadHead
   exact wpAny_bind (wpAny_loadPart (k _ _ (X _ _ there)) (wpAny_pure q))
  ·cases a
 ne:=fun h d g f n m X b=>by
  obtain ⟨e,a⟩:=Option.isSome_iff_exists.mp c.cl
  refine Bool.eq_false_iff.mpr fun q=>?_
  obtain rfl:C=d:=Value.ref.inj (beq_iff_eq.mp q)
  unfold W.clsIn at a
  split at a
  ·rename_i there
   cases (X _ _ there).symm.trans b
  ·cases a
 ca:=fun X I k=>yjy c X I k
end
section
variable {X:Cx}
theorem ykt {σ:St} {H:Hp} {s:Shared} (I:Inv X pins σ H s) (e:H x=some (.ext (yd2 x C))):yd2 x C s.heap:=(show xa X.prog X.w H s.heap x (.ext (yd2 x C)) from I.hok x _ e).1
def ylo (K:W.Frag):List V->Hp->VK->Prop:=fun xs H Q=>∃ x cv C c k,xs=[.ref x,cv]/\wz cv c/\(∀ u,wz cv u->u=c)/\H x=some (.ext (yd2 x C))/\XCls K C/\W.kitOne K (.ref C) c=some k/\Q (.bl k) H
theorem ya3:je X (.builtin "isinstance") (ylo X.K):=by
 intro a s σ H n o Q I r h
 obtain ⟨x,m,C,c,k,rfl,_,l,d,i,e,q⟩:=h
 obtain ⟨u,j,rfl,f,b⟩:=yln r
 obtain rfl:=l j b
 obtain rfl:u=Value.ref x:=f
 exact W.kia_one (ykm i) I.kIn (ykt I d) e (fun z=>nomatch z) fun g=>⟨.bl k,H,I.tok g,rfl,q⟩
theorem yeu:∀ {Cs:List Addr} {us:List Value},wk (Cs.map V.ref) us->us=Cs.map Value.ref
 | [],_,.nil=>rfl
 | C :: r,_,.cons a t=>by rw [show _=Value.ref C from a,yeu t]; rfl
def yli (K:W.Frag):List V->Hp->VK->Prop:=fun xs H Q=>∃ x tp C Cs k,xs=[.ref x,.ref tp]/\H tp=some (.tup (List.map V.ref Cs))/\H x=some (.ext (yd2 x C))/\XCls K C/\W.kitAny K (.ref C) (Cs.map Value.ref)=some k/\Q (.bl k) H
theorem yef:je X (.builtin "isinstance") (yli X.K):=by
 intro d s σ H J L Q I r h
 obtain ⟨x,a,C,m,k,rfl,A,y,E,e,q⟩:=h
 obtain ⟨u,t,rfl,j,B⟩:=yln r
 obtain rfl:u=Value.ref x:=j
 obtain rfl:t=Value.ref a:=B
 obtain ⟨_,i,D,p⟩:=(show xa X.prog X.w H s.heap a (.tup (m.map V.ref)) from I.hok a _ A)
 obtain ⟨o,c,b,n,f⟩:=p
 obtain ⟨G,F,v,g⟩:=o
 dsimp only at b f
 subst b f
 rw [yeu D] at c
 exact W.kia_tup (ykm E) I.kIn (ykt I y) c e (fun z=>nomatch z) fun l=>⟨.bl k,H,I.tok l,rfl,q⟩
end
theorem xa.there {w:World} {H:Hp} {h:Heap} {o:HO} (x:xa P w H h a o):∃ ob,h.get? a=some ob:=by
 cases o with
 | lst xs=>obtain ⟨_,_,_,_,e⟩:=x; exact ⟨_,e⟩
 | tup xs=>obtain ⟨_,_,_,ob,e,_⟩:=x; exact ⟨_,e⟩
 | dK kvs=>obtain ⟨_,_,_,_,ob,_,_,e,_⟩:=x; exact ⟨_,e⟩
 | dT kvs=>obtain ⟨_,_,_,_,ob,_,_,e,_⟩:=x; exact ⟨_,e⟩
 | set S n=>obtain ⟨ob,_,_,_,e,_⟩:=x; exact ⟨_,e⟩
 | ins C dx fs=>obtain ⟨_,_,_,e,_⟩:=x; exact ⟨_,e⟩
 | own y=>exact x
 | xd fs=>obtain ⟨_,⟨_,_,_,e,_⟩,_⟩:=x; exact ⟨_,e⟩
 | rng lo hi=>obtain ⟨_,_,_,e⟩:=x; exact ⟨_,e⟩
 | frz ob u=>obtain ⟨e,_⟩:=x; exact ⟨_,e⟩
 | tbl ps=>exact ⟨_,(show h.get? a=some _ from x)⟩
 | met f y=>exact ⟨_,(show h.get? a=some _ from x)⟩
 | ext φ=>obtain ⟨_,e,_⟩:=x; exact e
theorem HOk.none_of {w:World} {H:Hp} {h:Heap} (x:HOk P w H h) (e:h.get? a=none):H a=none:=by
 cases q:H a with
 | none=>rfl
 | some u =>
  obtain ⟨b,z⟩:=(x a u q).there
  rw [e] at z
  cases z
def Fy (X:Cx) (pins:List (Addr × Obj)) (H:Hp) (b:Addr):Prop :=
 H b=none/\b≠X.env.locals/\b∉X.fs/\(b∈X.ex\/X.s₀.heap.get? b=none)/\(∀ y c,X.env.cells.lookup y=some c->c≠b)/\∀ p∈X.pn++pins,p.1≠b
section
variable {X:Cx} {σ:St} {H H':Hp} {s:Shared} {b T:Addr}
theorem yhs (I:Inv X pins σ H s) (hb:s.heap.get? b=none) (hn:H' b=none):Fy X pins H' b:=by
 refine ⟨hn,?_,?_,?_,?_,?_⟩
 ·rintro rfl
  obtain ⟨_,⟨_,_,_,e,_⟩,_⟩:=I.loc
  rw [hb] at e; cases e
 ·intro z
  obtain ⟨_,o,e,_⟩:=I.funs.mem z
  rw [hb] at e; cases e
 ·by_cases hx:b∈X.ex
  ·exact .inl hx
  ·refine .inr ?_
   cases q:X.s₀.heap.get? b with
   | none=>rfl
   | some o =>
    obtain ⟨_,e⟩:=I.base.there b o q hx
    rw [hb] at e; cases e
 ·rintro y c e rfl
  obtain ⟨_,_,q,_⟩:=I.cell y c e
  rw [hb] at q; cases q
 ·intro p a z
  have q:=(I.pin p a).1
  rw [z,hb] at q; cases q
theorem Inv.fly (I:Inv X pins σ H s) (hx:Fy X pins H x) (hT:Fy X pins H T)
  (keep:∀ b o,b≠x->b≠T->b∉frs X.stack->s.heap.get? b=some o->h'.get? b=some o)
  (slot:∀ b o,b∈frs X.stack->s.heap.get? b=some o->∃ sl,h'.get? b=some { o with slots:=sl }):Inv X pins σ H { s with heap:=h' }:=by
 have a:∀ {y b o},Fy X pins H y->X.s₀.heap.get? b=some o->b∉X.ex->b≠y:=fun {y b o} K e f z=>by
  subst z
  rcases K.2.2.2.1 with q | q
  ·exact f q
  ·rw [e] at q; cases q
 have h:∀ b o,b≠x->b≠T->s.heap.get? b=some o->∃ sl,h'.get? b=some { o with slots:=sl }:=fun b o Q L e=>by
  by_cases z:b∈frs X.stack
  ·exact slot b o z e
  ·exact ⟨o.slots,keep b o Q L z e⟩
 have g:∀ y c,X.env.cells.lookup y=some c->∀ v,s.heap.IsCell c v->h'.IsCell c v:=fun y c e v ⟨o,C,S⟩=>by
  obtain ⟨sl,q⟩:=h c o (hx.2.2.2.2.1 y c e) (hT.2.2.2.2.1 y c e) C
  exact ⟨_,q,S⟩
 refine ⟨I.ok,I.os,I.bare,⟨fun b o e n A f=>?_,fun b o e n A f=>?_,I.base.free,fun b o e f=>?_,I.base.tups,I.base.frzs,I.base.tbls⟩,?_,fun y c e=>?_,I.free,I.freeC,fun p D=>?_,fun b u e=>?_,I.len⟩
 ·refine keep b o (a hx e f) (a hT e f) (fun z=>?_) (I.base.keep b o e n A f)
  rcases List.mem_cons.mp (I.stkSub b z) with q | q
  ·exact absurd q (Nat.ne_of_lt (Nat.lt_of_lt_of_le (Heap.lt_size e) I.ok.above))
  ·exact A q
 ·obtain ⟨sl,t⟩:=I.base.slot b o e n A f
  obtain ⟨w,j⟩:=h b _ (a hx e f) (a hT e f) t
  exact ⟨w,j⟩
 ·obtain ⟨Y,t⟩:=I.base.there b o e f
  obtain ⟨w,j⟩:=h b _ (a hx e f) (a hT e f) t
  exact ⟨_,j⟩
 ·obtain ⟨m,U,P⟩:=I.loc
  refine ⟨m,?_,fun i y v t j R=>?_⟩
  ·obtain ⟨o,N,M,C,r⟩:=U
   obtain ⟨sl,q⟩:=h _ o (Ne.symm hx.2.1) (Ne.symm hT.2.1) C
   exact ⟨_,N,M,q,r⟩
  ·obtain ⟨u,r,l⟩:=P i y v t j R
   refine ⟨u,r,?_⟩
   rcases l with l | ⟨k,c,e,z⟩
   ·exact .inl l
   ·exact .inr ⟨k,c,e,g y c e _ z⟩
 ·obtain ⟨v,z⟩:=I.cell y c e
  exact ⟨v,g y c e v z⟩
 ·obtain ⟨e,n,E,F,d⟩:=I.pin p D
  refine ⟨keep p.1 p.2 (hx.2.2.2.2.2 p D) (hT.2.2.2.2.2 p D) (fun z=>?_) e,n,E,F,d⟩
  rcases List.mem_cons.mp (I.stkSub _ z) with q | q
  ·exact E q
  ·exact F q
 ·have G:∀ c v,H c=some v->c≠x/\c≠T/\c∉frs X.stack:=fun c v q =>
   ⟨fun z=>(by rw [z,hx.1] at q; cases q),fun z=>(by rw [z,hT.1] at q; cases q),fun z=>(by rw [I.stkFree c z] at q; cases q)⟩
  refine (I.hok b u e).stay (fun c v B q=>?_) (fun _ q=>q) fun _ _ q=>q
  obtain ⟨W,O,J⟩:c≠x/\c≠T/\c∉frs X.stack:=by
   rcases B with rfl | B
   ·exact G _ _ e
   ·exact G _ _ B
  exact keep c v W O J q
def Trd (h:Heap) (x T:Addr) (C fl:Value):Prop :=
 ∃ oe vs oT ts a0,h.get? x=some oe/\(oe.cls=C/\vs[0]?=some a0)/\oe.data=.fields vs/\vs[1]?=some (.ref T)/\T≠x/\h.get? T=some oT/\oT.data=.fields ts/\ts[3]?=some fl
def hid (s:Shared) (X:Cx) (x T:Addr):Heap:=W.hideAll s.heap (x :: T :: frs X.stack)
theorem yan:(hid s X x T).StaysIn s.heap:=fun _ _ e=>W.of_hideAll _ e
theorem ynh:(hid s X x T).get? x=none:=W.hideAll_none _ (.head _)
theorem yzj:(hid s X x T).get? T=none:=W.hideAll_none _ (.tail _ (.head _))
theorem yaq (I:Inv X pins σ H s):s.heap.FunFrames (hid s X x T) X.stack :=
 W.funFrames_hide I.stack fun b c a d=>.tail _ (.tail _ (List.mem_filterMap.mpr ⟨b,c,d⟩))
theorem yby {C fl:Value} (t:Trd s.heap x T C fl):∃ a0,s.heap.TracedAtW (hid s X x T) x C a0 fl:=by
 obtain ⟨i,a,h,d,a0,k,b,g,e,j,f,l,c⟩:=t
 exact ⟨a0,i,a,T,h,d,k,b,g,e,yzj,j,f,l,c⟩
theorem x8 {C a0 fl:Value} (I:Inv X pins σ H s) (hx:Fy X pins H x) (hT:Fy X pins H T) (k1:(hid s X x T).StaysIn h') (k2:h'.FunFrames (hid s X x T) X.stack) (k3:h'.TracedAtW (hid s X x T) x C a0 fl)
  (k4:∀ b o,s.heap.get? b=some o->(∀ vs,o.data≠.fields vs)->∃ sl,h'.get? b=some { o with slots:=sl }) :
  Inv X pins σ H { s with heap:=h' }/\∃ T',Fy X pins H T'/\Trd h' x T' C fl:=by
 refine ⟨I.fly hx hT (fun b o h p n e=>k1 b o (W.hideAll_get _ e fun z=>?_)) fun b o v e=>?_,?_⟩
 ·rcases List.mem_cons.mp z with z | z
  ·exact h z
  ·rcases List.mem_cons.mp z with z | z
   ·exact p z
   ·exact n z
 ·obtain ⟨_,j,a,c⟩:=I.stack.mem v
  rw [e] at a; cases a
  exact k4 b o e c
 ·obtain ⟨t,vs,T',A,i,u,l,y,w,k,g,d,f,r⟩:=k3
  refine ⟨T',?_,t,vs,A,i,a0,u,l,y,w,g,d,f,r⟩
  by_cases q:T'=T
  ·rw [q]; exact hT
  ·cases e:s.heap.get? T' with
   | none=>exact yhs I e (I.hok.none_of e)
   | some o =>
    have z:T'∈frs X.stack:=Classical.byContradiction fun z=>by
     have:=W.hideAll_get (x :: T :: frs X.stack) e (fun m=>by
      rcases List.mem_cons.mp m with m | m
      ·exact g m
      ·rcases List.mem_cons.mp m with m | m
       ·exact q m
       ·exact z m)
     rw [show (W.hideAll s.heap (x :: T :: frs X.stack)).get? T'=none from k] at this
     cases this
    obtain ⟨_,j,a,c⟩:=k2.mem z
    rw [d] at a; cases a
    exact absurd f (c _)
end
def CXe (P:Program) (w:World):CXT:=fun outer H s E e s'=>∃ x T C H',e=.ref x/\s'.os=s.os/\AllBare s'.gens/\Un (frs outer) [] H H' s.heap s'.heap/\HOk P w H' s'.heap /\
 (H' x=none/\s.heap.get? x=none)/\(H' T=none/\s.heap.get? T=none)/\Trd s'.heap x T C .none/\E C none H'
def yd0 (X:Cx) (Ex:St->XK):Prop:=∀ (pins:List (Addr × Obj)) (σ:St) (H:Hp) (s':Shared) (x T:Addr) (C:Value),Inv X pins σ H s'->Fy X pins H x->Fy X pins H T->Trd s'.heap x T C .none->Ex σ C none H->X.xe (.ref x) s'
theorem wa.up {w:World} {K:W.Frag} {mg:Str->Option Value} {base:Heap} {CX:CXT} {k:Nat} {ps:List Str} {sp:Sp} (F:wa P w K mg base CX0 k f fd ps sp):wa P w K mg base CX k f fd ps sp :=
 ⟨F.len,fun A a s H b l d Q E i h g m j=>codeAny_mono (F.run A a s H b l d Q E i h g m j) fun r n c=>by
  cases r with
  | error e=>exact False.elim c
  | ok fl=>cases fl <;> exact c⟩
theorem wd {w:World} {K:W.Frag} {mg:Str->Option Value} {base:Heap} {N:List Str} {A:Around} {outer:List Env} {s:Shared} {H:Hp} {E:XK} :
  yd0 (wc (CXe P w) P w K mg base N qual scope f cd A outer s H E) (fun _=>E):=by
 intro c σ e r x T C I h o t q
 show wpAny _ _ (leaving _ _) _ _ _
 obtain ⟨v,l⟩:=yby (X:=wc (CXe P w) P w K mg base N qual scope f cd A outer s H E) t
 refine wpAny_leaving_nextW (base:=hid r (wc (CXe P w) P w K mg base N qual scope f cd A outer s H E) x T) (L:=s.heap.objs.size) I.ok.frames (yaq I) rfl l yan ynh fun y ⟨p,u,m,n⟩=>?_
 obtain ⟨d,k,g,j⟩:=x8 I h o p u m n
 have a:∀ {b},Fy (wc (CXe P w) P w K mg base N qual scope f cd A outer s H E) c e b->e b=none/\s.heap.get? b=none:=fun i=>⟨i.1,i.2.2.2.1.resolve_left (by intro z; cases z)⟩
 exact ⟨x,k,C,e,rfl,d.os,d.bare,d.base,d.hok,a h,a g,j,q⟩
theorem ymg {w:World} {K:W.Frag} {mg:Str->Option Value} {base:Heap} {N:List Str} {A:Around} {outer:List Env} {s:Shared} {H:Hp} {E:XK}
  {pins:List (Addr × Obj)} {σ:St} {H1:Hp} {s1:Shared} {h':Heap} {x:Addr} {C:Value} {vs:List Value} (I:Inv (wc (CXe P w) P w K mg base N qual scope f cd A outer s H E) pins σ H1 s1) (m:Heap.MadeExcOf s1.heap h' x C vs) (q:E C none H1) :
  (wc (CXe P w) P w K mg base N qual scope f cd A outer s H E).xe (.ref x) { s1 with heap:=h' }:=by
 obtain ⟨t,i,_,_⟩:=m.there
 have e:Fy (wc (CXe P w) P w K mg base N qual scope f cd A outer s H E) pins H1 x:=yhs I m.new (I.hok.none_of m.new)
 have d:Inv (wc (CXe P w) P w K mg base N qual scope f cd A outer s H E) pins σ H1 { s1 with heap:=h' }:=I.kept (t':=s1.toks) m.keeps
 show wpAny _ _ (leaving _ _) _ _ _
 refine wpAny_leaving_firstW (base:=hid { s1 with heap:=h' } (wc (CXe P w) P w K mg base N qual scope f cd A outer s H E) x x) (L:=s.heap.objs.size) (a0:=.ref t) d.ok.frames (yaq d) rfl i yan ynh rfl rfl rfl fun p ⟨j,k,n,l⟩=>?_
 obtain ⟨c,o,g,t'⟩:=x8 d e e j k n l
 have a:∀ {b},Fy (wc (CXe P w) P w K mg base N qual scope f cd A outer s H E) pins H1 b->H1 b=none/\s.heap.get? b=none:=fun h=>⟨h.1,h.2.2.2.1.resolve_left (by intro z; cases z)⟩
 exact ⟨x,o,C,H1,rfl,c.os,c.bare,c.base,c.hok,a e,a g,t',q⟩
def yns (sp:Sp) (dvs:List V) (Ex:St->XK) (t:TA):TE:=fun σ H Q=>t σ H fun vs H1=>sp (vs++dvs) H1 Q (Ex σ)
def yfa (C:Addr) (m:Str) (sp:Sp) (dvs:List V) (Ex:St->XK) (ta:TE) (t:TA):TE:=fun σ H Q=>ta σ H fun x H1=>∃ a dx fs,x=.ref a/\H1 a=some (.ins C dx fs)/\fs.lookup m=none /\
 t σ H1 fun vs H2=>sp (x :: (vs++dvs)) H2 Q (Ex σ)
def ynq (C:Addr) (sp:Sp) (dvs:List V) (Ex:St->XK) (t:TA):TE:=fun σ H Q=>t σ H fun vs H1=>∀ x dx,H1 x=none->H1 dx=none->dx≠x ->
 sp (.ref x :: (vs++dvs)) (upd (upd H1 dx (.own x)) x (.ins C dx [])) (fun v H2=>v=.non/\Q (.ref x) H2) (Ex σ)
section
variable {X:Cx} {k:Nat} {ps:List Str} {sp:Sp} {dvs:List V} {ds:List Value} {Ex:St->XK} {x m:Str} {p pos apos:Pos} {o:Expr} {es:List Expr} {ta:TE} {t:TA}
theorem Inv.came {σ:St} {H:Hp} {s s':Shared} {v:Value} (I:Inv X pins σ H s) (hc:yd0 X Ex) (h:CXe X.prog X.w X.stack H s (Ex σ) v s'):X.xe v s':=by
 obtain ⟨y,T,D,f,rfl,g,a,i,c,e,d,j,q⟩:=h
 exact hc pins σ f s' y T D (I.call' g i c a fun b z=>absurd z (by simp)) (yhs I e.2 e.1) (yhs I d.2 d.1) j q
theorem ykl {σ:St} {H:Hp} {s:Shared} {Q:VK} {us:List Value} {vs:List V} (F:wa X.prog X.w X.K X.mg X.base (CXe X.prog X.w) k f fd ps sp) (hr:zi k X.A) (hb:uh X.K fd ps ds) (hd:wk dvs ds) (hc:yd0 X Ex)
  (I:Inv X pins σ H s) (r:wk vs us) (h:sp (vs++dvs) H Q (Ex σ)):wpAny (model X.prog X.w) X.A (call (.ref f) us) (EP X pins σ Q) X.xe s:=by
 have b:wk (vs++dvs) (us++ds):=r.append hd
 have c:(us++ds).length=ps.length:=by rw [<- b.length]; exact F.len _ _ _ _ h
 refine wpAny_call (codeAny_mono (F.run X.A X.stack s H ⟨us,[]⟩ (us++ds) (vs++dvs) Q (Ex σ) hr I.env0 (hb s us I.kIn c) b h) fun r d a=>?_)
 cases r with
 | error e=>exact I.came hc a
 | ok fl =>
  cases fl with
  | ret u=>exact I.after a
  | next=>exact False.elim a
  | brk=>exact False.elim a
  | cont=>exact False.elim a
theorem vf (F:wa X.prog X.w X.K X.mg X.base (CXe X.prog X.w) k f fd ps sp) (hr:zi k X.A) (hg:Gl X x) (hm:X.mg x=some (.ref f)) (hk:W.keepIn X.K (.ref f)=true) (hb:uh X.K fd ps ds) (hd:wk dvs ds) (hc:yd0 X Ex)
  (ha:PA X (e :: es) t) (hdb:(x == ("__debug__":Str))=false:=by decide) (he:starEach (e :: es) X.env=(false,eval e X.env) :: starEach es X.env:=by rfl) (hpl:(backTo pos (starEach es X.env)).any (·.1)=false:=by rfl) :
  PE X (.Call (.Name x p) (e :: es) [] pos) (yns sp dvs Ex t):=by
 refine .mk fun a s σ H Q I h=>?_
 refine wpAny_Call_Name_kw (zu I hg hm ?_ hdb)
 refine W.callWith_K (h₀:=X.base) I.ok.mod.kin hk (thn (ha pos a s σ H _ I h) fun d i ⟨c,g,b,r,q⟩=>⟨b.kIn,?_⟩) he hpl
 exact ykl F hr hb hd hc b r q
theorem xj {pl:Sem Bool} (he:PE X o ta) (c:Cls X.K C) (hm:ytr X.K C m f) (F:wa X.prog X.w X.K X.mg X.base (CXe X.prog X.w) k f fd ps sp) (hr:zi k X.A) (hb:uh X.K fd ps ds) (hd:wk dvs ds) (hc:yd0 X Ex) (ha:PA X (e :: es) t)
  (hst:starEach (e :: es) X.env=(false,eval e X.env) :: starEach es X.env:=by rfl) (hpl:(backTo pos (starEach es X.env)).any (·.1)=false:=by rfl)
  (ht:eval (.Call (.Attribute o m apos) (e :: es) [] pos) X.env=(do
   let ov <- eval o X.env
   standAt apos.atName
   let (f,first) <- holding [ov] (getMethod ov m pl)
   callWith pos f first (backTo pos (starEach (e :: es) X.env)) (backToKw pos (keywordEach [] X.env))):=by rfl) :
  PE X (.Call (.Attribute o m apos) (e :: es) [] pos) (yfa C m sp dvs Ex ta t):=by
 refine .mk fun b s σ H Q I h=>?_
 refine W.methodCall_KW (pl:=pl) (thn (he b s σ H _ I h) fun u y h'=>?_) ht
 obtain ⟨x,p,g,n,a,D,B,j,i,l,q⟩:=h'
 subst j
 obtain rfl:u=Value.ref a:=n
 refine yaf g i c hm l ?_
 refine W.callWith_K (first:=[.ref a]) (h₀:=X.base) I.ok.mod.kin hm.kp (thn (ha pos b y σ p _ g q) fun us z ⟨vs,E,d,r,v⟩=>⟨d.kIn,?_⟩) hst hpl
 exact ykl (us:=.ref a :: us) (vs:=.ref a :: vs) F hr hb hd hc d (.cons rfl r) v
theorem yi4 {σ:St} {H:Hp} {s:Shared} {Q:VK} {us:List Value} {vs:List V} (M:Mk X.K C f) (F:wa X.prog X.w X.K X.mg X.base (CXe X.prog X.w) k f fd ps sp) (hr:zi (k+1) X.A) (hb:uh X.K fd ps ds) (hd:wk dvs ds)
  (hc:yd0 X Ex) (I:Inv X pins σ H s) (r:wk vs us)
  (h:∀ x dx,H x=none->H dx=none->dx≠x->sp (.ref x :: (vs++dvs)) (upd (upd H dx (.own x)) x (.ins C dx [])) (fun v H2=>v=.non/\Q (.ref x) H2) (Ex σ)) :
  wpAny (model X.prog X.w) X.A (call (.ref C) us) (EP X pins σ Q) X.xe s:=by
 have d:=h (s.heap.objs.size+1) s.heap.objs.size (I.hok.fresh (Nat.le_succ _)) (I.hok.fresh (Nat.le_refl _)) (Nat.ne_of_lt (Nat.lt_succ_self _))
 have b:=Inv.made (C:=C) I
 have c:wk (V.ref (s.heap.objs.size+1) :: (vs++dvs)) (Value.ref (s.heap.objs.size+1) :: (us++ds)):=.cons rfl (r.append hd)
 have j:(Value.ref (s.heap.objs.size+1) :: us++ds).length=ps.length:=by
  have e:=c.length
  rw [F.len _ _ _ _ d] at e
  exact e.symm
 refine wpAny_call (yhd (f:=f) I.kIn M.makes M.init (beq_iff_eq.mp M.fn) (codeAny_mono (F.run _ X.stack _ _ ⟨Value.ref (s.heap.objs.size+1) :: us,[]⟩ (Value.ref (s.heap.objs.size+1) :: (us++ds)) _ _ (Ex σ) (hr.make C us [])
  (b.env0.make C us []) (hb _ (Value.ref (s.heap.objs.size+1) :: us) b.kIn j) c d) fun r o a=>?_))
 cases r with
 | error e=>exact b.came hc a
 | ok fl =>
  cases fl with
  | ret u =>
   obtain ⟨v,g,l,m,i,n⟩:=b.after a
   subst i
   exact ⟨m,⟨V.ref (s.heap.objs.size+1),g,l,rfl,n⟩⟩
  | next=>exact False.elim a
  | brk=>exact False.elim a
  | cont=>exact False.elim a
theorem yaz (M:Mk X.K C f) (F:wa X.prog X.w X.K X.mg X.base (CXe X.prog X.w) k f fd ps sp) (hr:zi (k+1) X.A) (hg:Gl X x) (hm:X.mg x=some (.ref C)) (hb:uh X.K fd ps ds) (hd:wk dvs ds) (hc:yd0 X Ex)
  (ha:PA X (e :: es) t) (hdb:(x == ("__debug__":Str))=false:=by decide) (he:starEach (e :: es) X.env=(false,eval e X.env) :: starEach es X.env:=by rfl) (hpl:(backTo pos (starEach es X.env)).any (·.1)=false:=by rfl) :
  PE X (.Call (.Name x p) (e :: es) [] pos) (ynq C sp dvs Ex t):=by
 refine .mk fun a s σ H Q I h=>?_
 refine wpAny_Call_Name_kw (zu I hg hm ?_ hdb)
 refine W.callWith_K (h₀:=X.base) I.ok.mod.kin M.kp (thn (ha pos a s σ H _ I h) fun d i ⟨c,g,b,r,q⟩=>⟨b.kIn,?_⟩) he hpl
 exact yi4 M F hr hb hd hc b r q
end
theorem PS.nox {X:Cx} {st:Stmt} {t:TS} (h:PS X.nox st t):PS X st t:=.mk fun a s σ H D I b =>
 wpAny_mono (h a s σ H D (I.wish _) b) (fun _ _ q=>q.unwish) fun _ _ z=>False.elim z
section
variable {w:World} {K:W.Frag} {mg:Str->Option Value} {base:Heap}
theorem wf {X:Cx}:yd0 X (fun _ _ _ _=>False):=fun _ _ _ _ _ _ _ _ _ _ _ q=>q.elim
theorem Fun.okE {x:Str} {st:Stmt} {N ps:List Str} {k:Nat} {sp:Sp} (F:Fun K x qual st f fd) (S:yo N ps (yh st)) (len:∀ vs H Q E,sp vs H Q E->vs.length=ps.length)
  (hbody:∀ (cdv:Value) (A:Around) (outer:List Env) (s:Shared) (H:Hp) (vs:List V) (Q:VK) (E:XK),zi k (A.deeper (envOfC qual (yh st) s.heap.objs.size f cdv))->sp vs H Q E ->
   ∃ t,PSs (wc (CXe P w) P w K mg base N qual (yh st) f cdv A outer s H E) (v8 st) t/\t { nx:=fun _ H'=>Q .non H',rt:=Q } (yah N vs) H):wa P w K mg base (CXe P w) (k+1) f fd ps sp:=by
 obtain ⟨i,l,kV,e,h,m,cdv,j,g,rfl,d,a⟩:=F.ex
 exact yne d a S len fun A outer s H vs Q E c b=>hbody cdv A outer s H vs Q E c b
end
abbrev bmV:List Value:=[.type "ValueError",.type "Exception",.type "BaseException",.type "object"]
abbrev XMk (K:W.Frag) (C:Addr):Prop:=W.excIn K C bmV "ValueError.__new__"=true
theorem ypq {K:W.Frag} {h:Heap} {bmB:List Value} {newId:String} (X:K.In h) (q:W.excIn K C bmB newId=true) :
  ∃ bm N nm qn bs hdct sn sub ab col dd k0 k1 k2 k3 k5 mN,h.get? C=some (excClassObj nm qn C N bs bm hdct sn sub ab col dd k0 k1 k2 k3 k5 newId)/\h.Ns N mN/\mN "__init__"=none/\OwnTail h bmB bm:=by
 unfold W.excIn at q
 split at q
 ·rename_i dd cd sl ho
  split at q
  ·rename_i C' bm k0 k1 k2 k3 n k5 hm d
   simp only [Bool.and_eq_true,beq_iff_eq,Bool.not_eq_true'] at q
   obtain ⟨⟨⟨⟨⟨rfl,rfl⟩,a⟩,e⟩,b⟩,c⟩:=q
   obtain ⟨nm,bs,g,j,qn,i,sn,sub,ab,col,f⟩:=cd
   dsimp only at hm a b c
   subst hm a
   obtain ⟨l⟩:=sl
   have d:l=[k0,k1,k2,k3,some (.builtin n),k5]:=d
   subst d
   exact ⟨bm,j,nm,qn,bs,i,sn,sub,ab,col,dd,k0,k1,k2,k3,k5,_,X _ _ ho,.of_isNs (W.isNs_of_in X b),W.nsMap_none_of_in X b c,W.tail_of_in X e⟩
  ·cases q
 ·cases q
def yo5 (E:XK) (C:Addr) (t:TA):TS:=fun _ σ H=>t σ H fun vs H1=>vs.length <= sizeLine/\E (.ref C) none H1
theorem uf {w:World} {K:W.Frag} {mg:Str->Option Value} {base:Heap} {N:List Str} {A:Around} {outer:List Env} {s:Shared} {H:Hp} {E:XK}
  {C:Addr} {x:Str} {np cpos pos:Pos} {e₀:Expr} {u6:List Expr} {t:TA} (hg:Gl (wc (CXe P w) P w K mg base N qual scope f cd A outer s H E) x) (hm:mg x=some (.ref C)) (hC:XMk K C)
  (ha:PA (wc (CXe P w) P w K mg base N qual scope f cd A outer s H E) (e₀ :: u6) t)
  (he:starEach (e₀ :: u6) (envOfC qual scope s.heap.objs.size f cd)=(false,eval e₀ (envOfC qual scope s.heap.objs.size f cd)) :: starEach u6 (envOfC qual scope s.heap.objs.size f cd):=by rfl)
  (hplain:(backTo cpos (starEach u6 (envOfC qual scope s.heap.objs.size f cd))).any (·.1)=false:=by rfl) (hdb:(x == ("__debug__":Str))=false:=by decide) :
  PS (wc (CXe P w) P w K mg base N qual scope f cd A outer s H E) (.Raise (some (.Call (.Name x np) (e₀ :: u6) [] cpos)) none pos) (yo5 E C t):=by
 refine .mk fun a u σ l D I h=>?_
 obtain ⟨o,n,nm,q,bs,hdct,sn,sub,ab,col,dd,k0,k1,k2,k3,k5,mN,c,j,g,T⟩:=ypq I.mod.kin hC
 refine wpAny_Raise_call_subT (C:=C) (nm:=nm) (q:=q) (N:=n) (bs:=bs) (bm:=o) (hdct:=hdct) (sn:=sn) (sub:=sub) (ab:=ab) (col:=col) (dd:=dd) (k0:=k0) (k1:=k1) (k2:=k2) (k3:=k3) (k5:=k5)
  F.excBase_ValueError (mN:=mN) (T.hasType F.excBase_ValueError.hasBase) (I.ok.hd rfl) (by
   show (backTo cpos (starEach (e₀ :: u6) (envOfC qual scope s.heap.objs.size f cd))).any (·.1)=false
   rw [he]; show (false || (backTo cpos (starEach u6 (envOfC qual scope s.heap.objs.size f cd))).any (·.1))=false; rw [hplain]; rfl) g (zu I hg hm ⟨rfl,?_⟩ hdb)
 have i:=ha cpos a u σ l _ I h
 have d:starEach (e₀ :: u6) (wc (CXe P w) P w K mg base N qual scope f cd A outer s H E).env=(false,eval e₀ (wc (CXe P w) P w K mg base N qual scope f cd A outer s H E).env) :: starEach u6 (wc (CXe P w) P w K mg base N qual scope f cd A outer s H E).env:=he
 rw [d] at i ⊢
 refine Calls.evalArgs_plain (wpAny_mono i (by rintro v s₂ ⟨z,G,b,r,k,p⟩; exact ⟨rfl,by rw [<- r.length]; exact k,b.bk _ _ c,j.keeps b.bk,T.keeps b.bk,fun B y m=>ymg b m p⟩) fun _ _ y=>y)
section
variable {X:Cx} {σ:St} {H:Hp} {s:Shared} {T:Addr}
abbrev Cx.pnd (X:Cx) (pn:List (Addr × Obj)):Cx:={ X with pn:=pn }
theorem Cx.Ok.pnd (ok:X.Ok) (pn:List (Addr × Obj)):(X.pnd pn).Ok :=
 ⟨ok.mod,ok.kind,ok.glob,ok.blt,ok.above,ok.inj,ok.has,ok.cab,ok.hd,ok.frames,ok.stk,ok.exf,ok.bs,ok.bsz,ok.noex,ok.exfs,ok.funs,ok.frf⟩
theorem Cx.Ok.unpnd {pn:List (Addr × Obj)} (ok:(X.pnd pn).Ok):X.Ok :=
 ⟨ok.mod,ok.kind,ok.glob,ok.blt,ok.above,ok.inj,ok.has,ok.cab,ok.hd,ok.frames,ok.stk,ok.exf,ok.bs,ok.bsz,ok.noex,ok.exfs,ok.funs,ok.frf⟩
theorem Inv.pnd (I:Inv X pins σ H s):Inv (X.pnd (X.pn++pins)) [] σ H s :=
 ⟨I.ok.pnd _,I.os,I.bare,I.base,I.loc,I.cell,I.free,I.freeC,fun p a=>I.pin p (by simpa using a),I.hok,I.len⟩
theorem Inv.unpnd {ps:List (Addr × Obj)} (I:Inv (X.pnd (X.pn++pins)) ps σ H s):Inv X pins σ H s :=
 ⟨I.ok.unpnd,I.os,I.bare,I.base,I.loc,I.cell,I.free,I.freeC,fun p a=>I.pin p (List.mem_append_left _ a),I.hok,I.len⟩
def XT (Y:Cx) (Ex:St->XK) (e:Value) (s':Shared):Prop:=∃ pins σ H x T C,e=.ref x/\Inv Y pins σ H s'/\Fy Y pins H x/\Fy Y pins H T/\Trd s'.heap x T C .none/\Ex σ C none H
abbrev Cx.tr (X:Cx) (pn:List (Addr × Obj)) (Ex:St->XK):Cx:=(X.pnd pn).wish (XT (X.pnd pn) Ex)
theorem xz {pn:List (Addr × Obj)} {Ex:St->XK}:yd0 (X.tr pn Ex) Ex:=fun a σ H _ x T C I c b tr q=>⟨a,σ,H,x,T,C,rfl,I.unwish,c,b,tr,q⟩
abbrev Cx.su (X:Cx) (pn:List (Addr × Obj)) (x:Addr):Cx:={ X with A:=X.A.mark (some (.ref x)),calm:=false,pn:=pn,xe:=fun _ _=>False }
theorem Inv.su (I:Inv X pins σ H s) (x:Addr):Inv (X.su (X.pn++pins) x) [] σ H s :=
 ⟨⟨I.ok.mod,I.ok.kind,I.ok.glob,I.ok.blt,I.ok.above,I.ok.inj,I.ok.has,I.ok.cab,fun z=>(by cases z),I.ok.frames,I.ok.stk,I.ok.exf,I.ok.bs,I.ok.bsz,I.ok.noex,I.ok.exfs,I.ok.funs,I.ok.frf⟩,
  I.os,I.bare,I.base,I.loc,I.cell,I.free,I.freeC,fun p a=>I.pin p (by simpa using a),I.hok,I.len⟩
theorem Inv.unsu (I:Inv (X.su (X.pn++pins) x) [] σ H s) (ok:X.Ok):Inv X pins σ H s :=
 ⟨ok,I.os,I.bare,I.base,I.loc,I.cell,I.free,I.freeC,fun p a=>I.pin p (List.mem_append_left _ a),I.hok,I.len⟩
theorem Inv.track {o:HO} (I:Inv X pins σ H s) (hx:Fy X pins H x) (ob:xa X.prog X.w (upd H x o) s.heap x o):Inv X pins σ (upd H x o) s:=by
 have a:∀ {b u},H b=some u->b≠x:=fun {b u} e z=>by rw [z,hx.1] at e; cases e
 refine ⟨I.ok,I.os,I.bare,⟨I.base.keep,I.base.slot,fun b ob e n f=>?_,I.base.there,fun b g e=>?_,fun b ob u e=>?_,fun b i e=>?_⟩,I.loc,I.cell,?_,fun y c e=>?_,fun p h=>?_,fun b u e=>?_,I.len⟩
 ·rw [ym ?_]
  ·exact I.base.free b ob e n f
  ·rintro rfl
   rcases hx.2.2.2.1 with z | z
   ·exact f z
   ·rw [e] at z; cases z
 ·have q:=I.base.tups b g e
  rw [ym (a q)]; exact q
 ·have q:=I.base.frzs b ob u e
  rw [ym (a q)]; exact q
 ·obtain ⟨d,q⟩:=I.base.tbls b i e
  exact ⟨d,by rw [ym (a q)]; exact q⟩
 ·rw [ym (Ne.symm hx.2.1)]; exact I.free
 ·rw [ym (hx.2.2.2.2.1 y c e)]; exact I.freeC y c e
 ·obtain ⟨e,n,q⟩:=I.pin p h
  exact ⟨e,by rw [ym (hx.2.2.2.2.2 p h)]; exact n,q⟩
 ·by_cases hb:b=x
  ·subst hb
   rw [yd] at e
   cases e
   exact ob
  ·rw [ym hb] at e
   exact (I.hok b u e).stay (fun _ _ _ q=>q) (fun c q=>by rw [ym (a q)]; exact q) fun c g q=>by rw [ym (a q)]; exact q
theorem Inv.unbind {A:Around} {n:Str} {pos:Pos} {Q:Unit->Shared->Prop} (I:Inv X pins σ H s) (hN:X.N.Nodup) (hi:X.N[i]?=some n) (hl:X.env.scope.names.lookup n=some .local)
  (h:∀ s',Inv X pins (σ.set i none) H s'->Q () s'):wpAny M A (do bindName X.env n .none; unbindBehindTheSuite X.env n pos) Q E s:=by
 obtain ⟨m,F,w⟩:=id I.loc
 obtain ⟨W,_,_,P,_⟩:=id F
 have a:∀ b o,X.s₀.heap.get? b=some o->b≠X.env.locals:=fun b o e=>Nat.ne_of_lt (Nat.lt_of_lt_of_le (Heap.lt_size e) I.ok.above)
 refine wpAny_nameGoes_keeps hl F (by rw [I.ok.kind]; rfl) fun Y v x f=>h _ ⟨I.ok,I.os,I.bare,⟨fun b o e n B l=>?_,fun b o e n B l=>?_,I.base.free,fun b o e l=>?_,I.base.tups,I.base.frzs,I.base.tbls⟩,⟨_,x,fun j y L g r R=>?_⟩,fun y c e=>?_,I.free,I.freeC,fun p U=>?_,fun b u e=>?_,by simpa using I.len⟩
 ·exact (f.2 b (a b o e)).trans (I.base.keep b o e n B l)
 ·obtain ⟨T,g⟩:=I.base.slot b o e n B l
  exact ⟨T,(f.2 b (a b o e)).trans g⟩
 ·obtain ⟨J,g⟩:=I.base.there b o e l
  exact ⟨J,(f.2 b (a b o e)).trans g⟩
 ·by_cases hj:j=i
  ·subst hj
   have:j < σ.length:=by rw [I.len]; exact (List.getElem?_eq_some_iff.mp hi).1
   rw [List.getElem?_set_self this] at r
   cases r
  ·rw [List.getElem?_set_ne (Ne.symm hj)] at r
   obtain ⟨O,K,q⟩:=w j y L g r R
   refine ⟨O,K,?_⟩
   rcases q with ⟨k,e⟩ | ⟨k,c,e,z⟩
   ·have:y≠n:=fun z=>hj (ydn hN g (z ▸ hi))
    exact .inl ⟨k,by simp [this,e]⟩
   ·exact .inr ⟨k,c,e,z.sameBut f (I.cne y c e)⟩
 ·obtain ⟨D,z⟩:=I.cell y c e
  exact ⟨D,z.sameBut f (I.cne y c e)⟩
 ·obtain ⟨e,G,C,S,d⟩:=I.pin p U
  exact ⟨(f.2 p.1 C).trans e,G,C,S,d⟩
 ·refine (I.hok b u e).stay (fun c D t q=>(f.2 c ?_).trans q) (fun _ q=>q) fun _ _ q=>q
  rintro rfl
  rcases t with rfl | t
  ·rw [I.free] at e; cases e
  ·rw [I.free] at t; cases t
end
variable {X:Cx}
def yb6.un (D:yb6) (i:Nat):yb6:=⟨fun σ H=>D.nx (σ.set i none) H,D.rt,fun σ H=>D.bk (σ.set i none) H,fun σ H=>D.ct (σ.set i none) H⟩
def exT (K:W.Frag) (D:Addr) (i:Nat) (ts:TS) (En:yb6):St->XK:=fun σ' C _ H'=>∀ x,H' x=none->∃ Ca,C=.ref Ca/\W.exmOne K (.ref Ca) (.ref D)=some true/\ts (En.un i) (σ'.set i (some (.ref x))) (upd H' x (.ext (yd2 x Ca)))
def vav (K:W.Frag) (D:Addr) (i:Nat) (tb:(St->XK)->TS) (ts:TS):TS:=fun En σ H=>tb (exT K D i ts En) En σ H
section
variable {body suite:List Stmt} {b₀:Stmt} {tx n:Str} {np hpos pos:Pos} {tb:(St->XK)->TS} {ts:TS}
theorem yoi (hb:∀ pn Ex,PSs (X.tr pn Ex) body (tb Ex)) (hst:X.stack=X.env :: X.outer/\X.env.frame=some X.env.locals) (hg:Gl X tx) (hm:X.mg tx=some (.ref D))
  (hs:∀ pn x,PSs (X.su pn x) (b₀ :: suite) ts) (hN:X.N.Nodup) (hi:X.N[i]?=some n) (hl:X.env.scope.names.lookup n=some .local) (hdb:(tx == ("__debug__":Str))=false:=by decide) :
  PS X (.Try body [.ExceptHandler (some (.Name tx np)) (some n) (b₀ :: suite) hpos] [] [] pos) (vav X.K D i tb ts):=by
 refine .mk fun a s σ H y I h=>?_
 have a1:∀ {f s'},SP (X.tr (X.pn++a) (exT X.K D i ts y)) [] y f s'->SP X a y f s':=fun {f s'} q=>by
  cases f with
  | next=>obtain ⟨σ',g,J,q⟩:=q; exact ⟨σ',g,J.unwish.unpnd,q⟩
  | brk=>obtain ⟨σ',g,J,q⟩:=q; exact ⟨σ',g,J.unwish.unpnd,q⟩
  | cont=>obtain ⟨σ',g,J,q⟩:=q; exact ⟨σ',g,J.unwish.unpnd,q⟩
  | ret u=>obtain ⟨v,σ',g,J,r,q⟩:=q; exact ⟨v,σ',g,J.unwish.unpnd,r,q⟩
 refine wpAny_Try_except (wpAny_mono (hb (X.pn++a) (exT X.K D i ts y) [] s σ H y (I.pnd.wish _) h) (fun f t q=>?_) fun e t q=>?_)
 ·have q:=a1 q
  cases f with
  | next=>exact wpAny_execs_nil q
  | brk=>exact q
  | cont=>exact q
  | ret u=>exact q
 ·obtain ⟨ps,σ',g,x,T,C,rfl,J,d,c,tr,q⟩:=q
  have J:Inv X a σ' g t:=J.unpnd
  have d:Fy X a g x:=⟨d.1,d.2.1,d.2.2.1,d.2.2.2.1,d.2.2.2.2.1,fun p hp=>d.2.2.2.2.2 p (List.mem_append_left _ hp)⟩
  have c:Fy X a g T:=⟨c.1,c.2.1,c.2.2.1,c.2.2.2.1,c.2.2.2.2.1,fun p hp=>c.2.2.2.2.2 p (List.mem_append_left _ hp)⟩
  obtain ⟨Z,rfl,P,q⟩:=q x d.1
  obtain ⟨a0,E⟩:=yby (X:=X) tr
  have fr:=J.ok.frames
  rw [hst.1] at fr
  have lf:=yaq (x:=x) (T:=T) J
  rw [hst.1] at lf
  refine wpAny_noteFrame_onW (base:=hid t X x T) fr lf hst.2 E yan ynh fun R ⟨L,A,F,G⟩=>?_
  rw [<- hst.1] at A
  obtain ⟨J,T2,c,tr⟩:=x8 J d c L A F G
  obtain ⟨a0,E⟩:=yby (s:={ t with heap:=R }) (X:=X) tr
  refine wpAny_setFlight_noneW (base:=hid { t with heap:=R } X x T2) yan (yaq J) E fun O L A F G=>?_
  obtain ⟨J,T3,c,tr⟩:=x8 J d c L A F fun b o e nf=>⟨o.slots,G b o e nf⟩
  refine wpAny_handleBy_cons (codeAny_handlers_test (zu (J.su x) hg hm ?_ hdb)) (by intro z; cases z)
  have Q:yd2 x Z O:=by
   obtain ⟨oe,_,_,_,_,U,S,_⟩:=id tr
   exact ⟨oe,U,S.1⟩
  refine W.exm_one (M:=model X.prog X.w) (h:=O) J.kIn Q.type P _ _ _ _ (fun _ _ z=>z) ?_
  dsimp only [if_true]
  refine codeAny_handlers_suite_as ?_
  obtain ⟨a0,E⟩:=yby (s:={ t with heap:=O }) (X:=X) tr
  refine wpAny_setFlight_noneW (base:=hid { t with heap:=O } X x T3) yan (yaq J) E fun h4 L A F G=>?_
  obtain ⟨J,T4,c,tr⟩:=x8 J d c L A F fun b o e nf=>⟨o.slots,G b o e nf⟩
  have B:yd2 x Z h4:=by
   obtain ⟨oe,_,_,_,_,U,S,_⟩:=id tr
   exact ⟨oe,U,S.1⟩
  have J:=J.track (o:=.ext (yd2 x Z)) d ⟨B,let ⟨ox,z,_⟩:=B; ⟨ox,z⟩,fun h1 R ⟨ox,z1,z2⟩ k=>⟨ox,k _ z1,z2⟩⟩
  refine jv (X:=X.su (X.pn++a) x) (i:=i) (v:=V.ref x) (J.su x) hN hi (Or.inl hl) rfl (fun s5 J5=>?_) (Or.inr hl)
  refine wpAny_mono (hs (X.pn++a) x [] s5 _ _ (y.un i) J5 q) (fun f s6 q=>?_) fun _ _ z=>False.elim z
  cases f with
  | next=>obtain ⟨σ6,l,j,q⟩:=q; exact (j.unsu I.ok).unbind hN hi hl fun Y m=>⟨_,l,m,q⟩
  | brk=>obtain ⟨σ6,l,j,q⟩:=q; exact (j.unsu I.ok).unbind hN hi hl fun Y m=>⟨_,l,m,q⟩
  | cont=>obtain ⟨σ6,l,j,q⟩:=q; exact (j.unsu I.ok).unbind hN hi hl fun Y m=>⟨_,l,m,q⟩
  | ret u=>obtain ⟨v,σ6,l,j,r,q⟩:=q; exact (j.unsu I.ok).unbind hN hi hl fun Y m=>⟨v,_,l,m,r,q⟩
end
section
variable {σ:St} {H:Hp} {Q:VK} {tr:TA} {ta:TE} {nx:St->Hp->Prop} {rt:VK} {bk ct:St->Hp->Prop} {ts:TS}
theorem yrg {sp:Sp} {dvs:List V} {Ex:St->XK} (h:tr σ H fun vs H1=>sp (vs++dvs) H1 Q (Ex σ)):yns sp dvs Ex tr σ H Q:=h
theorem ydu {m:Str} {sp:Sp} {dvs:List V} {Ex:St->XK} (h:ta σ H fun x H1=>∃ a dx fs,x=.ref a/\H1 a=some (.ins C dx fs)/\fs.lookup m=none/\tr σ H1 fun vs H2=>sp (x :: (vs++dvs)) H2 Q (Ex σ)):yfa C m sp dvs Ex ta tr σ H Q:=h
theorem yri {sp:Sp} {dvs:List V} {Ex:St->XK} (h:tr σ H fun vs H1=>∀ x dx,H1 x=none->H1 dx=none->dx≠x->sp (.ref x :: (vs++dvs)) (upd (upd H1 dx (.own x)) x (.ins C dx [])) (fun v H2=>v=.non/\Q (.ref x) H2) (Ex σ)):ynq C sp dvs Ex tr σ H Q:=h
theorem ypw {E:XK} {D:yb6} (h:tr σ H fun vs H1=>vs.length <= sizeLine/\E (.ref C) none H1):yo5 E C tr D σ H:=h
theorem yzu {K:W.Frag} {tb:(St->XK)->TS} (h:tb (exT K D i ts ⟨nx,rt,bk,ct⟩) ⟨nx,rt,bk,ct⟩ σ H):vav K D i tb ts ⟨nx,rt,bk,ct⟩ σ H:=h
theorem ysk {K:W.Frag} {d:Option Addr} (he:W.exmOne K (.ref C) (.ref D)=some true) (h:∀ x,H x=none->ts ⟨fun σ H=>nx (σ.set i none) H,rt,fun σ H=>bk (σ.set i none) H,fun σ H=>ct (σ.set i none) H⟩ (σ.set i (some (.ref x))) (upd H x (.ext (yd2 x C)))) :
  exT K D i ts ⟨nx,rt,bk,ct⟩ σ (.ref C) d H:=fun x a=>⟨C,rfl,he,h x a⟩
theorem yxi {K:W.Frag} {cv:V} {c:Value} {k:Bool} (hx:H x=some (.ext (yd2 x C))) (cl:XCls K C) (r:wz cv c) (u:∀ u,wz cv u->u=c) (e:W.kitOne K (.ref C) c=some k) (h:Q (.bl k) H):ylo K [.ref x,cv] H Q:=⟨x,cv,C,c,k,rfl,r,u,hx,cl,e,h⟩
theorem yfh {K:W.Frag} {k:Bool} (hx:H x=some (.ext (yd2 x C))) (cl:XCls K C) (e:W.kitOne K (.ref C) (.ref D)=some k) (h:Q (.bl k) H):ylo K [.ref x,.ref D] H Q:=yxi hx cl rfl (fun _ z=>z) e h
theorem yo7 {K:W.Frag} {n:String} {k:Bool} (hx:H x=some (.ext (yd2 x C))) (cl:XCls K C) (e:W.kitOne K (.ref C) (.type n)=some k) (h:Q (.bl k) H):ylo K [.ref x,.ty n] H Q:=yxi hx cl rfl (fun _ z=>z) e h
theorem yle {K:W.Frag} {tp:Addr} {Cs:List Addr} {k:Bool} (ht:H tp=some (.tup (List.map V.ref Cs))) (hx:H x=some (.ext (yd2 x C))) (cl:XCls K C) (e:W.kitAny K (.ref C) (Cs.map Value.ref)=some k) (h:Q (.bl k) H):yli K [.ref x,.ref tp] H Q :=
 ⟨x,tp,C,Cs,k,rfl,ht,hx,cl,e,h⟩
end
section
variable {κ:Type} [DecidableEq κ]
def jf (kvs:List (κ × V)) (k:κ):Option V:=(kvs.find? fun kv=>decide (kv.1=k)).map (·.2)
def yc0 (kvs:List (κ × V)) (k:κ) (v:V):List (κ × V) :=
 if (kvs.any fun kv=>decide (kv.1=k))=true then kvs.map (fun kv=>if kv.1=k then (kv.1,v) else kv) else kvs++[(k,v)]
def ym9 (kvs:List (κ × V)) (k:κ):List (κ × V):=kvs.filter fun kv=>decide (kv.1≠k)
theorem xl {p:κ × V} {r:List (κ × V)} {k:κ} (e:p.1=k):jf (p :: r) k=some p.2:=by simp [jf,List.find?_cons,e]
theorem xm {p:κ × V} {r:List (κ × V)} {k:κ} (e:¬ p.1=k):jf (p :: r) k=jf r k:=by simp [jf,List.find?_cons,e]
theorem u9 (k:κ):∀ kvs:List (κ × V),(kvs.any fun kv=>decide (kv.1=k))=(jf kvs k).isSome
 | []=>rfl
 | p :: r=>by
  rw [List.any_cons]
  by_cases e:p.1=k
  ·simp only [xl e,decide_eq_true e,Bool.true_or,Option.isSome_some]
  ·rw [xm e,decide_eq_false e,Bool.false_or]; exact u9 k r
theorem ygz (k j:κ) (y:V):∀ kvs:List (κ × V),jf (kvs.map fun kv=>if kv.1=k then (kv.1,y) else kv) j=(jf kvs j).map fun x=>if j=k then y else x
 | []=>rfl
 | p :: r=>by
  have a:=ygz k j y r
  rw [List.map_cons]
  by_cases h:p.1=k
  ·rw [if_pos h]
   by_cases e:p.1=j
   ·rw [xl (p:=(p.1,y)) e,xl e,Option.map_some,if_pos (e.symm.trans h)]
   ·rw [xm (p:=(p.1,y)) e,xm e,a]
  ·rw [if_neg h]
   by_cases e:p.1=j
   ·rw [xl (p:=p) e,xl e,Option.map_some,if_neg (fun z=>h (e.trans z))]
   ·rw [xm (p:=p) e,xm e,a]
theorem ye6 (k j:κ) (y:V):∀ kvs:List (κ × V),jf kvs k=none->jf (kvs++[(k,y)]) j=if j=k then some y else jf kvs j
 | [],_=>by
  by_cases e:k=j
  ·rw [if_pos e.symm]; exact xl (p:=(k,y)) e
  ·rw [if_neg (fun z=>e z.symm)]; exact xm (p:=(k,y)) e
 | p :: r,hn=>by
  rw [List.cons_append]
  have a:¬ p.1=k:=fun z=>by rw [xl z] at hn; cases hn
  rw [xm a] at hn
  have b:=ye6 k j y r hn
  by_cases e:p.1=j
  ·rw [xl e,xl e,if_neg (fun z=>a (e.trans z))]
  ·rw [xm e,xm e,b]
theorem jd (kvs:List (κ × V)) (k j:κ) (y:V):jf (yc0 kvs k y) j=if j=k then some y else jf kvs j:=by
 unfold yc0
 by_cases a:(kvs.any fun b=>decide (b.1=k))=true
 ·rw [if_pos a,ygz]
  rw [u9] at a
  by_cases e:j=k
  ·obtain ⟨x,c⟩:=Option.isSome_iff_exists.mp a
   rw [if_pos e,e,c,Option.map_some,if_pos rfl]
  ·rw [if_neg e]
   cases jf kvs j with
   | none=>rfl
   | some x=>rw [Option.map_some,if_neg e]
 ·rw [if_neg a]
  refine ye6 k j y kvs ?_
  rw [u9] at a
  cases q:jf kvs k with
  | none=>rfl
  | some x=>rw [q] at a; exact (a rfl).elim
theorem ybk (kvs:List (κ × V)) (k:κ) (v:V):(yc0 kvs k v).length <= kvs.length+1:=by
 unfold yc0
 split
 ·rw [List.length_map]; omega
 ·rw [List.length_append,List.length_cons,List.length_nil]; omega
theorem ydp {kvs:List (κ × V)} {k:κ} (v:V) (h:jf kvs k=none):yc0 kvs k v=kvs++[(k,v)]:=by
 unfold yc0
 rw [u9,h]
 exact if_neg (by decide)
theorem yd4.isSome_eq {o:Option V} {u:Option Value} (r:yd4 o u):o.isSome=u.isSome:=by
 cases o with
 | none=>cases u with
  | none=>rfl
  | some _=>exact (show False from r).elim
 | some _=>cases u with
  | none=>exact (show False from r).elim
  | some _=>rfl
theorem yd4.getD {o:Option V} {u:Option Value} {d:V} {d':Value} (r:yd4 o u) (rd:wz d d'):wz (o.getD d) (u.getD d'):=by
 cases o with
 | none=>cases u with
  | none=>exact rd
  | some _=>exact (show False from r).elim
 | some _=>cases u with
  | none=>exact (show False from r).elim
  | some _=>exact r
theorem KV.val {kvs:List (κ × V)} {vs:List (κ × Value)} (r:KV kvs vs) (k:κ):yd4 (jf kvs k) (valueAt vs k):=by
 unfold KV at r
 induction r with
 | nil=>exact True.intro
 | @cons p q ps qs h t ih =>
  obtain ⟨c,d⟩:=h
  by_cases e:p.1=k
  ·have a:q.1=k:=c.symm.trans e
   have b:valueAt (q :: qs) k=some q.2:=by simp [valueAt,List.find?_cons,a]
   rw [xl e,b]; exact d
  ·have a:¬ q.1=k:=fun z=>e (c.trans z)
   have b:valueAt (q :: qs) k=valueAt qs k:=by simp [valueAt,List.find?_cons,a]
   rw [xm e,b]; exact ih
theorem KV.any {kvs:List (κ × V)} {vs:List (κ × Value)} (r:KV kvs vs) (k:κ):(kvs.any fun kv=>decide (kv.1=k))=vs.any fun kv=>decide (kv.1=k):=by
 unfold KV at r
 induction r with
 | nil=>rfl
 | cons h t ih=>rw [List.any_cons,List.any_cons,ih,h.1]
theorem KV.repl {kvs:List (κ × V)} {vs:List (κ × Value)} (r:KV kvs vs) (k:κ) {y:V} (ry:wz y u) :
  KV (kvs.map fun kv=>if kv.1=k then (kv.1,y) else kv) (vs.map fun kv=>if kv.1=k then (kv.1,u) else kv):=by
 unfold KV at r ⊢
 induction r with
 | nil=>exact .nil
 | @cons p q ps qs h t ih =>
  rw [List.map_cons,List.map_cons]
  refine .cons ?_ ih
  obtain ⟨a,b⟩:=h
  by_cases e:p.1=k
  ·rw [if_pos e,if_pos (a.symm.trans e)]; exact ⟨a,ry⟩
  ·rw [if_neg e,if_neg (fun z=>e (a.trans z))]; exact ⟨a,b⟩
theorem KV.put {kvs:List (κ × V)} {vs:List (κ × Value)} (r:KV kvs vs) (k:κ) {y:V} (ry:wz y u):KV (yc0 kvs k y) (stored vs k u):=by
 unfold yc0 stored
 rw [r.any k]
 by_cases e:(vs.any fun a=>decide (a.1=k))=true
 ·rw [if_pos e,if_pos e]; exact r.repl k ry
 ·rw [if_neg e,if_neg e]; exact Paired.snoc r ⟨rfl,ry⟩
theorem KV.drop {kvs:List (κ × V)} {vs:List (κ × Value)} (r:KV kvs vs) (k:κ):KV (ym9 kvs k) (without vs k):=by
 unfold KV at r ⊢
 unfold ym9 without
 induction r with
 | nil=>exact .nil
 | @cons p q ps qs h t ih =>
  obtain ⟨c,f⟩:=h
  rw [List.filter_cons,List.filter_cons]
  by_cases e:p.1=k
  ·have a:¬ decide (p.1≠k)=true:=by simp [e]
   have b:¬ decide (q.1≠k)=true:=by simp [c.symm.trans e]
   rw [if_neg a,if_neg b]; exact ih
  ·have d:¬ q.1=k:=fun z=>e (c.trans z)
   have a:decide (p.1≠k)=true:=by simp [e]
   have b:decide (q.1≠k)=true:=by simp [d]
   rw [if_pos a,if_pos b]; exact .cons ⟨c,f⟩ ih
theorem KV.keys {kvs:List (κ × V)} {vs:List (κ × Value)} (r:KV kvs vs):kvs.map (·.1)=vs.map (·.1):=by
 unfold KV at r
 induction r with
 | nil=>rfl
 | cons h t ih=>rw [List.map_cons,List.map_cons,ih,h.1]
theorem KV.length {kvs:List (κ × V)} {vs:List (κ × Value)} (r:KV kvs vs):kvs.length=vs.length:=Paired.length r
end
theorem yna {w:World} {k:Key} (r:wz (kV k) u):(xr P w).is k u=true:=by
 cases k with
 | inl i=>obtain ⟨t,e⟩:=(show ∃ t,u=Value.int i t from r); subst e; exact yfw P w i t
 | inr x=>obtain ⟨t,e⟩:=(show ∃ t,u=Value.str x t from r); subst e; exact yfu P w x t
theorem yer {w:World}:∀ {ks:List Key} {us:List Value},wk (ks.map kV) us->ItemsAre (xr P w) ks us
 | [],_,r=>by rw [List.map_nil] at r; cases r; exact .nil
 | k :: ks,_,r=>by
  rw [List.map_cons] at r
  cases r with
  | cons h t=>exact .cons (yna h) (yer t)
abbrev KT (H:Hp):List (List Key × V)->List (List Key × Addr × Value)->Prop:=Paired fun p q=>p.1=q.1/\H q.2.1=some (.tup (p.1.map kV))/\wz p.2 q.2.2
theorem KT.val {H:Hp} {kvs:List (List Key × V)} {xs:List (List Key × Addr × Value)} (r:KT H kvs xs) (k:List Key):yd4 (jf kvs k) ((atKey xs k).map (·.2)):=by
 induction r with
 | nil=>exact True.intro
 | @cons p q ps qs h t ih =>
  obtain ⟨c,_,d⟩:=h
  by_cases e:p.1=k
  ·have a:q.1=k:=c.symm.trans e
   have b:atKey (q :: qs) k=some q.2:=by simp [atKey,List.find?_cons,a]
   rw [xl e,b]; exact d
  ·have a:¬ q.1=k:=fun z=>e (c.trans z)
   have b:atKey (q :: qs) k=atKey qs k:=by simp [atKey,List.find?_cons,a]
   rw [xm e,b]; exact ih
theorem KT.repl {H:Hp} {kvs:List (List Key × V)} {xs:List (List Key × Addr × Value)} (r:KT H kvs xs) (k:List Key) {y:V} (ry:wz y u) :
  KT H (kvs.map fun kv=>if kv.1=k then (kv.1,y) else kv) (xs.map (putAt k u)):=by
 induction r with
 | nil=>exact .nil
 | @cons p q ps qs h t ih =>
  rw [List.map_cons,List.map_cons]
  refine .cons ?_ ih
  obtain ⟨a,b,c⟩:=h
  unfold putAt
  by_cases e:p.1=k
  ·rw [if_pos e,if_pos (a.symm.trans e)]; exact ⟨a,b,ry⟩
  ·rw [if_neg e,if_neg (fun z=>e (a.trans z))]; exact ⟨a,b,c⟩
theorem KT.put {H:Hp} {kvs:List (List Key × V)} {xs:List (List Key × Addr × Value)} (r:KT H kvs xs) (k:List Key) {b:Addr} {y:V} (hb:H b=some (.tup (k.map kV))) (ry:wz y u) :
  KT H (yc0 kvs k y) (storedH xs k b u):=by
 have e:(kvs.any fun a=>decide (a.1=k))=(atKey xs k).isSome:=by
  rw [u9,(r.val k).isSome_eq,Option.isSome_map]
 unfold yc0 storedH
 rw [e]
 by_cases q:(atKey xs k).isSome=true
 ·rw [if_pos q,if_pos q]; exact r.repl k ry
 ·rw [if_neg q,if_neg q]; exact Paired.snoc r ⟨rfl,hb,ry⟩
theorem KT.keeps {H H':Hp} {kvs:List (List Key × V)} {xs:List (List Key × Addr × Value)} (r:KT H kvs xs) (ht:∀ b ys,H b=some (.tup ys)->H' b=some (.tup ys)):KT H' kvs xs :=
 Paired.mapP r fun _ _ z=>⟨z.1,ht _ _ z.2.1,z.2.2⟩
section
variable {w:World} {H:Hp} {h:Heap}
theorem yx0 {u:HO} (ok:HOk P w H h) (e:Rd H a u):xa P w H h a u:=e.ok ok
theorem ym4 {kvs:List (Key × V)} (ok:HOk P w H h) (e:Rd H a (.dK kvs)):kvs.length <= sizeLine/\(a == sysModules)=false/\∃ vs,KV kvs vs/\h.DictOf (xr P w) a vs :=
 show xa P w H h a (.dK kvs) from yx0 ok e
theorem yzs {kvs:List (Key × V)} (ok:HOk P w H h) (e:H a=some (.dK kvs)):kvs.length <= sizeLine/\(a == sysModules)=false/\∃ vs,KV kvs vs/\h.DictOf (xr P w) a vs:=ym4 ok (.inl e)
theorem yh5 {ks:List Key} (ok:HOk P w H h) (e:H a=some (.tup (ks.map kV))):(tupleKind (xr P w)).is h ks a:=by
 obtain ⟨_,b,r,o,f,c,n,d⟩:=(show xa P w H h a (.tup (ks.map kV)) from ok a _ e)
 exact ⟨o,b.toArray,n,f,c,d,by simpa using yer r⟩
theorem ync {kvs:List (List Key × V)} (ok:HOk P w H h) (e:Rd H a (.dT kvs)):kvs.length <= sizeLine/\(a == sysModules)=false /\
  ∃ xs,KT H kvs xs/\h.DictOfH (tupleKind (xr P w)) a xs:=by
 obtain ⟨z,y,xs,r,o,n,i,k,d,g,f,j⟩:=(show xa P w H h a (.dT kvs) from yx0 ok e)
 refine ⟨z,y,xs,r,o,n,i,k,d,g,f,fun x b=>?_,j⟩
 have c:∀ {l:List (List Key × V)} {m:List (List Key × Addr × Value)},KT H l m->∀ x∈m,(tupleKind (xr P w)).is h x.1 x.2.1:=by
  intro l m q
  induction q with
  | nil=>intro x b; exact nomatch b
  | @cons p q ps qs hq t ih =>
   intro x b
   rcases List.mem_cons.mp b with e | b
   ·subst e
    exact yh5 ok (by rw [<- hq.1]; exact hq.2.1)
   ·exact ih x b
 exact c r x b
theorem yyg {kvs:List (List Key × V)} (ok:HOk P w H h) (e:H a=some (.dT kvs)):kvs.length <= sizeLine/\(a == sysModules)=false /\
  ∃ xs,KT H kvs xs/\h.DictOfH (tupleKind (xr P w)) a xs:=ync ok (.inl e)
end
def yd3 (H:Hp) (a:Addr) (y:V) (r:Option V):Prop :=
 (∃ kvs k,Rd H a (.dK kvs)/\y=kV k/\r=jf kvs k)\/∃ kvs k b,Rd H a (.dT kvs)/\y=.ref b/\H b=some (.tup (k.map kV))/\r=jf kvs k
def ynj (H:Hp) (a:Addr) (y v:V) (H':Hp):Prop :=
 (∃ kvs k,H a=some (.dK kvs)/\y=kV k/\kvs.length < sizeLine/\H'=upd H a (.dK (yc0 kvs k v))) \/
 ∃ kvs k b,H a=some (.dT kvs)/\y=.ref b/\H b=some (.tup (k.map kV))/\kvs.length < sizeLine/\H'=upd H a (.dT (yc0 kvs k v))
theorem yd3.k {H:Hp} {kvs:List (Key × V)} {k:Key} (e:H a=some (.dK kvs)):yd3 H a (kV k) (jf kvs k):=.inl ⟨kvs,k,.inl e,rfl,rfl⟩
theorem yd3.t {H:Hp} {b:Addr} {kvs:List (List Key × V)} {k:List Key} (e:H a=some (.dT kvs)) (eb:H b=some (.tup (k.map kV))):yd3 H a (.ref b) (jf kvs k):=.inr ⟨kvs,k,b,.inl e,rfl,eb,rfl⟩
theorem ynj.k {H:Hp} {kvs:List (Key × V)} {k:Key} {v:V} (e:H a=some (.dK kvs)) (hl:kvs.length < sizeLine):ynj H a (kV k) v (upd H a (.dK (yc0 kvs k v))):=.inl ⟨kvs,k,e,rfl,hl,rfl⟩
theorem ynj.t {H:Hp} {b:Addr} {kvs:List (List Key × V)} {k:List Key} {v:V} (e:H a=some (.dT kvs)) (eb:H b=some (.tup (k.map kV))) (hl:kvs.length < sizeLine) :
  ynj H a (.ref b) v (upd H a (.dT (yc0 kvs k v))):=.inr ⟨kvs,k,b,e,rfl,eb,hl,rfl⟩
section
variable {σ:St} {H:Hp} {s:Shared} {y v:V} {r:Value} {o:Option V} {A:Around}
theorem Inv.big (I:Inv X pins σ H s):sysModules < s.heap.objs.size:=by
 have h:mainGlobals < s.heap.objs.size:=(I.mod.glob.keeps I.bk).lt
 exact Nat.lt_trans (by decide) h
theorem yjb (hu:A.units+1 < cLine) (I:Inv X pins σ H s) (g:yd3 H a y (some v)) (ry:wz y u) (h:∀ w' s',Inv X pins σ H s'->wz v w'->Q w' s') :
  wpAny (model X.prog X.w) A (getItem (.ref a) u) Q E s:=by
 rcases g with ⟨n,k,e,j,l⟩ | ⟨n,k,b,e,j,x,l⟩
 ·subst j
  obtain ⟨z,t,q,d,f⟩:=ym4 I.hok e
  obtain ⟨w',i,c⟩:=yd4.some_of (v:=v) (o:=valueAt q k) (by rw [l]; exact d.val k)
  exact wpAny_getItem_of (yna ry) f.mapOf i (h w' _ (I.tok _) c)
 ·subst j
  cases (show u=Value.ref b from ry)
  obtain ⟨z,t,r,d,f⟩:=ync I.hok e
  obtain ⟨w',i,c⟩:=yd4.some_of (v:=v) (o:=(atKey r k).map (·.2)) (by rw [l]; exact d.val k)
  obtain ⟨p,B,m⟩:=Option.map_eq_some_iff.mp i
  refine wpAny_getItem_heap (tupleKind_room_in1 hu) (yh5 I.hok x) f B ?_
  rw [m]
  exact h w' _ (I.tok _) c
theorem yre (hu:A.units+1 < cLine) (I:Inv X pins σ H s) (g:yd3 H a y o) (ry:wz y u) (h:∀ s',Inv X pins σ H s'->Q (.bool (!o.isSome)) s') :
  wpAny (model X.prog X.w) A (compareOp .NotIn u (.ref a)) Q E s:=by
 rcases g with ⟨j,k,e,f,l⟩ | ⟨j,k,b,e,f,m,l⟩
 ·subst f
  obtain ⟨z,i,n,c,d⟩:=ym4 I.hok e
  refine wpAny_notIn_of (yna ry) i d.mapOf ?_
  rw [<- (c.val k).isSome_eq,<- l]
  exact h _ (I.tok _)
 ·subst f
  cases (show u=Value.ref b from ry)
  obtain ⟨z,i,p,c,d⟩:=ync I.hok e
  refine wpAny_notIn_heap (tupleKind_room_in1 hu) (yh5 I.hok m) i d ?_
  have q:=(c.val k).isSome_eq
  rw [Option.isSome_map] at q
  rw [<- q,<- l]
  exact h _ (I.tok _)
theorem ykp {t':Nat} {ob:HO} (I:Inv X pins σ H s) (mu:Mut (H a)) (hs:Heap.SameBut a s.heap h') (he:∃ q,h'.get? a=some q) (new:xa X.prog X.w (upd H a ob) h' a ob) :
  Inv X pins σ (upd H a ob) { s with heap:=h',toks:=t' } :=
 I.write (x:=a) (e:=a) mu (.inl rfl) (fun b q c z=>(hs.2 b c).trans z) he new
theorem yuf {w:World} {H':Hp} {kvs:List (Key × V)} {vs:List (Key × Value)} (z:kvs.length <= sizeLine) (hd:(a == sysModules)=false) (rel:KV kvs vs) (dd:h'.DictOf (xr P w) a vs) :
  xa P w H' h' a (.dK kvs):=⟨z,hd,vs,rel,dd⟩
theorem yjz {H':Hp} {Q:Unit->Shared->Prop} (hu:A.units+1 < cLine) (I:Inv X pins σ H s) (g:ynj H a y v H') (ry:wz y u) (rv:wz v r) (h:∀ s',Inv X pins σ H' s'->Q () s') :
  wpAny (model X.prog X.w) A (setItem (.ref a) u r) Q E s:=by
 rcases g with ⟨d,k,e,o,l,t⟩ | ⟨d,k,b,e,o,F,l,t⟩
 ·subst o t
  obtain ⟨z,x,O,f,n⟩:=yzs I.hok e
  have m:O.length <= sizeLine:=by rw [<- f.length]; exact z
  have p:(yc0 d k v).length <= sizeLine:=by have:=ybk d k v; omega
  refine wpAny_setItem_pairs (hsz:=m) (yna ry) n fun D i B=>h _ ?_
  have K:∃ q,D.get? a=some q:=let ⟨q,_,_,j,_⟩:=i; ⟨q,j⟩
  exact ykp I (by rw [e]; exact True.intro) B K (yuf p x (f.put k rv) i)
 ·subst o t
  cases (show u=Value.ref b from ry)
  obtain ⟨z,x,N,f,n⟩:=yyg I.hok e
  have m:N.length <= sizeLine:=by rw [<- Paired.length f]; exact z
  have p:(yc0 d k v).length <= sizeLine:=by have:=ybk d k v; omega
  refine wpAny_setItem_heap (hsz:=m) (tupleKind_room_in1 hu) (yh5 I.hok F) n fun D i B=>h _ ?_
  obtain ⟨q,M,L,j,J,R,P,_,G⟩:=i
  refine ykp I (by rw [e]; exact True.intro) B ⟨q,j⟩ ⟨p,x,_,(f.put k F rv).keeps fun c S C=>?_,q,M,L,j,J,R,P,G⟩
  rw [ym (x9 C e (fun z=>nomatch z))]
  exact C
end
def vap (i:Expr):Prop:=∀ ov iv,subscripted i false ov iv=operate [ov,iv] (getItem ov iv)
theorem yps {prog:Program} {w:World} {A:Around} {s:Shared} {env:Env} {value slice:Expr} {pos:Pos} {T id:String} 
  (hl:typeLookup (.type T) "__getitem__"=pure (some (.builtin id))) (hs:vap slice)
  (h:wpAny (model prog w) A (eval value env) (fun o s₁=>wpAny (model prog w) A (eval slice env) (fun i s₂=>s₂.TypeIs o T/\wpAny (model prog w) A (getItem o i) Q E s₂) E s₁) E s) :
  wpAny (model prog w) A (eval (.Subscript value slice pos) env) Q E s:=by
 refine Subscript_ (wpAny_mono h (fun o s₁ h₁=>wpAny_mono h₁ (fun i s₂ h₂=>?_) fun _ _ x=>x) fun _ _ x=>x)
 obtain ⟨b,h₂⟩:=h₂
 unfold subscriptTail
 refine wpAny_bind ?_
 rw [getitemInPython_of_ne b.not_modules]
 refine wpAny_bind (wpAny_specialOf b hl ?_)
 have a:wpAny (model prog w) A (subscripted slice false o i) (fun r s₃=>wpAny (model prog w) A (letTemporaryGo value o r >>= fun _=>pure r) Q E s₃) E s₂:=by
  rw [hs o i]
  exact wpAny_operating (wpAny_mono h₂ (fun r s₃ h₃=>wpAny_bind (wpAny_letTemporaryGo (wpAny_pure h₃))) fun _ _ x=>x)
 first
  | exact wpAny_pure (wpAny_bind a)
  | exact wpAny_bind (wpAny_pure (wpAny_bind a))
  | exact wpAny_bind a
theorem yf4 {σ:St} {H:Hp} {s:Shared} {y:V} {o:Option V} (I:Inv X pins σ H s) (g:yd3 H a y o):s.TypeIs (.ref a) "dict":=by
 rcases g with ⟨d,k,e,_,_⟩ | ⟨d,k,b,e,_,_,_⟩
 ·obtain ⟨_,_,f,_,c⟩:=ym4 I.hok e
  exact c.typeIs
 ·obtain ⟨_,_,h,_,c⟩:=ync I.hok e
  exact c.typeIs
def yxt (td ty:TE):TE:=fun σ H Q=>td σ H fun x H1=>ty σ H1 fun y H2=>∃ a v,x=.ref a/\yd3 H2 a y (some v)/\Q v H2
def vbu (ty td:TE):TE:=fun σ H Q=>ty σ H fun y H1=>td σ H1 fun x H2=>∃ a o,x=.ref a/\yd3 H2 a y o/\Q (.bl o.isSome) H2
def ykj (ty td:TE):TE:=fun σ H Q=>ty σ H fun y H1=>td σ H1 fun x H2=>∃ a o,x=.ref a/\yd3 H2 a y o/\Q (.bl (!o.isSome)) H2
def yxv (td ty tv:TE):TS:=fun D σ H=>tv σ H fun v H1=>td σ H1 fun x H2=>ty σ H2 fun y H3=>∃ a H4,x=.ref a/\ynj H3 a y v H4/\D.nx σ H4
section
variable {o i value:Expr} {pos pos' tpos:Pos} {td ty tv:TE}
theorem yqu (hu:X.A.units+1 < cLine) (ho:PE X o td) (hi:PE X i ty) (hs:vap i):PE X (.Subscript o i pos) (yxt td ty):=by
 refine .mk fun b s σ H Q I h=>?_
 refine yps PySem.F.slot_dict_getitem.lookup hs (thn (ho b s σ H _ I h) fun u r ⟨x,l,k,f,j⟩=>thn (hi b r σ l _ k j) fun z w h'=>?_)
 obtain ⟨y,q,d,n,a,v,e,g,p⟩:=h'
 subst e
 obtain rfl:u=Value.ref a:=f
 exact ⟨yf4 d g,yjb hu d g n fun B t m c=>⟨v,q,m,c,p⟩⟩
theorem yjp (hu:X.A.units+1 < cLine) (hi:PE X i ty) (ho:PE X o td):PC X .NotIn i o (ykj ty td):=by
 intro b s σ H Q I h
 refine thn (hi b s σ H _ I h) fun w r ⟨y,l,k,n,j⟩=>thn (ho b r σ l _ k j) fun u t h'=>?_
 obtain ⟨x,q,f,e,a,c,d,g,p⟩:=h'
 subst d
 obtain rfl:u=Value.ref a:=e
 exact yre hu f g n fun v m=>⟨.bl (!c.isSome),q,m,rfl,p⟩
theorem ykg (hu:X.A.units+1 < cLine) (ho:PE X o td) (hi:PE X i ty) (hv:PE X value tv) (hs:swapsWith value (some (.Subscript o i pos')) pos.line X.env=pure false) :
  PS X (.Assign [.Subscript o i pos'] value pos) (yxv td ty tv):=by
 refine .mk fun b s σ H D I h=>?_
 refine wpAny_Assign_Subscript (thn (hv b s σ H _ I h) fun r C ⟨v,d,c,n,k⟩=>thn (ho b C σ d _ c k) fun u q ⟨x,t,j,f,z⟩=>thn (hi b q σ t _ j z) fun F G h'=>?_) hs
 obtain ⟨y,J,l,e,a,B,m,g,p⟩:=h'
 subst m
 obtain rfl:u=Value.ref a:=f
 exact yjz hu l g e n fun E w=>⟨σ,B,w,p⟩
end
theorem yl7 {w:World} {H:Hp} (h:Heap) (hb:sysModules < h.objs.size):xa P w H (h.push { cls:=.type "dict",data:=.dict #[] }) h.objs.size (.dT []) :=
 ⟨Nat.zero_le _,beq_eq_false_iff_ne.mpr (Ne.symm (Nat.ne_of_lt hb)),[],.nil,_,#[],0,Heap.get?_push_size _ rfl,⟨rfl,rfl,rfl⟩,rfl,rfl,List.nodup_nil⟩
def ywo:TE:=fun _ H Q=>∀ p,H p=none->Q (.ref p) (upd H p (.dK []))
def yoy:TE:=fun _ H Q=>∀ p,H p=none->Q (.ref p) (upd H p (.dT []))
section
variable {pos:Pos}
theorem ydi:PE X (.Dict [] [] pos) yoy:=.mk fun b s σ H Q I h =>
 wpAny_Dict_empty ⟨.ref s.heap.objs.size,_,I.laid (a:=s.heap.objs.size) (o:=.dT []) (t':=s.toks) (fun _ _ q=>Heap.get?_push_of_some _ q) (Nat.le_refl _) (yl7 s.heap I.big),rfl,h _ (I.hok.fresh (Nat.le_refl _))⟩
end
structure M1 (X:Cx) (o:Expr) (m:Str) (apos:Pos) (e:Expr) (cpos:Pos):Prop where
 base:attributeBase o m X.env (eval o X.env)=eval o X.env
 few:((backTo cpos (starEach [e] X.env)).all (fun x=>!x.1) && (backToKw cpos (keywordEach [] X.env)).all (fun x=>x.1.isSome)
  && decide (([e]:List Expr).length+([]:List Keyword).length+(if ([]:List Keyword).isEmpty then 0 else 1) < 30))=true
 line:(apos.endLine == cpos.line)=true
 trees:backTo cpos (starEach [e] X.env)=[(false,eval e X.env)]
structure M2 (X:Cx) (o:Expr) (m:Str) (apos:Pos) (e f:Expr) (cpos:Pos):Prop where
 base:attributeBase o m X.env (eval o X.env)=eval o X.env
 few:((backTo cpos (starEach [e,f] X.env)).all (fun x=>!x.1) && (backToKw cpos (keywordEach [] X.env)).all (fun x=>x.1.isSome)
  && decide (([e,f]:List Expr).length+([]:List Keyword).length+(if ([]:List Keyword).isEmpty then 0 else 1) < 30))=true
 line:(apos.endLine == cpos.line)=true
 trees:backTo cpos (starEach [e,f] X.env)=[(false,eval e X.env),(false,eval f X.env)]
def IsD (H:Hp) (a:Addr):Prop:=(∃ kvs,Rd H a (.dK kvs))\/∃ kvs,Rd H a (.dT kvs)
def yu9 (td ty:TE):TE:=fun σ H Q=>td σ H fun x H1=>∃ a,x=.ref a/\IsD H1 a/\ty σ H1 fun y H2=>∃ o,yd3 H2 a y o/\Q (o.getD .non) H2
def yxf (td ty tx:TE):TE:=fun σ H Q=>td σ H fun x H1=>∃ a,x=.ref a/\IsD H1 a/\ty σ H1 fun y H2=>tx σ H2 fun z H3=>∃ o,yd3 H3 a y o/\Q (o.getD z) H3
def ywy (td ty:TE):TE:=fun σ H Q=>td σ H fun x H1=>∃ a,x=.ref a/\IsD H1 a/\ty σ H1 fun y H2=>∃ kvs k v,H2 a=some (.dK kvs)/\y=kV k/\jf kvs k=some v/\Q v (upd H2 a (.dK (ym9 kvs k)))
@[irreducible] def QA (X:Cx) (es:List Expr) (t:TA):Prop:=PA X es t
@[irreducible] def QE (X:Cx) (e:Expr) (t:TE):Prop:=PE X e t
@[irreducible] def QSs (X:Cx) (st:List Stmt) (t:TS):Prop:=PSs X st t
section
variable {es:List Expr} {te:TE} {t:TA} {pos:Pos} {ts us:TS} {st:Stmt} {u6:List Stmt}
theorem ug (h:PE X e te):QE X e te:=by unfold QE; exact h
theorem yh7:QA X [] yd5:=by unfold QA; exact ye
theorem wj (ha:QE X e te) (hr:QA X es t) (h:ykn e=true):QA X (e :: es) (uw te t):=by
 unfold QA at hr ⊢
 unfold QE at ha
 exact ya ha hr (yb h)
theorem yh8 (h:QA X es t):QE X (.List es pos) (yx7 t):=by
 unfold QA at h
 exact ug (vq h)
theorem va1 (h:QE X e te):PE X e te:=by
 unfold QE at h
 exact h
end
@[irreducible] def QS (X:Cx) (st:Stmt) (t:TS):Prop:=PS X st t
section
variable {te:TE} {pos:Pos} {ts us:TS} {st:Stmt} {u6:List Stmt}
theorem yzk (h:PS X st ts):QS X st ts:=by unfold QS; exact h
theorem yjj (h1:QS X st ts) (h2:PSs X u6 us):PSs X (st :: u6) (yts ts us):=by
 unfold QS at h1
 exact yj h1 h2
theorem yq {R:TS->Prop} (h1:PS X st ts) (h2:∃ us,PSs X u6 us/\R (yts ts us)):∃ t,PSs X (st :: u6) t/\R t:=let ⟨_,a,b⟩:=h2; ⟨_,yj h1 a,b⟩
theorem yes {R:TS->Prop} (h1:QS X st ts) (h2:∃ us,PSs X u6 us/\R (yts ts us)):∃ t,PSs X (st :: u6) t/\R t:=let ⟨_,a,b⟩:=h2; ⟨_,yjj h1 a,b⟩
theorem ypd {y:Str} {p:Pos} (hN:X.N.Nodup) (hi:X.N[i]?=some y) (hx:Loc X.env.scope y) (he:QE X e te) (hf:X.fn y=true\/X.env.scope.names.lookup y=some .local) (hs:swapsWith e (some (.Name y p)) pos.line X.env=pure false):QS X (.Assign [.Name y p] e pos) (ypl te (vn i)):=by
 unfold QE at he
 exact yzk (vc hN hi hx he hs hf)
end
theorem yg0:∀ {bs:List Bool} {us:List Value},wk (bs.map V.bl) us->us=bs.map Value.bool
 | [],_,.nil=>rfl
 | b :: r,_,.cons a t=>by rw [show _=Value.bool b from a,yg0 t]; rfl
theorem yi8 (bs:List Bool):((List.range bs.length).all fun i=>(bs[i]?).getD true)=bs.all id:=by
 rw [Bool.eq_iff_iff,List.all_eq_true,List.all_eq_true]
 constructor
 ·intro h b c
  obtain ⟨i,a,rfl⟩:=List.getElem_of_mem c
  have:=h i (List.mem_range.mpr a)
  rw [List.getElem?_eq_getElem a] at this
  exact this
 ·intro h i a
  have a:=List.mem_range.mp a
  rw [List.getElem?_eq_getElem a]
  exact h _ (List.getElem_mem a)
theorem jy (hc:X.calm=true):je X (.builtin "all") (fun xs H Q=>∃ p bs,xs=[.ref p]/\SqL X.K H p (List.map V.bl bs)/\Q (.bl (bs.all id)) H):=by
 intro g s σ H xs C Q I r h
 obtain ⟨p,bs,rfl,w,q⟩:=h
 obtain ⟨u,rfl,m⟩:=yll r
 cases m
 obtain ⟨l,n,k,y⟩:=I.list w
 obtain rfl:=yg0 n
 have f:=k.isList
 have c:p < s.heap.objs.size:=by obtain ⟨_,e,_⟩:=f; exact Heap.lt_size e
 refine call_all_walk (wpAny_pyIter_list f ?_)
 refine ⟨s.heap.objs.size,[s.heap.objs.size,p],[s.heap.objs.size],(bs.map Value.bool).toArray.size,_,_,fun i=>(bs[i]?).getD true,rfl,Walks.list (A:=X.A.in1) (show X.A.handled=none from I.ok.hd hc) _ p (Nat.ne_of_lt c) (bs.map Value.bool).toArray,
  ⟨⟨_,Heap.get?_push_size _ rfl,rfl,rfl⟩,f.push _⟩,fun i v D z E a d=>?_,fun B o t=>?_⟩
 ·have a:(bs.map Value.bool)[i]?=some v:=by simpa using a
  rw [List.getElem?_map] at a
  cases e:bs[i]? with
  | none=>rw [e] at a; cases a
  | some b =>
   dsimp only at d
   rw [e] at a d
   cases a
   exact wpAny_truthy_bool d
 ·have e:((List.range (bs.map Value.bool).toArray.size).all fun i=>(bs[i]?).getD true)=bs.all id:=by
   rw [List.size_toArray,List.length_map]
   exact yi8 bs
  rw [e]
  refine ⟨.bl (bs.all id),H,I.kept (t':=o) fun b x e=>t b x (fun j=>?_) (Heap.get?_push_of_some _ e),rfl,q⟩
  rw [List.mem_singleton.mp j] at e
  exact Nat.lt_irrefl _ (Heap.lt_size e)
theorem xf {env:Env}:∀ {names:List (Str × NameKind)} {x:Str} {k:NameKind},
  (names.map fun (n,k)=>if (k == NameKind.free && env.scope.kind == .function && env.kindOf n == some .cell) then (n,NameKind.cell) else (n,k)).lookup x=some k->∃ k0,(x,k0)∈names/\(k=k0\/k0=.free)
 | [],_,_,h=>by simp at h
 | (n,k1) :: r,x,k,h=>by
  rw [List.map_cons] at h
  by_cases hx:x=n
  ·subst hx
   refine ⟨k1,.head _,?_⟩
   dsimp only at h
   split at h
   ·rename_i hc
    simp only [Bool.and_eq_true,beq_iff_eq] at hc
    exact .inr hc.1.1
   ·simp [List.lookup] at h
    exact .inl h.symm
  ·have:(x == n)=false:=by simpa using hx
   have a:(r.map fun (n,k)=>if (k == NameKind.free && env.scope.kind == .function && env.kindOf n == some .cell) then (n,NameKind.cell) else (n,k)).lookup x=some k:=by
    dsimp only at h
    split at h <;> simpa [List.lookup,this] using h
   obtain ⟨k0,m,q⟩:=xf a
   exact ⟨k0,.tail _ m,q⟩
def jq (ys:List Str) (env:Env):List (Str × Addr):=ys.map fun y=>(y,(env.cells.lookup y).getD 0)
theorem ydt {env:Env}:∀ {ys:List Str} {y:Str} {c:Addr},(jq ys env).lookup y=some c->y∈ys/\c=(env.cells.lookup y).getD 0
 | [],_,_,h=>by simp [jq] at h
 | z :: r,y,c,h=>by
  by_cases hy:y=z
  ·subst hy
   simp [jq,List.lookup] at h
   exact ⟨.head _,h.symm⟩
  ·have a:(y == z)=false:=by simpa using hy
   have b:(jq r env).lookup y=some c:=by simpa [jq,List.lookup,a] using h
   obtain ⟨m,e⟩:=ydt b
   exact ⟨.tail _ m,e⟩
theorem jw {env:Env}:∀ {ys:List Str} {y:Str},y∈ys->(jq ys env).lookup y=some ((env.cells.lookup y).getD 0)
 | z :: r,y,h=>by
  by_cases hy:y=z
  ·subst hy
   simp [jq,List.lookup]
  ·have a:(y == z)=false:=by simpa using hy
   have b:y∈r:=by
    rcases List.mem_cons.mp h with q | q
    ·exact absurd q hy
    ·exact q
   have:=jw (env:=env) b
   simpa [jq,List.lookup,a] using this
abbrev Cx.compF (X:Cx) (scope:Scope) (ys:List Str) (C:Addr) (x:Str) (s2:Shared) (H2:Hp) (fp:List Addr):Cx :=
 { X with N:=x :: ys,s₀:=s2,H₀:=H2,env:=compEnvC scope (jq ys X.env) C X.env,outer:=X.stack,ex:=fp,fn:=fun _=>false,pn:=[],xe:=fun _ _=>False }
def zb (J:It) (te:TE) (fr:St) (D:Addr) (R:Hp->Prop) (H1:Hp):Prop:=∃ W:Nat->Nat->Hp->Prop,(∃ m,W 0 m (upd H1 D (.lst []))) /\
 ∀ i m H2,W i m H2->(J.stop i H2/\R H2)\/(J.go i H2/\∀ x H3,J.yld i H2 x H3->te (some x :: fr) H3 fun y H4=>∃ ys,H4 D=some (.lst ys)/\ys.length < sizeLine/\∃ m',m' < m/\W (i+1) m' (upd H4 D (.lst (ys++[y]))))
def wo (js:List Nat) (σ:St):St:=js.map fun j=>(σ[j]?).getD none
def yk1 (wi:TI) (te:TE) (js:List Nat):TE:=fun σ H Q=>wi σ H fun J H1=>∀ D,H1 D=none->zb J te (wo js σ) D (fun H2=>Q (.ref D) H2) H1
section
variable {iter elt:Expr} {x:Str} {px pos:Pos} {te:TE} {wi:TI} {σ:St} {ys:List Str} {js:List Nat}
theorem ypm {H:Hp} {Q:VK} (h:wi σ H fun J H1=>∀ D,H1 D=none->zb J te (wo js σ) D (fun H2=>Q (.ref D) H2) H1):yk1 wi te js σ H Q:=h
theorem zy {K:W.Frag} {xs:List V} {fr:St} {R:Hp->Prop} {H1:Hp} (Pv:Nat->Hp->Prop) (h0:Pv 0 (upd H1 D (.lst []))) (hl:∀ i H,i <= xs.length->Pv i H->SqL K H a xs)
  (hs:∀ i x H,xs[i]?=some x->i < xs.length->Pv i H->te (some x :: fr) H fun y H4=>∃ ys,H4 D=some (.lst ys)/\ys.length < sizeLine/\∃ m',m' < xs.length - i/\cW xs.length Pv (i+1) m' (upd H4 D (.lst (ys++[y]))))
  (hd:∀ H,Pv xs.length H->R H):zb (Itl K a) te fr D R H1:=by
 refine ⟨cW xs.length Pv,⟨xs.length,by simp,Nat.zero_le _,h0⟩,?_⟩
 rintro i m H ⟨rfl,b,p⟩
 have q:=hl i H b p
 by_cases hlt:i < xs.length
 ·refine .inr ⟨⟨xs,xs[i],q,by simp [hlt]⟩,fun x c y=>?_⟩
  obtain ⟨e,y⟩:=y
  subst e
  exact hs i x _ (y xs q) hlt p
 ·have e:i=xs.length:=by omega
  subst e
  exact .inl ⟨⟨xs,q,Nat.le_refl _⟩,hd H p⟩
theorem ybl {lo:Int} {n:Nat} {fr:St} {R:Hp->Prop} {H1:Hp} (Pv:Nat->Hp->Prop) (h0:Pv 0 (upd H1 D (.lst [])))
  (hs:∀ i H,i < n->Pv i H->te (some (.int (lo+i)) :: fr) H fun y H4=>∃ ys,H4 D=some (.lst ys)/\ys.length < sizeLine/\∃ m',m' < n - i/\cW n Pv (i+1) m' (upd H4 D (.lst (ys++[y]))))
  (hd:∀ H,Pv n H->R H):zb (Itr lo n) te fr D R H1:=by
 refine ⟨cW n Pv,⟨n,by simp,Nat.zero_le _,h0⟩,?_⟩
 rintro i m H ⟨rfl,b,p⟩
 by_cases hlt:i < n
 ·refine .inr ⟨hlt,fun x a y=>?_⟩
  obtain ⟨e,y⟩:=y
  subst e y
  exact hs i _ hlt p
 ·have e:i=n:=by omega
  subst e
  exact .inl ⟨Nat.le_refl _,hd H p⟩
end
end L2
namespace L2
theorem yw {α:Type} {P:α->Prop}:∀ y∈([]:List α),P y:=fun _ h=>nomatch h
theorem all_cons {α:Type} {P:α->Prop} {y:α} {r:List α} (h:P y) (t:∀ z∈r,P z):∀ z∈y :: r,P z:=fun z a=>by
 rcases List.mem_cons.mp a with e | a
 ·exact e ▸ h
 ·exact t z a
end L2
namespace L2
open PySem PySem.Spec PyProof.Rows
variable {i:Nat}
def Ite (K:W.Frag) (a:Addr):It :=
 ⟨fun i H=>∃ xs x,SqL K H a xs/\xs[i]?=some x,fun i H y H'=>∃ t x,y=.ref t/\H t=none/\H'=upd H t (.tup [.int i,x])/\∀ xs,SqL K H a xs->xs[i]?=some x,fun i H=>∃ xs,SqL K H a xs/\xs.length <= i⟩
section
variable {X:Cx}
def yzq (K:W.Frag) (ta:TA):TI:=fun σ H R=>ta σ H fun vs H1=>∃ a,vs=[.ref a]/\(∃ xs,SqL K H1 a xs)/\R (Ite K a) H1
theorem yqe {K:W.Frag} {ta:TA} {σ:St} {H:Hp} {R:It->Hp->Prop} (h:ta σ H fun vs H1=>∃ a,vs=[.ref a]/\(∃ xs,SqL K H1 a xs)/\R (Ite K a) H1):yzq K ta σ H R:=h
theorem yhe:∀ {ns:List Int} {us:List Value},wk (ns.map V.int) us->∃ xs:Array (Int × Tok),us.toArray=intItems xs/\xs.toList.map (·.1)=ns
 | [],_,.nil=>⟨#[],by simp [intItems],rfl⟩
 | n :: r,_,.cons (l₂:=us) a t=>by
  obtain ⟨d,rfl⟩:=a
  obtain ⟨xs,c,b⟩:=yhe t
  refine ⟨((n,d) :: xs.toList).toArray,?_,by simp [b]⟩
  have:us=(intItems xs).toList:=by rw [<- c]
  rw [this]
  simp [intItems]
theorem ya4 (hc:X.calm=true):je X (.builtin "sum") (fun vs H Q=>∃ p ns,vs=[.ref p]/\SqL X.K H p (List.map V.int ns)/\Q (.int ns.sum) H):=by
 intro a s σ H n t Q I r h
 obtain ⟨p,ns,rfl,j,q⟩:=h
 obtain ⟨u,rfl,b⟩:=yll r
 cases b
 obtain ⟨l,c,f,v⟩:=I.list j
 obtain ⟨d,m,g⟩:=yhe c
 have i:s.heap.IsList p (intItems d):=m ▸ f.isList
 refine sum_intListG (I.ok.hd hc) i fun o e t' k=>?_
 rw [preSum_eq,List.take_of_length_le (by simp),g]
 exact ⟨.int ns.sum,H,I.kept (t':=e) k,⟨_,rfl⟩,q⟩
end
section
variable {X:Cx} {e:Expr} {t1 t2:TE}
def ynk (t1 t2:TE):TE:=fun σ H Q=>t1 σ H Q\/t2 σ H Q
theorem yam (h1:PE X e t1) (h2:PE X e t2):PE X e (ynk t1 t2):=by
 refine .mk fun a s σ H Q I h=>?_
 rcases h with h | h
 ·exact h1 a s σ H Q I h
 ·exact h2 a s σ H Q I h
theorem ycu {σ:St} {H:Hp} {Q:VK} (h:t1 σ H Q):ynk t1 t2 σ H Q:=.inl h
theorem j4 {σ:St} {H:Hp} {Q:VK} (h:t2 σ H Q):ynk t1 t2 σ H Q:=.inr h
end
def yxu (i j:Int):Prop:=∃ k:Nat,i.natAbs < 2 ^ k/\j.natAbs < 2 ^ k/\k <= 2 ^ 20
theorem yrr {X:Cx}:OpR X (binaryOp .Mult) (rI yxu fun i j=>.int (i * j)):=opI fun _ _ _ _ _ _ _ b q=>mul_int q (by
 obtain ⟨k,d,c,a⟩:=b
 exact IntMulOk.of_bits (Nat.le_trans (PyProof.Rows.intBits_le d) a) (Nat.le_trans (PyProof.Rows.intBits_le c) a))
theorem yuw {i j:Int} {H:Hp} {Q:VK} (k:Nat) (h1:i.natAbs < 2 ^ k) (h2:j.natAbs < 2 ^ k) (h3:k <= 2 ^ 20) (h:Q (.int (i * j)) H):rI yxu (fun i j=>.int (i * j)) (.int i) (.int j) H Q:=⟨i,j,rfl,rfl,⟨k,h1,h2,h3⟩,h⟩
theorem yn {H:Hp} {p:Addr} {o:HO} {A:Hp->Prop} (hp:H p=none) (h:∀ H',yz H H'->H' p=some o->A H'):A (upd H p o):=h _ (vd hp) yd
theorem yk {α:Type} {H:Hp} {p:Addr} {o:HO} {A:Hp->α->Prop} {Q:α} (hp:H p=none) (h:∀ H',yz H H'->H' p=some o->A H' Q):A (upd H p o) Q:=h _ (vd hp) yd
section
variable {K:W.Frag} {a D:Addr} {xs:List V} {te:TE} {fr:St} {R:Hp->Prop} {H1:Hp}
theorem yjd (Pv:Nat->Hp->Prop) (h0:Pv 0 (upd H1 D (.lst []))) (hl:∀ i H,i <= xs.length->Pv i H->SqT K H a xs)
  (hs:∀ i x H,xs[i]?=some x->i < xs.length->Pv i H->te (some x :: fr) H fun y H4=>∃ ys,H4 D=some (.lst ys)/\ys.length < sizeLine/\∃ m',m' < xs.length - i/\cW xs.length Pv (i+1) m' (upd H4 D (.lst (ys++[y]))))
  (hd:∀ H,Pv xs.length H->R H):zb (Itt K a) te fr D R H1:=by
 refine ⟨cW xs.length Pv,⟨xs.length,by simp,Nat.zero_le _,h0⟩,?_⟩
 rintro i m H ⟨rfl,b,p⟩
 have q:=hl i H b p
 by_cases hlt:i < xs.length
 ·refine .inr ⟨⟨xs,xs[i],q,by simp [hlt]⟩,fun x c y=>?_⟩
  obtain ⟨e,y⟩:=y
  subst e
  exact hs i x _ (y xs q) hlt p
 ·have e:i=xs.length:=by omega
  subst e
  exact .inl ⟨⟨xs,q,Nat.le_refl _⟩,hd H p⟩
theorem ymr (Pv:Nat->Hp->Prop) (h0:Pv 0 (upd H1 D (.lst []))) (hl:∀ i H,i <= xs.length->Pv i H->SqT K H a xs)
  (hs:∀ i x H,xs[i]?=some x->i < xs.length->Pv i H->te [some x] H fun y H4=>∃ ys,H4 D=some (.lst ys)/\ys.length < sizeLine/\∃ m',m' < xs.length - i/\cW xs.length Pv (i+1) m' (upd H4 D (.lst (ys++[y]))))
  (hd:∀ H,Pv xs.length H->R H):yao (Itt K a) te D R H1:=by
 refine ⟨cW xs.length Pv,⟨xs.length,by simp,Nat.zero_le _,h0⟩,?_⟩
 rintro i m H ⟨rfl,b,p⟩
 have q:=hl i H b p
 by_cases hlt:i < xs.length
 ·refine .inr ⟨⟨xs,xs[i],q,by simp [hlt]⟩,fun x c y=>?_⟩
  obtain ⟨e,y⟩:=y
  subst e
  exact hs i x _ (y xs q) hlt p
 ·have e:i=xs.length:=by omega
  subst e
  exact .inl ⟨⟨xs,q,Nat.le_refl _⟩,hd H p⟩
def Mp (H1:Hp) (D:Addr) (f:Nat->V) (i:Nat) (H:Hp):Prop:=yz H1 H/\H D=some (.lst ((List.range i).map f))
theorem Mp.zero {f:Nat->V} (hD:H1 D=none):Mp H1 D f 0 (upd H1 D (.lst [])):=⟨vd hD,yd⟩
theorem Mp.step {f:Nat->V} {n:Nat} {H4:Hp} {y:V} (hD:H1 D=none) (hn:n < sizeLine) (hi:i < n) (S:yz H1 H4) (h4:H4 D=some (.lst ((List.range i).map f))) (e:y=f i) :
  ∃ ys,H4 D=some (.lst ys)/\ys.length < sizeLine/\∃ m',m' < n - i/\cW n (Mp H1 D f) (i+1) m' (upd H4 D (.lst (ys++[y]))):=by
 refine wb (n:=n) h4 (by rw [List.length_map,List.length_range]; omega) hi ⟨?_,?_⟩
 ·intro b o a
  rw [ym (yc a hD)]
  exact S b o a
 ·rw [yd,List.range_succ,List.map_append,e]
  rfl
theorem ybr {f:Nat->V} {g:V->V} (h:∀ i x,xs[i]?=some x->f i=g x):(List.range xs.length).map f=xs.map g:=by
 refine List.ext_getElem? fun i=>?_
 rw [List.getElem?_map,List.getElem?_map]
 by_cases hi:i < xs.length
 ·rw [List.getElem?_range hi,List.getElem?_eq_getElem hi]
  show some (f i)=some (g xs[i])
  rw [h i _ (List.getElem?_eq_getElem hi)]
 ·rw [List.getElem?_eq_none (by rw [List.length_range]; omega),List.getElem?_eq_none (by omega)]
  rfl
def ofG (g:V->V) (xs:List V) (i:Nat):V:=((xs[i]?).map g).getD .non
theorem yh6 {g:V->V} {x:V} (h:xs[i]?=some x):ofG g xs i=g x:=by
 unfold ofG
 rw [h]
 rfl
def MpK (H1:Hp) (D:Addr) (f:Nat->V) (n i:Nat):VK:=fun y H4=>∃ ys,H4 D=some (.lst ys)/\ys.length < sizeLine/\∃ m',m' < n - i/\cW n (Mp H1 D f) (i+1) m' (upd H4 D (.lst (ys++[y])))
theorem Mp.done {g:V->V} {x y:V} {H4:Hp} (hD:H1 D=none) (hn:xs.length < sizeLine) (hx:xs[i]?=some x) (S:yz H1 H4) (h4:H4 D=some (.lst ((List.range i).map (ofG g xs)))) (e:y=g x):MpK H1 D (ofG g xs) xs.length i y H4:=by
 have a:i < xs.length:=by
  rcases Nat.lt_or_ge i xs.length with q | q
  ·exact q
  ·rw [List.getElem?_eq_none q] at hx; cases hx
 exact Mp.step hD hn a S h4 (e.trans (yh6 hx).symm)
theorem Mp.doneR {f:Nat->V} {n:Nat} {y:V} {H4:Hp} (hD:H1 D=none) (hn:n < sizeLine) (hi:i < n) (S:yz H1 H4) (h4:H4 D=some (.lst ((List.range i).map f))) (e:y=f i):MpK H1 D f n i y H4:=Mp.step hD hn hi S h4 e
theorem ybo (g:V->V) (hq:SqL K H1 a xs) (hD:H1 D=none)
  (hs:∀ i x H,xs[i]?=some x->yz H1 H->H D=some (.lst ((List.range i).map (ofG g xs)))->te (some x :: fr) H (MpK H1 D (ofG g xs) xs.length i))
  (hd:∀ H,yz H1 H->H D=some (.lst (xs.map g))->R H):zb (Itl K a) te fr D R H1 :=
 zy (Mp H1 D (ofG g xs)) (Mp.zero hD) (fun _ _ _ p=>p.1.seq hq) (fun i x H b c p=>hs i x H b p.1 p.2)
  fun H p=>hd H p.1 (by rw [<- ybr (f:=ofG g xs) fun i x=>yh6]; exact p.2)
theorem yca (g:V->V) (hq:SqT K H1 a xs) (hD:H1 D=none)
  (hs:∀ i x H,xs[i]?=some x->yz H1 H->H D=some (.lst ((List.range i).map (ofG g xs)))->te (some x :: fr) H (MpK H1 D (ofG g xs) xs.length i))
  (hd:∀ H,yz H1 H->H D=some (.lst (xs.map g))->R H):zb (Itt K a) te fr D R H1 :=
 yjd (Mp H1 D (ofG g xs)) (Mp.zero hD) (fun _ _ _ p=>p.1.tup hq) (fun i x H b c p=>hs i x H b p.1 p.2)
  fun H p=>hd H p.1 (by rw [<- ybr (f:=ofG g xs) fun i x=>yh6]; exact p.2)
theorem yj0 (g:V->V) (hq:SqT K H1 a xs) (hD:H1 D=none)
  (hs:∀ i x H,xs[i]?=some x->yz H1 H->H D=some (.lst ((List.range i).map (ofG g xs)))->te [some x] H (MpK H1 D (ofG g xs) xs.length i))
  (hd:∀ H,yz H1 H->H D=some (.lst (xs.map g))->R H):yao (Itt K a) te D R H1 :=
 ymr (Mp H1 D (ofG g xs)) (Mp.zero hD) (fun _ _ _ p=>p.1.tup hq) (fun i x H b c p=>hs i x H b p.1 p.2)
  fun H p=>hd H p.1 (by rw [<- ybr (f:=ofG g xs) fun i x=>yh6]; exact p.2)
theorem yq4 {tr:TA} {σ:St} {H:Hp} {R:It->Hp->Prop} (h:tr σ H fun vs H1=>∃ i j:Int,vs=[.int i,.int j]/\(-(2 ^ 62) <= i/\i < 2 ^ 62/\-(2 ^ 62) <= j/\j < 2 ^ 62)/\R (Itr i (j - i).toNat) H1):yzl tr σ H R:=h
end
structure Mk0 (K:W.Frag) (C:Addr):Prop where
 makes:W.makesIn K C=true
 init:W.findIn K (.ref C) "__init__"=some (some (.builtin "object.__init__"))
 kp:W.keepIn K (.ref C)=true
def yxd (C:Addr):TE:=fun _ H Q=>∀ x dx,H x=none->H dx=none->dx≠x->Q (.ref x) (upd (upd H dx (.own x)) x (.ins C dx []))
theorem yp2 {C:Addr} {σ:St} {H:Hp} {Q:VK} (h:∀ x dx,H x=none->H dx=none->dx≠x->Q (.ref x) (upd (upd H dx (.own x)) x (.ins C dx []))):yxd C σ H Q:=h
abbrev Cx.compT (X:Cx) (scope:Scope) (ys:List Str) (C:Addr) (xs:List Str) (s2:Shared) (H2:Hp) (fp:List Addr):Cx :=
 { X with N:=xs++ys,s₀:=s2,H₀:=H2,env:=compEnvC scope (jq ys X.env) C X.env,outer:=X.stack,ex:=fp,fn:=fun _=>false,pn:=[],xe:=fun _ _=>False }
variable {X:Cx}
def zr (J:It) (g:TG) (te:TE) (n:Nat) (fr:St) (D:Addr) (R:Hp->Prop) (H1:Hp):Prop:=∃ W:Nat->Nat->Hp->Prop,(∃ m,W 0 m (upd H1 D (.lst []))) /\
 ∀ i m H2,W i m H2->(J.stop i H2/\R H2)\/(J.go i H2/\∀ x H3 pre,J.yld i H2 x H3->List.length pre=n->g x (pre++fr) H3 fun σ' H'=>(∃ pre',List.length pre'=n/\σ'=pre'++fr)/\te σ' H' fun y H4=>∃ ys,H4 D=some (.lst ys)/\ys.length < sizeLine/\∃ m',m' < m/\W (i+1) m' (upd H4 D (.lst (ys++[y]))))
def ykw (wi:TI) (g:TG) (te:TE) (n:Nat) (js:List Nat):TE:=fun σ H Q=>wi σ H fun J H1=>∀ D,H1 D=none->zr J g te n (wo js σ) D (fun H2=>Q (.ref D) H2) H1
section
variable {iter elt tg:Expr} {xs:List Str} {g:TG} {pos:Pos} {scope:Scope} {te:TE} {wi:TI} {pins:List (Addr × Obj)} {σ:St} {ys:List Str} {js:List Nat}
theorem yad {s2:Shared} {H2:Hp} {it:Addr} {fp:List Addr} {tn:Nat->Heap->Prop} {J:It} (hc:X.calm=true)
  (he:∀ (C:Addr) (s2:Shared) (H2:Hp) (fp:List Addr),PE (X.compT scope ys C xs s2 H2 fp) elt te)
  (hgt:∀ (C:Addr) (s2:Shared) (H2:Hp) (fp:List Addr),PG (X.compT scope ys C xs s2 H2 fp) tg g)
  (hcell:∀ y∈scope.names,y.2≠.cell) (hkind:scope.kind=.function)
  (hfr:∀ y∈scope.names,y.2=.free->y.1∈ys) (hyc:∀ y∈ys,X.env.kindOf y=some .cell) (hrel:∀ y∈ys,(relabel scope X.env).names.lookup y=some .cell) (hjs:js.map (fun j=>X.N[j]?)=ys.map some)
  (I2:Inv X pins σ H2 s2) (T:ylq X.prog X.w X.K tg J fp it tn) (st2:tn 0 s2.heap) (f2:∀ b∈fp,yc1 X pins H2 b)
  {R:Addr->Hp->Prop} (h:∀ D,H2 D=none->zr J g te xs.length (wo js σ) D (R D) H2) {RR:Value->Addr->Result->Shared->Prop} {E:Value->Shared->Prop}
  (hR:∀ (D C:Addr) (H':Hp) (s':Shared) (m:Str->Option Value),yc1 X pins H' C->s'.heap.Ns C m->Inv X pins σ H' s'->R D H'->RR (.ref D) C (.ok .next) s') :
  wpAny (model X.prog X.w) X.A (newList []) (fun acc s₃=>wpAny (model X.prog X.w) X.A (newFunctionEnv scope X.env.globals (jq ys X.env) [] X.env.qual none .none (some X.env)) (fun cenv s₄ =>
   codeAny (model X.prog X.w) X.A (.compStart (.ListComp elt [⟨tg,iter,[],0⟩] scope pos) 0 (.ref it) acc { cenv with scope:=relabel scope X.env }) (RR acc cenv.locals) s₄) E s₃) E s2:=by
 have k:∀ y c,(jq ys X.env).lookup y=some c->X.env.cells.lookup y=some c:=fun y c e=>by
  obtain ⟨m,rfl⟩:=ydt e
  obtain ⟨c',q⟩:=I2.ok.has y (.inl (hyc y m))
  rw [q]
  rfl
 refine wpAny_newObj_type (wpAny_newFunctionEnv hcell (by intro y hy; simp at hy) (fun h₁ hns₁ hsb₁=>?_) hkind)
 dsimp only at hns₁ hsb₁ ⊢
 generalize P:s2.heap.push { cls:=.type "list",dict:=none,data:=.seq ([]:List Value).toArray }=G at hns₁ hsb₁ ⊢
 have hC:G.objs.size=s2.heap.objs.size+1:=by rw [<- P,Heap.size_push]
 have a6:s2.heap.objs.size≠G.objs.size:=by rw [hC]; exact Nat.ne_of_lt (Nat.lt_succ_self _)
 have H:s2.heap.objs.size <= G.objs.size:=by rw [hC]; exact Nat.le_succ _
 have f:∀ b,b < s2.heap.objs.size->b≠G.objs.size/\b≠s2.heap.objs.size:=fun b a=>⟨by rw [hC]; exact Nat.ne_of_lt (Nat.lt_succ_of_lt a),Nat.ne_of_lt a⟩
 have B:∀ b o,s2.heap.get? b=some o->h₁.get? b=some o:=fun b o e=>hsb₁.extBut b o (f b (Heap.lt_size e)).1 (Heap.get?_push_of_some _ (P ▸ Heap.get?_push_of_some _ e))
 have a3:h₁.get? s2.heap.objs.size=some { cls:=.type "list",data:=.seq ([]:List Value).toArray }:=hsb₁.extBut _ _ a6 (Heap.get?_push_of_some _ (P ▸ Heap.get?_push_size _ rfl))
 have Y:∀ b∈fp,b < s2.heap.objs.size:=fun b a=>let ⟨_,e,_⟩:=T.obj 0 _ st2 b a; Heap.lt_size e
 have a5:∀ b∈fp,b∉frs X.stack:=fun b a z=>(List.mem_cons.mp (I2.stkSub b z)).elim (f2 b a).2.1 (f2 b a).2.2.1
 have nC:H2 G.objs.size=none:=I2.hok.fresh H
 have nD:H2 s2.heap.objs.size=none:=I2.hok.fresh (Nat.le_refl _)
 have t:∀ y c,(jq ys X.env).lookup y=some c->∃ v o,s2.heap.get? c=some o/\o.data=.cell v:=fun y c e=>by
  obtain ⟨v,o,q1,q2⟩:=I2.cell y c (k y c e)
  exact ⟨v,o,q1,q2⟩
 have a9:(X.compT scope ys G.objs.size xs s2 H2 fp).Ok:=by
  refine ⟨I2.ok.mod,hkind,I2.ok.glob,I2.ok.blt,H,fun y z c e Q=>I2.ok.inj y z c (k y c e) (k z c Q),fun y e=>?_,fun y c z e=>(by cases z),I2.ok.hd,I2.ok.frames,.inl rfl,fun b a=>⟨(f b (Y b a)).1,fun y c e=>(f2 b a).2.2.2.2.1 y c (k y c e)⟩,I2.bs,?_,fun b o e a=>?_,fun b a=>a5 b a,I2.stack,I2.stkFree⟩
  ·have Q:(relabel scope X.env).names.lookup y=some .cell\/(relabel scope X.env).names.lookup y=some .free:=e
   have ac:y∈ys:=by
    rcases Q with Q | Q
    ·obtain ⟨k0,m,q⟩:=xf Q
     rcases q with q | q
     ·exact absurd q.symm (hcell _ m)
     ·exact hfr _ m q
    ·obtain ⟨k0,m,q⟩:=xf Q
     rcases q with q | q
     ·exact hfr _ m q.symm
     ·exact hfr _ m q
   exact ⟨_,jw ac⟩
  ·exact Nat.le_trans I2.ok.bsz I2.sz
  ·rcases (f2 b a).2.2.2.1 with z | z
   ·exact I2.ok.noex b o e z
   ·exact absurd (Nat.lt_of_lt_of_le (Heap.lt_size (I2.ok.bs b o e).1) z) (Nat.lt_irrefl _)
 have a0:(wo js σ).length=ys.length:=by
  have:=congrArg List.length hjs
  simpa [wo] using this
 have I3:∀ tk,Inv (X.compT scope ys G.objs.size xs s2 H2 fp) [] (List.replicate xs.length none++wo js σ) (upd H2 s2.heap.objs.size (.lst [])) { s2 with heap:=h₁,toks:=tk }:=fun tk =>
  ⟨a9,rfl,I2.bare,Un.laid B (Nat.le_refl _) nD,⟨_,hns₁,fun i y v e1 M e3=>by
    by_cases hi0:i < xs.length
    ·rw [List.getElem?_append_left (by simpa using hi0),List.getElem?_replicate,if_pos hi0] at M
     cases M
    ·obtain ⟨i,rfl⟩:∃ i',i=xs.length+i':=⟨i - xs.length,by omega⟩
     have e1:ys[i]?=some y:=by rw [List.getElem?_append_right (by omega)] at e1; simpa using e1
     have M:(wo js σ)[i]?=some (some v):=by rw [List.getElem?_append_right (by simp)] at M; simpa using M
     have hy:y∈ys:=List.mem_of_getElem? e1
     have U:=congrArg (fun l=>l[i]?) hjs
     simp only [List.getElem?_map,e1,Option.map_some] at U
     cases q:js[i]? with
     | none=>rw [q] at U; cases U
     | some j =>
      rw [q] at U
      have U:X.N[j]?=some y:=by simpa using U
      have es:σ[j]?=some (some v):=by
       simp only [wo,List.getElem?_map,q,Option.map_some,Option.some.injEq] at M
       cases r:σ[j]? with
       | none=>rw [r] at M; cases M
       | some w'=>rw [r] at M; rw [show w'=some v from M]
      obtain ⟨m0,_,ab⟩:=I2.loc
      obtain ⟨u,ru,lk⟩:=ab j y v U es (.inr (.inl (hyc y hy)))
      refine ⟨u,ru,.inr ⟨.inl (hrel y hy),?_⟩⟩
      rcases lk with ⟨k1,_⟩ | ⟨_,c,ec,o,ho,hd⟩
      ·rw [hyc y hy] at k1; cases k1
      ·refine ⟨c,?_,o,B c o ho,hd⟩
       show (jq ys X.env).lookup y=some c
       rw [jw hy,ec]
       rfl⟩,fun y c e=>(by
    obtain ⟨v,o,q1,q2⟩:=t y c e
    exact ⟨v,o,B c o q1,q2⟩),(by show upd H2 s2.heap.objs.size _ G.objs.size=none; rw [ym a6.symm]; exact nC),fun y c e=>(by
    obtain ⟨v,o,q1,q2⟩:=t y c e
    show upd H2 s2.heap.objs.size _ c=none
    rw [ym (f c (Heap.lt_size q1)).2]
    exact I2.freeC y c (k y c e)),fun p hp=>(by simp at hp),
   I2.hok.laid B (Nat.le_refl _) ⟨Nat.zero_le _,[],_,.nil,a3⟩,by show (List.replicate xs.length none++wo js σ).length=(xs++ys).length; simp [a0]⟩
 have L:∀ {H':Hp},(∀ b∈fp,H' b=none)->∀ b∈fp,yc1 (X.compT scope ys G.objs.size xs s2 H2 fp) [] H' b:=fun hn b a=>⟨hn b a,(f b (Y b a)).1,a5 b a,.inl a,fun y c e=>(f2 b a).2.2.2.2.1 y c (k y c e),fun p hp=>(by simp at hp)⟩
 have O:∀ tk,codeAny (model X.prog X.w) X.A (.compLoop (.ListComp elt [⟨tg,iter,[],0⟩] scope pos) 0 (.ref it) (.ref s2.heap.objs.size) (compEnvC scope (jq ys X.env) G.objs.size X.env)) (RR (.ref s2.heap.objs.size) G.objs.size) { s2 with heap:=h₁,toks:=tk }:=by
  intro tk
  obtain ⟨W,⟨m0,w0⟩,a7⟩:=h s2.heap.objs.size nD
  refine codeAny_loop rfl (fun n s'=>∃ i v H',List.length v=xs.length/\Inv (X.compT scope ys G.objs.size xs s2 H2 fp) [] (v++wo js σ) H' s'/\tn i s'.heap/\(∀ b∈fp,H' b=none)/\W i n H') (fun n s' hI=>?_) m0
   ⟨0,List.replicate xs.length none,_,by simp,I3 tk,T.keep 0 _ _ st2 (fun b a o e=>B b o e),fun b a=>(by rw [ym (f b (Y b a)).2]; exact (f2 b a).1),w0⟩
  obtain ⟨i,v,H',hv,I,st,fr,w⟩:=hI
  show wpAny _ _ ((compTurn (.ListComp elt [⟨tg,iter,[],0⟩] scope pos) 0 (.ref it) (.ref s2.heap.objs.size) (compEnvC scope (jq ys X.env) G.objs.size X.env)).onRaise (fun x=>do noteFrame x (compEnvC scope (jq ys X.env) G.objs.size X.env); theTreesLotGoes x)) _ _ s'
  refine wpAny_noted ?_
  rw [compTurn_list1]
  refine wpAny_bind (wpAny_standAt (wpAny_bind ?_))
  rcases a7 i n H' w with ⟨a4,q⟩ | ⟨go,a1⟩
  ·refine thn (T.done (X.compT scope ys G.objs.size xs s2 H2 fp) rfl rfl rfl hc i [] s' (v++wo js σ) H' _ I (L fr) st a4) fun r s4 ⟨hr,Z⟩=>?_
   subst hr
   refine wpAny_pure ?_
   obtain ⟨m,hn,_⟩:=Z.loc
   exact hR _ _ H' s4 m (I2.fpOk H Z.free) hn (I2.call' (ch:=fp) Z.os Z.base Z.hok Z.bare fun b a=>⟨(f2 b a).2.2.2.1,(f2 b a).2.1,(f2 b a).2.2.2.2.1,(f2 b a).2.2.2.2.2⟩) q
  ·refine thn (T.item (X.compT scope ys G.objs.size xs s2 H2 fp) rfl rfl rfl hc i [] s' (v++wo js σ) H' _ I (L fr) st go) fun r s4 ⟨u,hr,h4⟩=>?_
   subst hr
   refine wpAny_bind (thn h4 fun _ s5 ⟨y,H5,I5,r5,y5,S,a8⟩=>wpAny_bind ?_)
   have aa:=I5.pinned (L a8) (T.obj _ _ S)
   refine yi3 (hgt _ _ _ _ _ s5 (v++wo js σ) H5 y u _ aa r5 (a1 y H5 v y5 hv)) fun _ s6 ⟨σ',H6,I6,⟨F,ad,ep⟩,q6⟩=>?_
   subst ep
   refine wpAny_bind (wpAny_bind (yi3 (he _ _ _ _ _ s6 (F++wo js σ) H6 _ I6 q6) fun u2 s7 ⟨y2,H7,I7,r7,zs,hD,hl,m',hm,w'⟩=>wpAny_bind ?_))
   refine yi3 (xg _ s7 (F++wo js σ) H7 (.ref s2.heap.objs.size) [y2] (.ref s2.heap.objs.size) [u2] (fun _ H8=>H8=upd H7 s2.heap.objs.size (.lst (zs++[y2]))) I7 rfl (.cons r7 .nil) ⟨_,zs,y2,rfl,rfl,hD,hl,rfl⟩) fun _ s8 h'=>?_
   obtain ⟨_,H8,I8,_,e8⟩:=h'
   subst e8
   have a2:∀ b∈fp,∀ o,s5.heap.get? b=some o->s8.heap.get? b=some o/\upd H7 s2.heap.objs.size (HO.lst (zs++[y2])) b=none:=fun b a o e =>
    ⟨(I8.pin (b,o) (List.mem_append_right _ (List.mem_append_right _ (wl a e)))).1,(I8.pin (b,o) (List.mem_append_right _ (List.mem_append_right _ (wl a e)))).2.1⟩
   refine wpAny_pure (wpAny_pure ⟨rfl,m',hm,i+1,F,_,ad,I8.unpinned,T.keep _ _ _ S fun b a o e=>(a2 b a o e).1,fun b a=>?_,w'⟩)
   obtain ⟨o,e,d⟩:=T.obj _ _ S b a
   exact (a2 b a o e).2
 exact codeAny_compStart_list (O _) (T.self X.A 0 _ _ _ (T.keep 0 _ _ st2 (fun b a o e=>B b o e)) (O _))
theorem ya5 (hc:X.calm=true) (hi:PI X tg iter wi) (he:∀ (C:Addr) (s2:Shared) (H2:Hp) (fp:List Addr),PE (X.compT scope ys C xs s2 H2 fp) elt te) (hjs:js.map (fun j=>X.N[j]?)=ys.map some)
  (hgt:∀ (C:Addr) (s2:Shared) (H2:Hp) (fp:List Addr),PG (X.compT scope ys C xs s2 H2 fp) tg g)
  (hclos:closureFor scope X.env=pure (jq ys X.env)) (hyc:∀ y∈ys,X.env.kindOf y=some .cell) (hrel:∀ y∈ys,(relabel scope X.env).names.lookup y=some .cell)
  (hfr:∀ y∈scope.names,y.2=.free->y.1∈ys:=by decide +kernel) (hcell:∀ y∈scope.names,y.2≠.cell:=by decide +kernel) (hkind:scope.kind=.function:=by rfl)
  (hnames:∀ y∈scope.names,y.2=.local->scope.names.lookup y.1=some .local:=by decide +kernel) (hs:∀ x,foldedSetIterable iter X.env x=pure x:=by intro _; rfl) :
  PE X (.ListComp elt [⟨tg,iter,[],0⟩] scope pos) (ykw wi g te xs.length js):=by
 refine .mk fun a s σ H Q I h=>?_
 rw [eval_ListComp]
 refine wpAny_comprehension_free (use:=none) rfl hs hclos hkind hnames (thn (hi a s σ H _ I h) fun v K z=>thn z fun i s2 k=>?_)
 obtain ⟨G,fp,F,J,H2,e,r,T,d,B,h⟩:=k
 subst e
 refine yad (R:=fun D c=>Q (.ref D) c) (RR:=compPost (model X.prog X.w) X.A X.xe none (EP X a σ Q)) hc he hgt hcell hkind hfr hyc hrel hjs r T d B h ?_
 intro D C c n m f u p q
 refine ⟨m,u,fun E t=>⟨.ref D,c,?_,rfl,q⟩⟩
 exact p.turned (t':=n.toks) (fun b o l e=>t.extBut b o l e) f.1 f.2.1 f.2.2.2.1 f.2.2.2.2.1 f.2.2.2.2.2
theorem yrk {H:Hp} {Q:VK} {n:Nat} (h:wi σ H fun J H1=>∀ D,H1 D=none->zr J g te n (wo js σ) D (fun H2=>Q (.ref D) H2) H1):ykw wi g te n js σ H Q:=h
end
section
variable {iter elt:Expr} {x:Str} {px pos:Pos} {scope:Scope} {te:TE} {wi:TI} {pins:List (Addr × Obj)} {σ:St} {ys:List Str} {js:List Nat}
theorem yt6 {J:It} {fr:St} {D:Addr} {R:Hp->Prop} {H1:Hp} (h:zb J te fr D R H1):zr J (vn 0) te 1 fr D R H1:=by
 obtain ⟨W,b,c⟩:=h
 refine ⟨W,b,fun i m e w=>(c i m e w).imp id fun ⟨j,y⟩=>⟨j,fun x d a f g=>?_⟩⟩
 match a,g with
 | [z],_=>exact ⟨⟨[some x],rfl,rfl⟩,y x d f⟩
theorem yb9 {s2:Shared} {H2:Hp} {it:Addr} {fp:List Addr} {tn:Nat->Heap->Prop} {J:It} (hc:X.calm=true)
  (he:∀ (C:Addr) (s2:Shared) (H2:Hp) (fp:List Addr),PE (X.compF scope ys C x s2 H2 fp) elt te)
  (hcell:∀ y∈scope.names,y.2≠.cell) (hkind:scope.kind=.function) (hx:scope.names.lookup x=some .local) (hnd:(x :: ys).Nodup)
  (hfr:∀ y∈scope.names,y.2=.free->y.1∈ys) (hyc:∀ y∈ys,X.env.kindOf y=some .cell) (hrel:∀ y∈ys,(relabel scope X.env).names.lookup y=some .cell) (hjs:js.map (fun j=>X.N[j]?)=ys.map some)
  (I2:Inv X pins σ H2 s2) (T:ylq X.prog X.w X.K (.Name x px) J fp it tn) (st2:tn 0 s2.heap) (f2:∀ b∈fp,yc1 X pins H2 b)
  {R:Addr->Hp->Prop} (h:∀ D,H2 D=none->zb J te (wo js σ) D (R D) H2) {RR:Value->Addr->Result->Shared->Prop} {E:Value->Shared->Prop}
  (hR:∀ (D C:Addr) (H':Hp) (s':Shared) (m:Str->Option Value),yc1 X pins H' C->s'.heap.Ns C m->Inv X pins σ H' s'->R D H'->RR (.ref D) C (.ok .next) s') :
  wpAny (model X.prog X.w) X.A (newList []) (fun acc s₃=>wpAny (model X.prog X.w) X.A (newFunctionEnv scope X.env.globals (jq ys X.env) [] X.env.qual none .none (some X.env)) (fun cenv s₄ =>
   codeAny (model X.prog X.w) X.A (.compStart (.ListComp elt [⟨.Name x px,iter,[],0⟩] scope pos) 0 (.ref it) acc { cenv with scope:=relabel scope X.env }) (RR acc cenv.locals) s₄) E s₃) E s2 :=
 yad (tg:=.Name x px) (xs:=[x]) (g:=vn 0) hc he (fun C s2 H2 fp=>v6 (i:=0) hnd rfl (Or.inl (lookup_relabel_local hx)) (Or.inr (lookup_relabel_local hx))) hcell hkind hfr hyc hrel hjs I2 T st2 f2 (fun D a=>yt6 (h D a)) hR
theorem wu (hc:X.calm=true) (hi:PI X (.Name x px) iter wi) (he:∀ (C:Addr) (s2:Shared) (H2:Hp) (fp:List Addr),PE (X.compF scope ys C x s2 H2 fp) elt te) (hjs:js.map (fun j=>X.N[j]?)=ys.map some)
  (hclos:closureFor scope X.env=pure (jq ys X.env)) (hnd:(x :: ys).Nodup:=by decide) (hyc:∀ y∈ys,X.env.kindOf y=some .cell) (hrel:∀ y∈ys,(relabel scope X.env).names.lookup y=some .cell)
  (hfr:∀ y∈scope.names,y.2=.free->y.1∈ys:=by decide +kernel) (hcell:∀ y∈scope.names,y.2≠.cell:=by decide +kernel) (hkind:scope.kind=.function:=by rfl)
  (hnames:∀ y∈scope.names,y.2=.local->scope.names.lookup y.1=some .local:=by decide +kernel) (hx:scope.names.lookup x=some .local:=by rfl) (hs:∀ x,foldedSetIterable iter X.env x=pure x:=by intro _; rfl) :
  PE X (.ListComp elt [⟨.Name x px,iter,[],0⟩] scope pos) (yk1 wi te js):=by
 refine .mk fun a s σ H Q I h=>?_
 rw [eval_ListComp]
 refine wpAny_comprehension_free (use:=none) rfl hs hclos hkind hnames (thn (hi a s σ H _ I h) fun v G u=>thn u fun g s2 i=>?_)
 obtain ⟨F,fp,E,J,H2,e,p,T,d,z,h⟩:=i
 subst e
 refine yb9 (R:=fun D c=>Q (.ref D) c) (RR:=compPost (model X.prog X.w) X.A X.xe none (EP X a σ Q)) hc he hcell hkind hx hnd hfr hyc hrel hjs p T d z h ?_
 intro D C c l m f t n q
 refine ⟨m,t,fun B r=>⟨.ref D,c,?_,rfl,q⟩⟩
 exact n.turned (t':=l.toks) (fun b o k e=>r.extBut b o k e) f.1 f.2.1 f.2.2.2.1 f.2.2.2.2.1 f.2.2.2.2.2
theorem yhg {y:Str} {py spos:Pos} (hN:X.N.Nodup) (hy:X.N[i]?=some y) (hl:X.env.scope.names.lookup y=some .local) (hc:X.calm=true) (hi:PI X (.Name x px) iter wi)
  (he:∀ (C:Addr) (s2:Shared) (H2:Hp) (fp:List Addr),PE (X.compF scope ys C x s2 H2 fp) elt te) (hjs:js.map (fun j=>X.N[j]?)=ys.map some)
  (hclos:closureFor scope X.env=pure (jq ys X.env)) (hyc:∀ y∈ys,X.env.kindOf y=some .cell) (hrel:∀ y∈ys,(relabel scope X.env).names.lookup y=some .cell)
  (hsw:swapsWith (.ListComp elt [⟨.Name x px,iter,[],0⟩] scope pos) (some (.Name y py)) spos.line X.env=pure true:=by rfl) (hnd:(x :: ys).Nodup:=by decide)
  (hfr:∀ y∈scope.names,y.2=.free->y.1∈ys:=by decide +kernel) (hcell:∀ y∈scope.names,y.2≠.cell:=by decide +kernel) (hkind:scope.kind=.function:=by rfl)
  (hnames:∀ y∈scope.names,y.2=.local->scope.names.lookup y.1=some .local:=by decide +kernel) (hx:scope.names.lookup x=some .local:=by rfl) (hs:∀ x,foldedSetIterable iter X.env x=pure x:=by intro _; rfl) :
  PS X (.Assign [.Name y py] (.ListComp elt [⟨.Name x px,iter,[],0⟩] scope pos) spos) (ypl (yk1 wi te js) (vn i)):=by
 refine .mk fun a s σ H r I h=>?_
 rw [exec_Assign_Name_used _ _ _ _ hsw]
 refine wpAny_bind (wpAny_standAt (wpAny_bind ?_))
 show wpAny _ X.A (do let _ <- comprehension (.ListComp elt [⟨.Name x px,iter,[],0⟩] scope pos) scope X.env _ (newList []) false (eval iter X.env) (some (assign (.Name y py) X.env))) _ _ s
 refine wpAny_bind (wpAny_mono (wpAny_comprehension_free (use:=some (assign (.Name y py) X.env)) (Q:=fun _ d=>SP X a r .next d) rfl hs hclos hkind hnames (thn (hi a s σ H _ I h) fun v U K=>thn K fun F s2 B=>?_)) (fun _ d L=>wpAny_pure (wpAny_pure L)) fun _ _ e=>e)
 obtain ⟨O,fp,S,J,H2,e,E,T,t,u,h⟩:=B
 subst e
 refine yb9 (R:=fun D l=>vn i (.ref D) σ l r.nx) (RR:=compPost (model X.prog X.w) X.A X.xe (some (assign (.Name y py) X.env)) (fun _ d=>SP X a r .next d)) hc he hcell hkind hx hnd hfr hyc hrel hjs E T t u h ?_
 intro D C l d m f M G q
 refine wpAny_assign_Name (jt (v:=V.ref D) G hN hy (Or.inl hl) rfl (fun k n p=>?_) (Or.inr hl))
 refine ⟨m,?_,fun P g=>⟨_,l,?_,q⟩⟩
 ·obtain ⟨b,g,c⟩:=p
  refine M.sameBut g fun z=>?_
  rcases c with c | c
  ·exact f.2.1 (z.trans c)
  ·exact f.2.2.2.2.1 y b c z.symm
 ·exact n.turned (t':=k.toks) (fun b o c e=>g.extBut b o c e) f.1 f.2.1 f.2.2.2.1 f.2.2.2.2.1 f.2.2.2.2.2
end
end L2
namespace L2
open PySem PySem.Spec PyProof.Rows
def vas (lo st:Int) (n:Nat):It:=⟨fun i _=>i < n,fun i H x H'=>H'=H/\x=.int (lo+i * st),fun i _=>n <= i⟩
def rgN (lo hi st:Int):Nat:=if lo < hi then ((hi - lo - 1) / st+1).toNat else 0
section
variable {X:Cx} {tg:Expr}
def yy5 (ta:TA):TI:=fun σ H R=>ta σ H fun vs H1=>∃ i j st:Int,vs=[.int i,.int j,.int st]/\(0 <= i/\i < 100000000/\0 <= j/\j < 100000000/\0 < st/\st < 1000000)/\R (vas i st (rgN i j st)) H1
theorem yro {tr:TA} {σ:St} {H:Hp} {R:It->Hp->Prop} (h:tr σ H fun vs H1=>∃ i j st:Int,vs=[.int i,.int j,.int st]/\(0 <= i/\i < 100000000/\0 <= j/\j < 100000000/\0 < st/\st < 1000000)/\R (vas i st (rgN i j st)) H1):yy5 tr σ H R:=h
end
section
variable {prog:Program} {w:World} {A:Around} {E:Value->Shared->Prop} {s:Shared}
theorem jl {it l:Addr} {i:Nat} {items} {x:Value} {Q:Value->Shared->Prop} (hit:s.heap.IsTupleIter it l i) (hl:s.heap.IsTuple l items) (hx:items[i]?=some x)
  (hQ:∀ h',h'.IsTupleIter it l (i+1)->Heap.SameBut it s.heap h'->Q x { s with heap:=h' }):wpAny (model prog w) A (Builtin.SmallTypes.nextOf (.ref it)) Q E s:=by
 obtain ⟨h,b,c,a⟩:=id hit
 obtain ⟨f,e,_,g,d⟩:=hl
 unfold Builtin.SmallTypes.nextOf
 refine wpAny_bind (wpAny_callSpecial?_slot (name:=Str.ofString "__next__") hit.typeIs slot_tupleiter_next (wpAny_call_entry slot_tupleiter_next hit.typeIs entry_tupleiter_next ?_ (args_tupleiter_next _)))
 show wpAny _ _ (field (.ref it) 0 >>= _) _ _ s
 refine wpAny_bind (wpAny_field b a (x:=.ref l) rfl ?_)
 show wpAny _ _ (if (Value.ref l == Value.none)=true then _ else _) _ _ s
 rw [if_neg (show ¬ ((Value.ref l == Value.none)=true) from Bool.false_ne_true)]
 show wpAny _ _ (field (.ref it) 1 >>= _) _ _ s
 refine wpAny_bind (wpAny_field b a (x:=.int i 0) rfl ?_)
 show wpAny _ _ (seqItems? (.ref l) >>= _) _ _ s
 refine wpAny_bind (wpAny_seqItems e d ?_)
 simp only [Int.toNat_natCast,hx]
 refine wpAny_bind (wpAny_setField b a (by simp) (wpAny_pure ⟨x,rfl,wpAny_pure (hQ _ ⟨_,Heap.get?_update_self _ b (Obj.isFreed_of_fields (Obj.data_mapFields a _)),(Obj.cls_mapFields ..).trans c,?_⟩ (Heap.SameBut.update ..))⟩))
 rw [Obj.data_mapFields a]
 simp [rawInt]
theorem ybe {it l:Addr} {i:Nat} {items} {Q:Value->Shared->Prop} (hh:A.handled=none) (hit:s.heap.IsTupleIter it l i) (hl:s.heap.IsTuple l items) (hx:items[i]?=none)
  (hE:∀ h' e,Heap.ExtBut it s.heap h'->(∃ o,h'.get? e=some o/\o.cls=.type "StopIteration")->E (.ref e) { s with heap:=h' }):wpAny (model prog w) A (Builtin.SmallTypes.nextOf (.ref it)) Q E s:=by
 obtain ⟨k,c,g,b⟩:=id hit
 obtain ⟨h,f,_,j,d⟩:=hl
 unfold Builtin.SmallTypes.nextOf
 refine wpAny_bind (wpAny_callSpecial?_slot (name:=Str.ofString "__next__") hit.typeIs slot_tupleiter_next (wpAny_call_entry slot_tupleiter_next hit.typeIs entry_tupleiter_next ?_ (args_tupleiter_next _)))
 (show wpAny _ _ (field (.ref it) 0 >>= _) _ _ s); refine wpAny_bind (wpAny_field c b (x:=.ref l) rfl ?_)
 (show wpAny _ _ (if (Value.ref l == Value.none)=true then _ else _) _ _ s); rw [if_neg (show ¬ ((Value.ref l == Value.none)=true) from Bool.false_ne_true)]
 (show wpAny _ _ (field (.ref it) 1 >>= _) _ _ s); refine wpAny_bind (wpAny_field c b (x:=.int i 0) rfl ?_)
 (show wpAny _ _ (seqItems? (.ref l) >>= _) _ _ s); refine wpAny_bind (wpAny_seqItems f d ?_)
 simp only [Int.toNat_natCast,hx]; refine wpAny_bind (wpAny_rule (wpAny_bind (wpAny_setField c b (by simp) ?_)))
 (show wpAny _ _ (newExc (.type "StopIteration") [] >>= _) _ _ _); refine wpAny_bind ?_
 simp only [newExc,newTuple]; refine wpAny_bind (wpAny_newObj_type ?_ (by size_fits))
 refine wpAny_bind (m:=firstArgMember _ _) (wpAny_of_eq (a:=Value.none) (by first | rfl | (simp only [firstArgMember]; rfl)) (wpAny_newObj_type ?_ (by size_fits)))
 simp only [raiseNew]; refine wpAny_bind (wpAny_handled ?_)
 (first | rw [show A.in1.handled=none from hh] | rw [hh]); refine wpAny_bind (wpAny_pure (wpAny_throw ?_))
 exact hE _ _ (((Heap.SameBut.update _ ..).extBut.push _).push _) ⟨_,Heap.get?_push_size _ rfl,rfl⟩
end
section
open AutoSeq1 (wpAny_loadPart')
set_option maxRecDepth 100000
end
def va5 (K:W.Frag) (a:Addr):It :=
 ⟨fun i H=>∃ xs x,SqT K H a xs/\xs[i]?=some x,fun i H y H'=>∃ t x,y=.ref t/\H t=none/\H'=upd H t (.tup [.int i,x])/\∀ xs,SqT K H a xs->xs[i]?=some x,fun i H=>∃ xs,SqT K H a xs/\xs.length <= i⟩
section
variable {X:Cx}
def ytz (K:W.Frag) (ta:TA):TI:=fun σ H R=>ta σ H fun vs H1=>∃ a,vs=[.ref a]/\(∃ xs,SqT K H1 a xs)/\R (va5 K a) H1
theorem ym0 {K:W.Frag} {ta:TA} {σ:St} {H:Hp} {R:It->Hp->Prop} (h:ta σ H fun vs H1=>∃ a,vs=[.ref a]/\(∃ xs,SqT K H1 a xs)/\R (va5 K a) H1):ytz K ta σ H R:=h
end
end L2
namespace L2
open PySem PySem.Spec PyProof.Rows
section
variable {X:Cx} {tg:Expr}
theorem yqp {iter:Expr} {body:List Stmt} {wi:TI} {g:TG} {tb:TS} {pos:Pos} (hc:X.calm=true) (hi:PI X tg iter wi) (hg:PG X.nox tg g) (hb:PSs X.nox body tb)
  (hs:∀ x,foldedSetIterable iter X.env x=pure x:=by intro _; rfl):PS X (.For tg iter body [] pos) (yz5 wi g tb):=by
 refine .mk fun a s σ H D I h=>?_
 refine wpAny_For (thn (hi a s σ H _ I h) fun v s1 h1=>thn h1 fun a0 s2 h2=>?_) hs
 obtain ⟨it,y,U,J,H2,e,I2,T,L,P,W,⟨m0,w0⟩,z⟩:=h2
 subst e
 have c:∀ {H':Hp},(∀ b∈y,H' b=none)->∀ b∈y,yc1 X.nox a H' b:=fun hn b hb=>⟨hn b hb,(P b hb).2⟩
 refine codeAny_forLoop_any (fun n Y=>∃ i σ' H',Inv X.nox a σ' H' Y/\U i Y.heap/\(∀ b∈y,H' b=none)/\W i n σ' H') ?_ m0 ⟨0,σ,H2,I2.wish _,L,fun b hb=>(P b hb).1,w0⟩
 rintro n S ⟨i,σ3,E,Q,A,w,w3⟩
 rcases z i n σ3 E w3 with ⟨t,qn⟩ | ⟨go,N,hN,C⟩
 ·refine yi3 (T.done X.nox rfl rfl rfl hc i a S σ3 E (fun _ _=>False) Q (c w) A t) fun r s4 ⟨M,I4⟩=>?_
  subst M
  exact wpAny_execs_nil ⟨σ3,E,I4.unwish,qn⟩
 ·refine yi3 (T.item X.nox rfl rfl rfl hc i a S σ3 E (fun _ _=>False) Q (c w) A go) fun r s4 ⟨u,M,h4⟩=>?_
  subst M
  refine yi3 h4 fun _ O h'=>?_
  obtain ⟨x,R,I5,Z,y5,q,F⟩:=h'
  have G:=I5.pinned (c F) (T.obj _ _ q)
  refine yi3 (hg _ O σ3 R x u _ G Z (C x R y5)) fun _ s6 ⟨σ6,H6,I6,q6⟩=>?_
  refine yi3 (hb _ s6 σ6 H6 _ I6 q6) fun f K p=>?_
  have j:∀ {σ7:St} {k:Hp},Inv X.nox (a++yau y O.heap) σ7 k K->N σ7 k->∃ m,m < n/\∃ i σ' H',Inv X.nox a σ' H' K/\U i K.heap/\(∀ b∈y,H' b=none)/\W i m σ' H':=fun {σ7 k} l B=>by
   obtain ⟨m',hm,w7⟩:=hN σ7 k B
   refine ⟨m',hm,i+1,σ7,k,l.unpinned,T.keep _ _ _ q fun b hb o e=>(l.pin (b,o) (List.mem_append_right _ (List.mem_append_right _ (wl hb e)))).1,fun b hb=>?_,w7⟩
   obtain ⟨o,e,d⟩:=T.obj _ _ q b hb
   exact (l.pin (b,o) (List.mem_append_right _ (List.mem_append_right _ (wl hb e)))).2.1
  cases f with
  | next=>obtain ⟨σ7,k,l,B⟩:=p; exact j l B
  | cont=>obtain ⟨σ7,k,l,B⟩:=p; exact j l B
  | brk=>obtain ⟨σ7,k,l,p⟩:=p; exact ⟨σ7,k,l.unpinned.unwish,p⟩
  | ret v=>obtain ⟨x7,σ7,k,l,r7,p⟩:=p; exact ⟨x7,σ7,k,l.unpinned.unwish,r7,p⟩
end
end L2
namespace L2
section
variable {σ:St} {H:Hp} {Q:VK} {td ty tx tv:TE}
theorem yuk (h:td σ H fun x H1=>ty σ H1 fun y H2=>∃ a v,x=.ref a/\yd3 H2 a y (some v)/\Q v H2):yxt td ty σ H Q:=h
theorem yp1 (h:td σ H fun x H1=>∃ a,x=.ref a/\IsD H1 a/\ty σ H1 fun y H2=>∃ o,yd3 H2 a y o/\Q (o.getD .non) H2):yu9 td ty σ H Q:=h
theorem yqg (h:td σ H fun x H1=>∃ a,x=.ref a/\IsD H1 a/\ty σ H1 fun y H2=>tx σ H2 fun z H3=>∃ o,yd3 H3 a y o/\Q (o.getD z) H3):yxf td ty tx σ H Q:=h
theorem yyq (h:ty σ H fun y H1=>td σ H1 fun x H2=>∃ a o,x=.ref a/\yd3 H2 a y o/\Q (.bl o.isSome) H2):vbu ty td σ H Q:=h
theorem yl9 (h:ty σ H fun y H1=>td σ H1 fun x H2=>∃ a o,x=.ref a/\yd3 H2 a y o/\Q (.bl (!o.isSome)) H2):ykj ty td σ H Q:=h
theorem yw8 {nx bk ct:St->Hp->Prop} {rt:VK} (h:tv σ H fun v H1=>td σ H1 fun x H2=>ty σ H2 fun y H3=>∃ a H4,x=.ref a/\ynj H3 a y v H4/\nx σ H4):yxv td ty tv ⟨nx,rt,bk,ct⟩ σ H:=h
theorem yq1 (h:∀ p,H p=none->Q (.ref p) (upd H p (.dT []))):yoy σ H Q:=h
end
end L2
namespace L2
open PySem PySem.Spec PyProof.Rows
variable {i1 i2 l1 l2:Addr} {xs ys:Array Value} {elts:List Expr} {i k1 k2:Nat} {tpos:Pos} {a:Value}
def Itz (K:W.Frag) (a b:Addr):It :=
 ⟨fun i H=>∃ xs ys x y,SqL K H a xs/\SqL K H b ys/\xs[i]?=some x/\ys[i]?=some y,
  fun i H v H'=>∃ t x y,v=.ref t/\H t=none/\H'=upd H t (.tup [x,y])/\(∀ xs,SqL K H a xs->xs[i]?=some x)/\(∀ ys,SqL K H b ys->ys[i]?=some y),
  fun i H=>∃ xs ys,SqL K H a xs/\SqL K H b ys/\(xs.length <= i\/ys.length <= i)⟩
structure Zap (z TI TO i1 i2:Addr):Prop where
 a1:TI≠z
 a2:TO≠z
 a3:i1≠z
 a4:i2≠z
 a5:TI≠TO
 a6:TI≠i1
 a7:TI≠i2
 a8:TO≠i1
 a9:TO≠i2
 b1:i1≠i2
def Zst (z TI TO i1 i2 l1 l2:Addr) (i:Nat) (h:Heap):Prop:=IsZip h z TI TO .none/\IsPair h TI (.ref i1) (.ref i2)/\(∃ a b,IsPair h TO a b)/\h.IsListIter i1 l1 i/\h.IsListIter i2 l2 i
theorem ut {h:Heap} {a b:Addr} {o o':Obj} (e:h.get? a=some o) (e':h.get? b=some o') (n:o.cls≠o'.cls):a≠b:=by
 rintro rfl
 rw [e] at e'
 cases e'
 exact n rfl
theorem yof (z:Nat):Zap (z+4) (z+2) (z+3) z (z+1):=by
 constructor <;> (show (_:Nat)≠(_:Nat); omega)
theorem nT {a b:String} (h:Value.type a≠Value.type b):Value.type a≠Value.type b:=h
theorem Zap.apart {X:Cx} {pins:List (Addr × Obj)} {σ:St} {H:Hp} {s:Shared} {z TI TO:Addr} {xs ys:List Value} (d:Zap z TI TO i1 i2) (st:Zst z TI TO i1 i2 l1 l2 i s.heap) (p:PlainL s.heap l1 xs.toArray) (q:PlainL s.heap l2 ys.toArray) (_:Inv X pins σ H s):ZipApart z TI TO i1 i2 l1 l2:=by
 obtain ⟨m,o,⟨a,b,c⟩,⟨r,j,l,_⟩,⟨u,k,n,_⟩⟩:=st
 obtain ⟨t,h,g,_⟩:=p.isList
 obtain ⟨v,f,e,_⟩:=q.isList
 exact ⟨d.a1,d.a2,d.a3,d.a4,d.a5,d.a6,d.a7,d.a8,d.a9,d.b1,
  ut h m (by rw [g]; exact nT (by decide)),ut h c (by rw [g]; exact nT (by decide)),ut h j (by rw [g,l]; decide),ut h k (by rw [g,n]; decide),
  ut f m (by rw [e]; exact nT (by decide)),ut f c (by rw [e]; exact nT (by decide)),ut f j (by rw [e,l]; decide),ut f k (by rw [e,n]; decide)⟩
theorem ymp {P:Program} {w:World} {K:W.Frag} {x1} (l1 l2 z TI TO i1 i2:Addr) (d:Zap z TI TO i1 i2) :
  ylq P w K (.Tuple elts x1 tpos) (Itz K l1 l2) [z,TI,TO,i1,i2] z (Zst z TI TO i1 i2 l1 l2) where
 mem:=by simp
 obj:=fun i h G b g=>by
  obtain ⟨N,j,⟨_,_,m⟩,⟨o1,e1,_,d1⟩,⟨o2,e2,_,d2⟩⟩:=G
  simp only [List.mem_cons,List.not_mem_nil,or_false] at g
  rcases g with rfl | rfl | rfl | rfl | rfl
  ·exact ⟨_,N,fun v z=>by cases z⟩
  ·exact ⟨_,j,fun v z=>by cases z⟩
  ·exact ⟨_,m,fun v z=>by cases z⟩
  ·exact ⟨o1,e1,fun v z=>by rw [d1] at z; cases z⟩
  ·exact ⟨o2,e2,fun v z=>by rw [d2] at z; cases z⟩
 keep:=fun i h U G k=>by
  obtain ⟨N,j,⟨a,b,m⟩,h1,h2⟩:=G
  exact ⟨k z (by simp) _ N,k TI (by simp) _ j,⟨a,b,k TO (by simp) _ m⟩,h1.at fun o e=>k i1 (by simp) o e,h2.at fun o e=>k i2 (by simp) o e⟩
 item:=by
  intro X hP hw hK hc i O s σ H E I F G hg
  subst hP hw hK
  obtain ⟨xs,ys,x,y,Y,M,B,hy⟩:=hg
  obtain ⟨aa,rv,p,a9⟩:=I.list Y
  obtain ⟨a8,R,p',Z⟩:=I.list M
  obtain ⟨u,hu,ru⟩:=rv.get B
  obtain ⟨u',ac,ab⟩:=R.get hy
  have D:=d.apart G p p' I
  obtain ⟨N,j,⟨va,vb,m⟩,J,L⟩:=G
  refine wpAny_pyNext_zip_item D N j m J L p.isList p'.isList (x:=u) (y:=u') (by simpa using hu) (by simpa using ac) fun U a1 a2 a3 a4 a5 a6 hk=>?_
  refine ⟨_,rfl,wpAny_letOwnedTupleGo_zip a1 fun r a0 l=>?_⟩
  have C:H s.heap.objs.size=none:=I.hok.fresh (Nat.le_refl _)
  have lz:z < s.heap.objs.size:=Heap.lt_size N
  have lo:TO < s.heap.objs.size:=Heap.lt_size m
  have lI:TI < s.heap.objs.size:=Heap.lt_size j
  have ad:i1 < s.heap.objs.size:=by obtain ⟨o,e,_⟩:=id J; exact Heap.lt_size e
  have af:i2 < s.heap.objs.size:=by obtain ⟨o,e,_⟩:=id L; exact Heap.lt_size e
  have keep:∀ b o,b≠z->b≠TO->b≠i1->b≠i2->s.heap.get? b=some o->r.get? b=some o:=fun b o T n2 n3 n4 e=>(l.2 b T).trans (hk b o T n2 n3 n4 e)
  have a7:r.get? s.heap.objs.size=some { cls:=.type "tuple",data:=.seq #[u,u'] }:=(l.2 _ (Nat.ne_of_gt lz)).trans a5
  have nt:∀ {b v},H b=some v->b≠z/\b≠TO/\b≠i1/\b≠i2:=fun {b v} e=>⟨yc e (F z (by simp)).1,yc e (F TO (by simp)).1,yc e (F i1 (by simp)).1,yc e (F i2 (by simp)).1⟩
  have S:HOk X.prog X.w (upd H s.heap.objs.size (.tup [x,y])) r:=fun b o e=>by
   by_cases g:b=s.heap.objs.size
   ·subst g
    rw [yd] at e
    cases e
    exact ⟨by show 2 <= sizeLine; decide,[u,u'],.cons ru (.cons ab .nil),⟨_,a7,rfl,_,rfl⟩⟩
   ·rw [ym g] at e
    refine (I.hok b o e).stay (fun c v t q=>?_) (fun c q=>by rw [ym (yc q C)]; exact q) fun c ys q=>by rw [ym (yc q C)]; exact q
    obtain ⟨T,n2,n3,n4⟩:c≠z/\c≠TO/\c≠i1/\c≠i2:=by
     rcases t with rfl | t
     ·exact nt e
     ·exact nt t
    exact keep c v T n2 n3 n4 q
  have un:Un (frs X.stack) [z,TI,TO,i1,i2] H (upd H s.heap.objs.size (.tup [x,y])) s.heap r:=by
   have Q:∀ {b o},b∉[z,TI,TO,i1,i2]->s.heap.get? b=some o->r.get? b=some o:=fun {b o} g e=>keep b o (fun q=>g (by simp [q])) (fun q=>g (by simp [q])) (fun q=>g (by simp [q])) (fun q=>g (by simp [q])) e
   refine ⟨fun b o e n _ B=>Q B e,fun b o e n _ B=>⟨o.slots,Q B e⟩,fun b o e n _=>by rw [ym (Nat.ne_of_lt (Heap.lt_size e))]; exact n,fun b o e B=>⟨o,Q B e⟩,
    fun b ys e=>by rw [ym (yc e C)]; exact e,fun b o v e=>by rw [ym (yc e C)]; exact e,fun b ps e=>⟨#[],by rw [ym (yc e C),e]; simp⟩⟩
  have I1:Inv X O σ (upd H s.heap.objs.size (.tup [x,y])) { s with heap:=r }:=I.call' (s':={ s with heap:=r }) rfl un S I.bare fun b g=>by
   have f:=F b g
   exact ⟨f.2.2.2.1,f.2.1,f.2.2.2.2.1,f.2.2.2.2.2⟩
  refine ⟨.ref s.heap.objs.size,_,I1,rfl,⟨_,x,y,rfl,C,rfl,fun zs h=>by rw [I.list_inj h Y]; exact B,fun zs h=>by rw [I.list_inj h M]; exact hy⟩,?_,fun b g=>?_⟩
  ·exact ⟨a0,keep _ _ D.TIz D.TITO D.TIi1 D.TIi2 j,⟨u,u',(l.2 _ D.TOz).trans a2⟩,a3.at fun o e=>(l.2 _ D.i1z).trans e,a4.at fun o e=>(l.2 _ D.i2z).trans e⟩
  ·rw [ym (fun q=>?_)]
   ·exact (F b g).1
   ·have Y:b < s.heap.objs.size:=by
     simp only [List.mem_cons,List.not_mem_nil,or_false] at g
     rcases g with rfl | rfl | rfl | rfl | rfl <;> assumption
    exact absurd q (Nat.ne_of_lt Y)
 done:=by
  intro X hP hw hK hc i O s σ H E I F G hg
  subst hP hw hK
  obtain ⟨xs,ys,Y,M,B⟩:=hg
  obtain ⟨aa,rv,p,a9⟩:=I.list Y
  obtain ⟨a8,R,p',Z⟩:=I.list M
  have D:=d.apart G p p' I
  obtain ⟨N,j,⟨va,vb,m⟩,J,L⟩:=G
  have hl:=rv.length
  have ae:=R.length
  refine wpAny_pyNext_zip_end (show X.A.handled=none from I.ok.hd hc) D N j m J L p.isList p'.isList (by simp; omega) fun U hk=>⟨rfl,?_⟩
  have nt:∀ {b v},H b=some v->b≠z/\b≠TO/\b≠i1/\b≠i2:=fun {b v} e=>⟨yc e (F z (by simp)).1,yc e (F TO (by simp)).1,yc e (F i1 (by simp)).1,yc e (F i2 (by simp)).1⟩
  have S:HOk X.prog X.w H U:=fun b o e=>by
   refine (I.hok b o e).stay (fun c v t q=>?_) (fun c q=>q) fun c ys q=>q
   obtain ⟨T,n2,n3,n4⟩:c≠z/\c≠TO/\c≠i1/\c≠i2:=by
    rcases t with rfl | t
    ·exact nt e
    ·exact nt t
   exact hk c v T n2 n3 n4 q
  have un:Un (frs X.stack) [z,TI,TO,i1,i2] H H s.heap U:=by
   have Q:∀ {b o},b∉[z,TI,TO,i1,i2]->s.heap.get? b=some o->U.get? b=some o:=fun {b o} g e=>hk b o (fun q=>g (by simp [q])) (fun q=>g (by simp [q])) (fun q=>g (by simp [q])) (fun q=>g (by simp [q])) e
   exact ⟨fun b o e n _ B=>Q B e,fun b o e n _ B=>⟨o.slots,Q B e⟩,fun b o e n _=>n,fun b o e B=>⟨o,Q B e⟩,fun b ys e=>e,fun b o v e=>e,fun b ps e=>⟨#[],by rw [e]; simp⟩⟩
  exact I.call' (s':={ s with heap:=U }) rfl un S I.bare fun b g=>by
   have f:=F b g
   exact ⟨f.2.2.2.1,f.2.1,f.2.2.2.2.1,f.2.2.2.2.2⟩
 self:=fun _ _ _ _ _ G h=>wpAny_pyIter_zip G.1 h
section
variable {X:Cx}
def vat (K:W.Frag) (ta:TA):TI:=fun σ H R=>ta σ H fun vs H1=>∃ a b,vs=[.ref a,.ref b]/\(∃ xs ys,SqL K H1 a xs/\SqL K H1 b ys)/\R (Itz K a b) H1
theorem yoa {x1} {l m:Expr} {ta:TA} {p pos:Pos} (hg:Gl X "zip") (hm:X.mg "zip"=none) (ha:PA X [l,m] ta) (hs:starEach [l,m] X.env=[(false,eval l X.env),(false,eval m X.env)]:=by rfl) (hs2:starEach [m] X.env=[(false,eval m X.env)]:=by rfl) :
  PI X (.Tuple elts x1 tpos) (.Call (.Name "zip" p) [l,m] [] pos) (vat X.K ta):=by
 intro f s σ H R I h
 refine Call_ (ycy I hg hm (show bootBuiltins "zip"=some (.type "zip") by decide +kernel) (PyProof.Rows.callWith_type1 (thn (ha pos f s σ H _ I h) fun M c h'=>?_) (by rw [hs,hs2]) (by rw [hs2]; rfl)))
 obtain ⟨O,w,d,B,z⟩:=h'
 obtain ⟨a,b,e,⟨J,P,F,n⟩,q⟩:=z
 subst e
 cases B with
 | cons r rr =>
  cases rr with
  | cons r' rr =>
   cases rr
   cases r
   cases r'
   obtain ⟨x,N,v,i⟩:=d.list F
   obtain ⟨u,C,t,G⟩:=d.list n
   refine call_zip_2 v.isList t.isList fun L i k j D y A E=>?_
   refine wpAny_pyIter_zip i ?_
   have o:Zap (c.heap.objs.size+4) (c.heap.objs.size+2) (c.heap.objs.size+3) c.heap.objs.size (c.heap.objs.size+1):=yof _
   refine ⟨c.heap.objs.size+4,[c.heap.objs.size+4,c.heap.objs.size+2,c.heap.objs.size+3,c.heap.objs.size,c.heap.objs.size+1],_,_,w,rfl,d.kept (t':=c.toks) E,ymp a b _ _ _ _ _ o,⟨i,k,⟨_,_,j⟩,D,y⟩,fun b g=>?_,q⟩
   have g:c.heap.objs.size <= b:=by
    simp only [List.mem_cons,List.not_mem_nil,or_false] at g
    rcases g with rfl | rfl | rfl | rfl | rfl <;> omega
   exact d.fpOk g (d.hok.fresh g)
theorem yv4 {K:W.Frag} {ta:TA} {σ:St} {H:Hp} {R:It->Hp->Prop} (h:ta σ H fun vs H1=>∃ a b,vs=[.ref a,.ref b]/\(∃ xs ys,SqL K H1 a xs/\SqL K H1 b ys)/\R (Itz K a b) H1):vat K ta σ H R:=h
end
theorem ycs {K:W.Frag} {a b D:Addr} {xs ys:List V} {g:TG} {te:TE} {n:Nat} {fr:St} {R:Hp->Prop} {H1:Hp} (f:Nat->V) (hq:SqL K H1 a xs) (hq':SqL K H1 b ys) (hl:ys.length=xs.length) (hD:H1 D=none)
  (hs:∀ i x y H t pre,xs[i]?=some x->ys[i]?=some y->yz H1 H->H D=some (.lst ((List.range i).map f))->H t=none->List.length pre=n->g (.ref t) (pre++fr) (upd H t (.tup [x,y])) fun σ' H'=>(∃ pre',List.length pre'=n/\σ'=pre'++fr)/\te σ' H' (MpK H1 D f xs.length i))
  (hd:∀ H,yz H1 H->H D=some (.lst ((List.range xs.length).map f))->R H):zr (Itz K a b) g te n fr D R H1:=by
 refine ⟨cW xs.length (Mp H1 D f),⟨xs.length,by simp,Nat.zero_le _,Mp.zero hD⟩,?_⟩
 rintro i m H ⟨rfl,o,p⟩
 have q:=p.1.seq hq
 have c:=p.1.seq hq'
 by_cases hlt:i < xs.length
 ·refine .inr ⟨⟨xs,ys,xs[i],ys[i]'(by omega),q,c,by simp [hlt],by simp [hl,hlt]⟩,fun y H' pre h k=>?_⟩
  obtain ⟨t,x,y,rfl,d,rfl,l,j⟩:=h
  exact hs i x y H t pre (l xs q) (j ys c) p.1 p.2 d k
 ·have e:i=xs.length:=by omega
  subst e
  exact .inl ⟨⟨xs,ys,q,c,.inl (Nat.le_refl _)⟩,hd H p.1 p.2⟩
section
variable {X:Cx} {iter elt tg:Expr} {xs:List Str} {g:TG} {pos:Pos} {scope:Scope} {te:TE} {wi:TI} {ys:List Str} {js:List Nat}
theorem ymf {y:Str} {py spos:Pos} (hN:X.N.Nodup) (hy:X.N[i]?=some y) (hl:X.env.scope.names.lookup y=some .local) (hc:X.calm=true) (hi:PI X tg iter wi)
  (he:∀ (C:Addr) (s2:Shared) (H2:Hp) (fp:List Addr),PE (X.compT scope ys C xs s2 H2 fp) elt te) (hjs:js.map (fun j=>X.N[j]?)=ys.map some)
  (hgt:∀ (C:Addr) (s2:Shared) (H2:Hp) (fp:List Addr),PG (X.compT scope ys C xs s2 H2 fp) tg g)
  (hclos:closureFor scope X.env=pure (jq ys X.env)) (hyc:∀ y∈ys,X.env.kindOf y=some .cell) (hrel:∀ y∈ys,(relabel scope X.env).names.lookup y=some .cell)
  (hsw:swapsWith (.ListComp elt [⟨tg,iter,[],0⟩] scope pos) (some (.Name y py)) spos.line X.env=pure true:=by rfl)
  (hfr:∀ y∈scope.names,y.2=.free->y.1∈ys:=by decide +kernel) (hcell:∀ y∈scope.names,y.2≠.cell:=by decide +kernel) (hkind:scope.kind=.function:=by rfl)
  (hnames:∀ y∈scope.names,y.2=.local->scope.names.lookup y.1=some .local:=by decide +kernel) (hs:∀ x,foldedSetIterable iter X.env x=pure x:=by intro _; rfl) :
  PS X (.Assign [.Name y py] (.ListComp elt [⟨tg,iter,[],0⟩] scope pos) spos) (ypl (ykw wi g te xs.length js) (vn i)):=by
 refine .mk fun a s σ H t I h=>?_
 rw [exec_Assign_Name_used _ _ _ _ hsw]
 refine wpAny_bind (wpAny_standAt (wpAny_bind ?_))
 show wpAny _ X.A (do let _ <- comprehension (.ListComp elt [⟨tg,iter,[],0⟩] scope pos) scope X.env _ (newList []) false (eval iter X.env) (some (assign (.Name y py) X.env))) _ _ s
 refine wpAny_bind (wpAny_mono (wpAny_comprehension_free (use:=some (assign (.Name y py) X.env)) (Q:=fun _ d=>SP X a t .next d) rfl hs hclos hkind hnames (thn (hi a s σ H _ I h) fun v W L=>thn L fun G s2 E=>?_)) (fun _ d M=>wpAny_pure (wpAny_pure M)) fun _ _ e=>e)
 obtain ⟨P,fp,U,J,H2,e,F,T,u,B,h⟩:=E
 subst e
 refine yad (R:=fun D n=>vn i (.ref D) σ n t.nx) (RR:=compPost (model X.prog X.w) X.A X.xe (some (assign (.Name y py) X.env)) (fun _ d=>SP X a t .next d)) hc he hgt hcell hkind hfr hyc hrel hjs F T u B h ?_
 intro D C n d m f O K q
 refine wpAny_assign_Name (jt (v:=V.ref D) K hN hy (Or.inl hl) rfl (fun l p r=>?_) (Or.inr hl))
 refine ⟨m,?_,fun S k=>⟨_,n,?_,q⟩⟩
 ·obtain ⟨b,k,c⟩:=r
  refine O.sameBut k fun z=>?_
  rcases c with c | c
  ·exact f.2.1 (z.trans c)
  ·exact f.2.2.2.2.1 y b c z.symm
 ·exact p.turned (t':=l.toks) (fun b o c e=>k.extBut b o c e) f.1 f.2.1 f.2.2.2.1 f.2.2.2.2.1 f.2.2.2.2.2
end
section
variable {X:Cx}
def yyp (k:Int):R2:=fun x y H Q=>∃ i j,x=.int i/\y=.int j/\yx3 i j/\i * 2 ^ j.toNat=k/\Q (.int k) H
theorem yuy {i j k:Int} {H:Hp} {Q:VK} (hc:yx3 i j) (e:i * 2 ^ j.toNat=k) (h:Q (.int k) H):yyp k (.int i) (.int j) H Q:=⟨i,j,rfl,rfl,hc,e,h⟩
def onI (f:Int->Int):V->V
 | .int i=>.int (f i)
 | v=>v
theorem ykr (f:Int->Int) (ns:List Int):(ns.map V.int).map (onI f)=(ns.map f).map V.int:=by
 rw [List.map_map,List.map_map]
 rfl
theorem ykx {pre:List (Option V)} (h:List.length pre=2):∃ v1 v2,pre=[v1,v2]:=by
 match pre,h with
 | [v1,v2],_=>exact ⟨v1,v2,rfl⟩
end
theorem yu1 {to ti:TE} {t:yx9} {v:V} {σ:St} {H:Hp} {Q:St->Hp->Prop} (h:to σ H fun o H1=>ti σ H1 fun i H2=>t o i v H2 fun H3=>Q σ H3):va6 to ti t v σ H Q:=h
section
variable {X:Cx}
def yxq:V->List V->Hp->VK->Prop:=fun x vs H Q=>∃ i:Int,x=.int i/\vs=[]/\Q (.int (Builtin.Int.intBits i:Nat)) H
theorem yke:MtR X "int.bit_length" yxq:=by
 intro b s σ H x e v f Q I c d h
 obtain ⟨i,rfl,rfl,q⟩:=h
 obtain ⟨t,rfl⟩:=c
 have a:=d.zero
 subst a
 exact PyProof.Rows.call_int_bit_length ⟨.int _,H,I.tok _,⟨_,rfl⟩,q⟩
theorem yvr {K:W.Frag} {i:Int} {H:Hp} {Q:VK} (h:Q (.int (Builtin.Int.intBits i:Nat)) H):tyV K "int" (.int i) H/\yxq (.int i) [] H Q:=⟨rfl,i,rfl,rfl,h⟩
end
section
variable {prog:Program} {w:World} {A:Around} {E:Value->Shared->Prop} {s:Shared}
theorem ym3 {z TI TO:Addr} {x y b:Value} {Q:Value->Shared->Prop} (D:ZipApart z TI TO i1 i2 l1 l2) (hz:IsZip s.heap z TI TO .none) (hTI:IsPair s.heap TI (.ref i1) (.ref i2)) (hTO:IsPair s.heap TO a b)
  (h1:s.heap.IsTupleIter i1 l1 k1) (h2:s.heap.IsTupleIter i2 l2 k2) (hl1:s.heap.IsTuple l1 xs) (hl2:s.heap.IsTuple l2 ys) (hx:xs[k1]?=some x) (hy:ys[k2]?=some y)
  (hQ:∀ h',IsZip h' z TI TO (rawInt s.heap.objs.size)->IsPair h' TO x y->h'.IsTupleIter i1 l1 (k1+1)->h'.IsTupleIter i2 l2 (k2+1)->IsPair h' s.heap.objs.size x y->h'.objs.size=s.heap.objs.size+1->(∀ c o,c≠z->c≠TO->c≠i1->c≠i2->s.heap.get? c=some o->h'.get? c=some o)->Q (.ref s.heap.objs.size) { s with heap:=h' }) :
  wpAny (model prog w) A (Builtin.«zip.__next__» ⟨[.ref z],[]⟩) (fun fin s'=>∃ v,fin=.done (.ret v)/\Q v s') E s:=by
 (show wpAny _ _ (field (.ref z) 2 >>= _) _ _ _); refine wpAny_bind (wpAny_field hz rfl (x:=.bool false) rfl ?_)
 (show wpAny _ _ (field (.ref z) 3 >>= _) _ _ _); refine wpAny_bind (wpAny_field hz rfl (x:=.ref TI) rfl ?_); refine wpAny_bind (wpAny_seqItems hTI rfl ?_)
 (show wpAny _ _ (Builtin.SmallTypes.ownedTupleIsFree (.ref z) >>= _) _ _ _); refine wpAny_bind ?_; unfold Builtin.SmallTypes.ownedTupleIsFree
 refine wpAny_bind (wpAny_field hz rfl (x:=.none) rfl (wpAny_pure ?_)); simp only [if_true]; refine wpAny_bind (wpAny_rule ?_)
 refine wpAny_bind (wpAny_field hz rfl (x:=.ref TO) rfl ?_); refine wpAny_bind (wpAny_setField_rec hz (by simp) fun h₁ hz₁ hs₁=>?_)
 replace hz₁:IsZip h₁ z TI TO .ellipsis:=hz₁; refine wpAny_bind ?_; simp only [List.zipIdx_cons,List.zipIdx_nil,List.forIn_cons,List.forIn_nil]
 refine wpAny_bind (wpAny_bind (wpAny_onRaise ?_)); (show wpAny _ _ (Builtin.SmallTypes.nextOf (.ref i1) >>= _) _ _ _)
 refine wpAny_bind (jl (h1.at fun o e=>hs₁.extBut _ _ D.i1z e) (hl1.extBut hs₁.extBut D.l1z) hx fun h₂ h1₂ hs₂=>wpAny_pure ?_)
 have hTO₂:IsPair h₂ TO a b:=hs₂.extBut _ _ D.TOi1 (hs₁.extBut _ _ D.TOz hTO); refine wpAny_bind (wpAny_seqItems hTO₂ rfl ?_)
 refine wpAny_bind (wpAny_updateSeq_pair hTO₂ fun h₃ hTO₃ hs₃=>?_); replace hTO₃:IsPair h₃ TO x b:=hTO₃; refine wpAny_bind (wpAny_letGo (wpAny_pure ?_))
 refine wpAny_bind (wpAny_bind (wpAny_onRaise ?_)); (show wpAny _ _ (Builtin.SmallTypes.nextOf (.ref i2) >>= _) _ _ _)
 refine wpAny_bind (jl (h2.at fun o e=>hs₃.extBut _ _ D.TOi2.symm (hs₂.extBut _ _ D.i12.symm (hs₁.extBut _ _ D.i2z e))) (((hl2.extBut hs₁.extBut D.l2z).extBut hs₂.extBut D.l2i1).extBut hs₃.extBut D.l2TO) hy fun h₄ h2₄ hs₄=>wpAny_pure ?_)
 have hTO₄:IsPair h₄ TO x b:=hs₄.extBut _ _ D.TOi2 hTO₃; refine wpAny_bind (wpAny_seqItems hTO₄ rfl ?_)
 refine wpAny_bind (wpAny_updateSeq_pair hTO₄ fun h₅ hTO₅ hs₅=>?_); replace hTO₅:IsPair h₅ TO x y:=hTO₅; refine wpAny_bind (wpAny_letGo (wpAny_pure (wpAny_pure ?_)))
 refine wpAny_bind (wpAny_seqItems hTO₅ rfl ?_); refine wpAny_bind (wpAny_newTuple ?_)
 have i:h₅.objs.size=s.heap.objs.size:=by (rw [hs₅.1,hs₄.1,hs₃.1,hs₂.1,hs₁.1])
 have hz₅:IsZip h₅ z TI TO .ellipsis:=(hs₅.extBut _ _ D.TOz.symm (hs₄.extBut _ _ D.i2z.symm (hs₃.extBut _ _ D.TOz.symm (hs₂.extBut _ _ D.i1z.symm hz₁))))
 have hk₅:∀ c o,c≠z->c≠TO->c≠i1->c≠i2->s.heap.get? c=some o->h₅.get? c=some o:=fun c o f k m l e=>hs₅.extBut _ _ k (hs₄.extBut _ _ l (hs₃.extBut _ _ k (hs₂.extBut _ _ m (hs₁.extBut _ _ f e))))
 have h1₅:h₅.IsTupleIter i1 l1 (k1+1):=h1₂.at fun o e=>hs₅.extBut _ _ D.TOi1.symm (hs₄.extBut _ _ D.i12 (hs₃.extBut _ _ D.TOi1.symm e))
 have h2₅:h₅.IsTupleIter i2 l2 (k2+1):=h2₄.at fun o e=>hs₅.extBut _ _ D.TOi2.symm e
 have d:z < h₅.objs.size:=(Heap.lt_size hz₅)
 (show wpAny _ _ (Builtin.SmallTypes.ownedTupleHandOut (.ref z) (.ref h₅.objs.size) >>= _) _ _ _); refine wpAny_bind ?_; unfold Builtin.SmallTypes.ownedTupleHandOut
 have hz₆:IsZip (h₅.push { cls:=.type "tuple",data:=.seq #[x,y] }) z TI TO .ellipsis:=(Heap.get?_push_of_some _ hz₅)
 refine wpAny_bind (wpAny_setField_rec hz₆ (by simp) fun h₇ hz₇ hs₇=>?_); replace hz₇:IsZip h₇ z TI TO (rawInt h₅.objs.size):=hz₇
 refine wpAny_setField_rec hz₇ (by simp) fun h₈ hz₈ hs₈=>?_; replace hz₈:IsZip h₈ z TI TO (rawInt h₅.objs.size):=hz₈
 have j:∀ c o,c≠z->h₅.get? c=some o->h₈.get? c=some o:=(fun c o f e=>hs₈.extBut _ _ f (hs₇.extBut _ _ f (Heap.get?_push_of_some _ e)))
 have hT₈:IsPair h₈ h₅.objs.size x y:=(hs₈.extBut _ _ (Nat.ne_of_gt d) (hs₇.extBut _ _ (Nat.ne_of_gt d) (Heap.get?_push_size _ rfl)))
 have g:h₈.objs.size=h₅.objs.size+1:=by (rw [hs₈.1,hs₇.1,Heap.size_push])
 (rw [i] at hz₈ hT₈ g); refine wpAny_pure ⟨_,rfl,?_⟩; show Q (.ref h₅.objs.size) _; rw [i]
 exact hQ h₈ hz₈ (j _ _ D.TOz hTO₅) (h1₅.at fun o e=>j _ o D.i1z e) (h2₅.at fun o e=>j _ o D.i2z e) hT₈ g (fun c o f k m l e=>j c o f (hk₅ c o f k m l e))
theorem yq3 {z TI TO:Addr} {b:Value} {Q:Fin->Shared->Prop} (hh:A.handled=none) (D:ZipApart z TI TO i1 i2 l1 l2) (hz:IsZip s.heap z TI TO .none) (hTI:IsPair s.heap TI (.ref i1) (.ref i2)) (hTO:IsPair s.heap TO a b)
  (h1:s.heap.IsTupleIter i1 l1 k1) (h2:s.heap.IsTupleIter i2 l2 k2) (hl1:s.heap.IsTuple l1 xs) (hl2:s.heap.IsTuple l2 ys) (hend:xs[k1]?=none\/ys[k2]?=none)
  (hE:∀ h' e,(∀ c o,c≠z->c≠TO->c≠i1->c≠i2->s.heap.get? c=some o->h'.get? c=some o)->(∃ o,h'.get? e=some o/\o.cls=.type "StopIteration")->E (.ref e) { s with heap:=h' }):wpAny (model prog w) A (Builtin.«zip.__next__» ⟨[.ref z],[]⟩) Q E s:=by
 (show wpAny _ _ (field (.ref z) 2 >>= _) _ _ _); refine wpAny_bind (wpAny_field hz rfl (x:=.bool false) rfl ?_)
 (show wpAny _ _ (field (.ref z) 3 >>= _) _ _ _); refine wpAny_bind (wpAny_field hz rfl (x:=.ref TI) rfl ?_); refine wpAny_bind (wpAny_seqItems hTI rfl ?_)
 (show wpAny _ _ (Builtin.SmallTypes.ownedTupleIsFree (.ref z) >>= _) _ _ _); refine wpAny_bind ?_; unfold Builtin.SmallTypes.ownedTupleIsFree
 refine wpAny_bind (wpAny_field hz rfl (x:=.none) rfl (wpAny_pure ?_)); simp only [if_true]; refine wpAny_bind (wpAny_rule ?_)
 refine wpAny_bind (wpAny_field hz rfl (x:=.ref TO) rfl ?_); refine wpAny_bind (wpAny_setField_rec hz (by simp) fun h₁ hz₁ hs₁=>?_)
 replace hz₁:IsZip h₁ z TI TO .ellipsis:=hz₁; refine wpAny_bind ?_; simp only [List.zipIdx_cons,List.zipIdx_nil,List.forIn_cons,List.forIn_nil]
 refine wpAny_bind (wpAny_bind (wpAny_onRaise ?_)); (show wpAny _ _ (Builtin.SmallTypes.nextOf (.ref i1) >>= _) _ _ _)
 cases hx:xs[k1]? with
 | none =>
  refine wpAny_bind (ybe hh (h1.at fun o e=>hs₁.extBut _ _ D.i1z e) (hl1.extBut hs₁.extBut D.l1z) hx fun h₂ e hs₂ j=>?_)
  obtain ⟨k,d,f⟩:=j; have hz₂:IsZip h₂ z TI TO .ellipsis:=hs₂ _ _ D.i1z.symm hz₁
  have g:e≠z:=(fun x=>by (subst x; rw [hz₂] at d; cases d; simp at f))
  exact wpAny_setField_rec hz₂ (by simp) fun h₃ _ hs₃=>hE h₃ e (fun c o i _ l _ x=>hs₃.extBut _ _ i (hs₂ _ _ l (hs₁.extBut _ _ i x))) ⟨k,hs₃.extBut _ _ g d,f⟩
 | some x =>
  have p:ys[k2]?=none:=by (rcases hend with h | h; (rw [hx] at h; cases h); exact h)
  refine wpAny_bind (jl (h1.at fun o e=>hs₁.extBut _ _ D.i1z e) (hl1.extBut hs₁.extBut D.l1z) hx fun h₂ h1₂ hs₂=>wpAny_pure ?_)
  have hTO₂:IsPair h₂ TO a b:=(hs₂.extBut _ _ D.TOi1 (hs₁.extBut _ _ D.TOz hTO)); refine wpAny_bind (wpAny_seqItems hTO₂ rfl ?_)
  refine wpAny_bind (wpAny_updateSeq_pair hTO₂ fun h₃ hTO₃ hs₃=>?_); refine wpAny_bind (wpAny_letGo (wpAny_pure ?_))
  refine wpAny_bind (wpAny_bind (wpAny_onRaise ?_)); (show wpAny _ _ (Builtin.SmallTypes.nextOf (.ref i2) >>= _) _ _ _)
  refine wpAny_bind (ybe hh (h2.at fun o e=>hs₃.extBut _ _ D.TOi2.symm (hs₂.extBut _ _ D.i12.symm (hs₁.extBut _ _ D.i2z e))) (((hl2.extBut hs₁.extBut D.l2z).extBut hs₂.extBut D.l2i1).extBut hs₃.extBut D.l2TO) p fun h₄ e hs₄ j=>?_)
  obtain ⟨k,d,f⟩:=j; have hz₄:IsZip h₄ z TI TO .ellipsis:=hs₄ _ _ D.i2z.symm (hs₃.extBut _ _ D.TOz.symm (hs₂.extBut _ _ D.i1z.symm hz₁))
  have g:e≠z:=(fun x=>by (subst x; rw [hz₄] at d; cases d; simp at f))
  exact wpAny_setField_rec hz₄ (by simp) fun h₅ _ hs₅=>hE h₅ e (fun c o i n l m x=>hs₅.extBut _ _ i (hs₄ _ _ m (hs₃.extBut _ _ n (hs₂.extBut _ _ l (hs₁.extBut _ _ i x))))) ⟨k,hs₅.extBut _ _ g d,f⟩
theorem ylz {z TI TO:Addr} {x y b:Value} {Q:Option Value->Shared->Prop} (D:ZipApart z TI TO i1 i2 l1 l2) (hz:IsZip s.heap z TI TO .none) (hTI:IsPair s.heap TI (.ref i1) (.ref i2)) (hTO:IsPair s.heap TO a b)
  (h1:s.heap.IsTupleIter i1 l1 k1) (h2:s.heap.IsTupleIter i2 l2 k2) (hl1:s.heap.IsTuple l1 xs) (hl2:s.heap.IsTuple l2 ys) (hx:xs[k1]?=some x) (hy:ys[k2]?=some y)
  (hQ:∀ h',IsZip h' z TI TO (rawInt s.heap.objs.size)->IsPair h' TO x y->h'.IsTupleIter i1 l1 (k1+1)->h'.IsTupleIter i2 l2 (k2+1)->IsPair h' s.heap.objs.size x y->h'.objs.size=s.heap.objs.size+1->(∀ c o,c≠z->c≠TO->c≠i1->c≠i2->s.heap.get? c=some o->h'.get? c=some o)->Q (some (.ref s.heap.objs.size)) { s with heap:=h' }) :
  wpAny (model prog w) A (pyNext (.ref z)) Q E s:=by
 have d:s.TypeIs (.ref z) "zip":=(⟨_,hz,rfl⟩); unfold pyNext
 exact wpAny_bind (wpAny_attempt (wpAny_callSpecial?_slot (name:=Str.ofString "__next__") d F.slot_zip_next (wpAny_call_entry F.slot_zip_next d F.entry_zip_next
   (ym3 D hz hTI hTO h1 h2 hl1 hl2 hx hy fun h' h g f i k e j=>wpAny_pure (hQ h' h g f i k e j)) (F.args_zip_next_1 _))))
theorem ymj {z TI TO:Addr} {b:Value} {Q:Option Value->Shared->Prop} (hh:A.handled=none) (D:ZipApart z TI TO i1 i2 l1 l2) (hz:IsZip s.heap z TI TO .none) (hTI:IsPair s.heap TI (.ref i1) (.ref i2)) (hTO:IsPair s.heap TO a b)
  (h1:s.heap.IsTupleIter i1 l1 k1) (h2:s.heap.IsTupleIter i2 l2 k2) (hl1:s.heap.IsTuple l1 xs) (hl2:s.heap.IsTuple l2 ys) (hend:xs[k1]?=none\/ys[k2]?=none)
  (hQ:∀ h',(∀ c o,c≠z->c≠TO->c≠i1->c≠i2->s.heap.get? c=some o->h'.get? c=some o)->Q none { s with heap:=h' }):wpAny (model prog w) A (pyNext (.ref z)) Q E s:=by
 have d:s.TypeIs (.ref z) "zip":=(⟨_,hz,rfl⟩); unfold pyNext
 refine wpAny_bind (wpAny_attempt (wpAny_callSpecial?_slot (name:=Str.ofString "__next__") d F.slot_zip_next (wpAny_call_entry F.slot_zip_next d F.entry_zip_next
  (yq3 hh D hz hTI hTO h1 h2 hl1 hl2 hend fun h' e i f=>?_) (F.args_zip_next_1 _))))
 obtain ⟨o,h,g⟩:=f; refine wpAny_bind (wpAny_isInstance (T:="StopIteration") (b:=true) ⟨o,h,g⟩ isSubtype_stop ?_)
 exact wpAny_pure (hQ _ i)
end
abbrev zT1 (h:Heap) (l1:Addr):Heap:=h.push { cls:=.type "tuple_iterator",data:=.fields #[.ref l1,.int 0 0] }
abbrev zT2 (h:Heap) (l1 l2:Addr):Heap:=(zT1 h l1).push { cls:=.type "tuple_iterator",data:=.fields #[.ref l2,.int 0 0] }
abbrev zT3 (h:Heap) (l1 l2:Addr):Heap:=(zT2 h l1 l2).push { cls:=.type "tuple",data:=.seq #[.ref h.objs.size,.ref (zT1 h l1).objs.size] }
abbrev zT4 (h:Heap) (l1 l2:Addr):Heap:=(zT3 h l1 l2).push { cls:=.type "tuple",data:=.seq #[.none,.none] }
abbrev zT5 (h:Heap) (l1 l2:Addr):Heap:=(zT4 h l1 l2).push { cls:=.type "zip",data:=.fields #[.none,.bool false,.bool false,.ref (zT2 h l1 l2).objs.size,.ref (zT3 h l1 l2).objs.size] }
theorem yqm (l1 l2:Addr) (xs ys:Array Value):Meets (Builtin.«zip.__new__» ⟨[.type "zip",.ref l1,.ref l2],[]⟩) (fun _ R s=>s.heap.IsTuple l1 xs/\s.heap.IsTuple l2 ys/\R (.ok (.ret (.ref (zT4 s.heap l1 l2).objs.size))) { s with heap:=zT5 s.heap l1 l2 }) :=
 .of_wp fun f w A R s h=>by
  obtain ⟨l,g,d,k,i⟩:=s
  obtain ⟨b,e,h⟩:=h
  have j:=sub_zip
  have a:Heap.IsTuple (Shared.heap ⟨l,g,d,k,i⟩) l1 xs:=b
  have c:Heap.IsTuple (Shared.heap ⟨l.push { cls:=.type "tuple_iterator",data:=.fields #[.ref l1,.int 0 0] },g,d,k,i⟩) l2 ys:=Heap.IsTuple.push e _
  wp_walk using wpAny_pyIter_tuple a,wpAny_pyIter_tuple c
  exact ⟨_,rfl,h⟩
section
variable {prog:Program} {w:World} {A:Around} {E:Value->Shared->Prop} {s:Shared}
theorem yl1 {Q:Value->Shared->Prop} (hl1:s.heap.IsTuple l1 xs) (hl2:s.heap.IsTuple l2 ys)
  (h:∀ h',IsZip h' (s.heap.objs.size+4) (s.heap.objs.size+2) (s.heap.objs.size+3) .none->IsPair h' (s.heap.objs.size+2) (.ref s.heap.objs.size) (.ref (s.heap.objs.size+1))->IsPair h' (s.heap.objs.size+3) .none .none->h'.IsTupleIter s.heap.objs.size l1 0->h'.IsTupleIter (s.heap.objs.size+1) l2 0 ->
   (∀ c o,s.heap.get? c=some o->h'.get? c=some o)->Q (.ref (s.heap.objs.size+4)) { s with heap:=h' }):wpAny (model prog w) A (call (.type "zip") [.ref l1,.ref l2]) Q E s:=by
 refine callType_new F.called_zip (by decide) (F.typeCall_zip_2 _ _) (F.newCall_zip_2 _ _) (fun d=>F.args_object_init_3 d _ _) F.entry_zip_new (yqm l1 l2 xs ys) ⟨hl1,hl2,?_⟩
 have e:(zT1 s.heap l1).objs.size=s.heap.objs.size+1:=Heap.size_push ..
 have a:(zT2 s.heap l1 l2).objs.size=s.heap.objs.size+2:=by rw [Heap.size_push,e]
 have b:(zT3 s.heap l1 l2).objs.size=s.heap.objs.size+3:=by rw [Heap.size_push,a]
 have f:(zT4 s.heap l1 l2).objs.size=s.heap.objs.size+4:=by rw [Heap.size_push,b]
 have g5:(zT5 s.heap l1 l2).get? (zT4 s.heap l1 l2).objs.size=some _:=Heap.get?_push_size _ rfl
 have g4:(zT5 s.heap l1 l2).get? (zT3 s.heap l1 l2).objs.size=some _:=Heap.get?_push_of_some _ (Heap.get?_push_size _ rfl)
 have g3:(zT5 s.heap l1 l2).get? (zT2 s.heap l1 l2).objs.size=some _:=Heap.get?_push_of_some _ (Heap.get?_push_of_some _ (Heap.get?_push_size _ rfl))
 have g2:(zT5 s.heap l1 l2).get? (zT1 s.heap l1).objs.size=some _:=Heap.get?_push_of_some _ (Heap.get?_push_of_some _ (Heap.get?_push_of_some _ (Heap.get?_push_size _ rfl)))
 have g1:(zT5 s.heap l1 l2).get? s.heap.objs.size=some _:=(Heap.get?_push_of_some _ (Heap.get?_push_of_some _ (Heap.get?_push_of_some _ (Heap.get?_push_of_some _ (Heap.get?_push_size _ rfl)))))
 show _/\_
 rw [a,b,f] at g5
 rw [e,a] at g3
 rw [b] at g4
 rw [e] at g2
 rw [f]
 exact ⟨⟨_,g5,rfl⟩,h _ g5 g3 g4 ⟨_,g1,rfl,rfl⟩ ⟨_,g2,rfl,rfl⟩ fun c o x=>(Heap.get?_push_of_some _ (Heap.get?_push_of_some _ (Heap.get?_push_of_some _ (Heap.get?_push_of_some _ (Heap.get?_push_of_some _ x)))))⟩
end
def yx2 (K:W.Frag) (a b:Addr):It :=
 ⟨fun i H=>∃ xs ys x y,SqT K H a xs/\SqT K H b ys/\xs[i]?=some x/\ys[i]?=some y,
  fun i H v H'=>∃ t x y,v=.ref t/\H t=none/\H'=upd H t (.tup [x,y])/\(∀ xs,SqT K H a xs->xs[i]?=some x)/\(∀ ys,SqT K H b ys->ys[i]?=some y),
  fun i H=>∃ xs ys,SqT K H a xs/\SqT K H b ys/\(xs.length <= i\/ys.length <= i)⟩
def va3 (z TI TO i1 i2 l1 l2:Addr) (i:Nat) (h:Heap):Prop:=IsZip h z TI TO .none/\IsPair h TI (.ref i1) (.ref i2)/\(∃ a b,IsPair h TO a b)/\h.IsTupleIter i1 l1 i/\h.IsTupleIter i2 l2 i
theorem Zap.apartT {X:Cx} {H:Hp} {s:Shared} {z TI TO:Addr} {xs ys:List Value} {us vs:List V} (d:Zap z TI TO i1 i2) (st:va3 z TI TO i1 i2 l1 l2 i s.heap) (p:s.heap.IsTuple l1 xs.toArray) (q:s.heap.IsTuple l2 ys.toArray) (hn:H TO=none) (hK:X.K.lookup TO=none)
  (hq:SqT X.K H l1 us) (hq':SqT X.K H l2 vs):ZipApart z TI TO i1 i2 l1 l2:=by
 obtain ⟨t,v,⟨a,b,w⟩,⟨x,k,r,_⟩,⟨A,n,u,_⟩⟩:=st
 obtain ⟨y,j,g,_⟩:=p
 obtain ⟨B,f,e,_⟩:=q
 have c:∀ {l:Addr} {m:List V},SqT X.K H l m->l≠TO:=fun {l m} h=>by
  rintro rfl
  rcases h with (h | ⟨o,h⟩) | ⟨_,_,_,h,_⟩
  ·rw [hn] at h; cases h
  ·rw [hn] at h; cases h
  ·rw [hK] at h; cases h
 exact ⟨d.a1,d.a2,d.a3,d.a4,d.a5,d.a6,d.a7,d.a8,d.a9,d.b1,
  ut j t (by rw [g]; exact nT (by decide)),c hq,ut j k (by rw [g,r]; decide),ut j n (by rw [g,u]; decide),
  ut f t (by rw [e]; exact nT (by decide)),c hq',ut f k (by rw [e,r]; decide),ut f n (by rw [e,u]; decide)⟩
theorem yjg {P:Program} {w:World} {K:W.Frag} {x1} (l1 l2 z TI TO i1 i2:Addr) (d:Zap z TI TO i1 i2) (hKT:K.lookup TO=none) :
  ylq P w K (.Tuple elts x1 tpos) (yx2 K l1 l2) [z,TI,TO,i1,i2] z (va3 z TI TO i1 i2 l1 l2) where
 mem:=by simp
 obj:=fun i h L b g=>by
  obtain ⟨O,j,⟨_,_,m⟩,⟨o1,e1,_,d1⟩,⟨o2,e2,_,d2⟩⟩:=L
  simp only [List.mem_cons,List.not_mem_nil,or_false] at g
  rcases g with rfl | rfl | rfl | rfl | rfl
  ·exact ⟨_,O,fun v z=>by cases z⟩
  ·exact ⟨_,j,fun v z=>by cases z⟩
  ·exact ⟨_,m,fun v z=>by cases z⟩
  ·exact ⟨o1,e1,fun v z=>by rw [d1] at z; cases z⟩
  ·exact ⟨o2,e2,fun v z=>by rw [d2] at z; cases z⟩
 keep:=fun i h h' L k=>by
  obtain ⟨O,j,⟨a,b,m⟩,h1,h2⟩:=L
  exact ⟨k z (by simp) _ O,k TI (by simp) _ j,⟨a,b,k TO (by simp) _ m⟩,h1.at fun o e=>k i1 (by simp) o e,h2.at fun o e=>k i2 (by simp) o e⟩
 item:=by
  intro X hP hw hK hc i R s σ H E I C L hg
  subst hP hw hK
  obtain ⟨xs,ys,x,y,Q,F,B,hy⟩:=hg
  obtain ⟨T,rv,p0,a9⟩:=I.tuple Q
  obtain ⟨J,U,Y,a0⟩:=I.tuple F
  have p:s.heap.IsTuple l1 T.toArray:=p0
  have p':s.heap.IsTuple l2 J.toArray:=Y
  obtain ⟨u,hu,ru⟩:=rv.get B
  obtain ⟨u',ab,aa⟩:=U.get hy
  have D:=d.apartT L p p' (C TO (by simp)).1 hKT Q F
  obtain ⟨O,j,⟨va,vb,m⟩,M,N⟩:=L
  refine ylz D O j m M N p p' (x:=u) (y:=u') (by simpa using hu) (by simpa using ab) fun h' a1 a2 a3 a4 a5 a6 hk=>?_
  refine ⟨_,rfl,wpAny_letOwnedTupleGo_zip a1 fun r a7 l=>?_⟩
  have G:H s.heap.objs.size=none:=I.hok.fresh (Nat.le_refl _)
  have lz:z < s.heap.objs.size:=Heap.lt_size O
  have lo:TO < s.heap.objs.size:=Heap.lt_size m
  have lI:TI < s.heap.objs.size:=Heap.lt_size j
  have ac:i1 < s.heap.objs.size:=by obtain ⟨o,e,_⟩:=id M; exact Heap.lt_size e
  have ae:i2 < s.heap.objs.size:=by obtain ⟨o,e,_⟩:=id N; exact Heap.lt_size e
  have keep:∀ b o,b≠z->b≠TO->b≠i1->b≠i2->s.heap.get? b=some o->r.get? b=some o:=fun b o n1 n2 n3 n4 e=>(l.2 b n1).trans (hk b o n1 n2 n3 n4 e)
  have a8:r.get? s.heap.objs.size=some { cls:=.type "tuple",data:=.seq #[u,u'] }:=(l.2 _ (Nat.ne_of_gt lz)).trans a5
  have nt:∀ {b v},H b=some v->b≠z/\b≠TO/\b≠i1/\b≠i2:=fun {b v} e=>⟨yc e (C z (by simp)).1,yc e (C TO (by simp)).1,yc e (C i1 (by simp)).1,yc e (C i2 (by simp)).1⟩
  have Z:HOk X.prog X.w (upd H s.heap.objs.size (.tup [x,y])) r:=fun b o e=>by
   by_cases g:b=s.heap.objs.size
   ·subst g
    rw [yd] at e
    cases e
    exact ⟨by show 2 <= sizeLine; decide,[u,u'],.cons ru (.cons aa .nil),⟨_,a8,rfl,_,rfl⟩⟩
   ·rw [ym g] at e
    refine (I.hok b o e).stay (fun c v t q=>?_) (fun c q=>by rw [ym (yc q G)]; exact q) fun c ys q=>by rw [ym (yc q G)]; exact q
    obtain ⟨n1,n2,n3,n4⟩:c≠z/\c≠TO/\c≠i1/\c≠i2:=by
     rcases t with rfl | t
     ·exact nt e
     ·exact nt t
    exact keep c v n1 n2 n3 n4 q
  have un:Un (frs X.stack) [z,TI,TO,i1,i2] H (upd H s.heap.objs.size (.tup [x,y])) s.heap r:=by
   have S:∀ {b o},b∉[z,TI,TO,i1,i2]->s.heap.get? b=some o->r.get? b=some o:=fun {b o} g e=>keep b o (fun q=>g (by simp [q])) (fun q=>g (by simp [q])) (fun q=>g (by simp [q])) (fun q=>g (by simp [q])) e
   refine ⟨fun b o e n _ B=>S B e,fun b o e n _ B=>⟨o.slots,S B e⟩,fun b o e n _=>by rw [ym (Nat.ne_of_lt (Heap.lt_size e))]; exact n,fun b o e B=>⟨o,S B e⟩,
    fun b ys e=>by rw [ym (yc e G)]; exact e,fun b o v e=>by rw [ym (yc e G)]; exact e,fun b ps e=>⟨#[],by rw [ym (yc e G),e]; simp⟩⟩
  have I1:Inv X R σ (upd H s.heap.objs.size (.tup [x,y])) { s with heap:=r }:=I.call' (s':={ s with heap:=r }) rfl un Z I.bare fun b g=>by
   have f:=C b g
   exact ⟨f.2.2.2.1,f.2.1,f.2.2.2.2.1,f.2.2.2.2.2⟩
  refine ⟨.ref s.heap.objs.size,_,I1,rfl,⟨_,x,y,rfl,G,rfl,fun zs h=>by rw [I.tuple_inj h Q]; exact B,fun zs h=>by rw [I.tuple_inj h F]; exact hy⟩,?_,fun b g=>?_⟩
  ·exact ⟨a7,keep _ _ D.TIz D.TITO D.TIi1 D.TIi2 j,⟨u,u',(l.2 _ D.TOz).trans a2⟩,a3.at fun o e=>(l.2 _ D.i1z).trans e,a4.at fun o e=>(l.2 _ D.i2z).trans e⟩
  ·rw [ym (fun q=>?_)]
   ·exact (C b g).1
   ·have Q:b < s.heap.objs.size:=by
     simp only [List.mem_cons,List.not_mem_nil,or_false] at g
     rcases g with rfl | rfl | rfl | rfl | rfl <;> assumption
    exact absurd q (Nat.ne_of_lt Q)
 done:=by
  intro X hP hw hK hc i R s σ H E I C L hg
  subst hP hw hK
  obtain ⟨xs,ys,Q,F,B⟩:=hg
  obtain ⟨T,rv,p0,a9⟩:=I.tuple Q
  obtain ⟨J,U,Y,a0⟩:=I.tuple F
  have p:s.heap.IsTuple l1 T.toArray:=p0
  have p':s.heap.IsTuple l2 J.toArray:=Y
  have D:=d.apartT L p p' (C TO (by simp)).1 hKT Q F
  obtain ⟨O,j,⟨va,vb,m⟩,M,N⟩:=L
  have hl:=rv.length
  have ad:=U.length
  refine ymj (show X.A.handled=none from I.ok.hd hc) D O j m M N p p' (by simp; omega) fun h' hk=>⟨rfl,?_⟩
  have nt:∀ {b v},H b=some v->b≠z/\b≠TO/\b≠i1/\b≠i2:=fun {b v} e=>⟨yc e (C z (by simp)).1,yc e (C TO (by simp)).1,yc e (C i1 (by simp)).1,yc e (C i2 (by simp)).1⟩
  have Z:HOk X.prog X.w H h':=fun b o e=>by
   refine (I.hok b o e).stay (fun c v t q=>?_) (fun c q=>q) fun c ys q=>q
   obtain ⟨n1,n2,n3,n4⟩:c≠z/\c≠TO/\c≠i1/\c≠i2:=by
    rcases t with rfl | t
    ·exact nt e
    ·exact nt t
   exact hk c v n1 n2 n3 n4 q
  have un:Un (frs X.stack) [z,TI,TO,i1,i2] H H s.heap h':=by
   have S:∀ {b o},b∉[z,TI,TO,i1,i2]->s.heap.get? b=some o->h'.get? b=some o:=fun {b o} g e=>hk b o (fun q=>g (by simp [q])) (fun q=>g (by simp [q])) (fun q=>g (by simp [q])) (fun q=>g (by simp [q])) e
   exact ⟨fun b o e n _ B=>S B e,fun b o e n _ B=>⟨o.slots,S B e⟩,fun b o e n _=>n,fun b o e B=>⟨o,S B e⟩,fun b ys e=>e,fun b o v e=>e,fun b ps e=>⟨#[],by rw [e]; simp⟩⟩
  exact I.call' (s':={ s with heap:=h' }) rfl un Z I.bare fun b g=>by
   have f:=C b g
   exact ⟨f.2.2.2.1,f.2.1,f.2.2.2.2.1,f.2.2.2.2.2⟩
 self:=fun _ _ _ _ _ L h=>wpAny_pyIter_zip L.1 h
section
variable {X:Cx}
def yxr (K:W.Frag) (ta:TA):TI:=fun σ H R=>ta σ H fun vs H1=>∃ a b,vs=[.ref a,.ref b]/\(∃ xs ys,SqT K H1 a xs/\SqT K H1 b ys)/\R (yx2 K a b) H1
theorem yrj {x1} {l m:Expr} {ta:TA} {p pos:Pos} (hg:Gl X "zip") (hm:X.mg "zip"=none) (ha:PA X [l,m] ta) (hs:starEach [l,m] X.env=[(false,eval l X.env),(false,eval m X.env)]:=by rfl) (hs2:starEach [m] X.env=[(false,eval m X.env)]:=by rfl) :
  PI X (.Tuple elts x1 tpos) (.Call (.Name "zip" p) [l,m] [] pos) (yxr X.K ta):=by
 intro g s σ H R I h
 refine Call_ (ycy I hg hm (show bootBuiltins "zip"=some (.type "zip") by decide +kernel) (PyProof.Rows.callWith_type1 (thn (ha pos g s σ H _ I h) fun N c h'=>?_) (by rw [hs,hs2]) (by rw [hs2]; rfl)))
 obtain ⟨P,z,d,C,B⟩:=h'
 obtain ⟨a,b,e,⟨L,Q,G,u⟩,q⟩:=B
 subst e
 cases C with
 | cons r rr =>
  cases rr with
  | cons r' rr =>
   cases rr
   cases r
   cases r'
   obtain ⟨k,O,y,j⟩:=d.tuple G
   obtain ⟨f,D,x,J⟩:=d.tuple u
   refine yl1 (show c.heap.IsTuple a k.toArray from y) (show c.heap.IsTuple b f.toArray from x) fun M j t n E A F=>?_
   refine wpAny_pyIter_zip j ?_
   have w:X.K.lookup (c.heap.objs.size+3)=none:=by
    cases hl:X.K.lookup (c.heap.objs.size+3) with
    | none=>rfl
    | some o=>exact absurd (Heap.lt_size (d.kIn _ o hl)) (Nat.not_lt.mpr (Nat.le_add_right _ _))
   have v:Zap (c.heap.objs.size+4) (c.heap.objs.size+2) (c.heap.objs.size+3) c.heap.objs.size (c.heap.objs.size+1):=yof _
   refine ⟨c.heap.objs.size+4,[c.heap.objs.size+4,c.heap.objs.size+2,c.heap.objs.size+3,c.heap.objs.size,c.heap.objs.size+1],_,_,z,rfl,d.kept (t':=c.toks) F,yjg a b _ _ _ _ _ v w,⟨j,t,⟨_,_,n⟩,E,A⟩,fun b i=>?_,q⟩
   have i:c.heap.objs.size <= b:=by
    simp only [List.mem_cons,List.not_mem_nil,or_false] at i
    rcases i with rfl | rfl | rfl | rfl | rfl <;> omega
   exact d.fpOk i (d.hok.fresh i)
theorem yq2 {K:W.Frag} {ta:TA} {σ:St} {H:Hp} {R:It->Hp->Prop} (h:ta σ H fun vs H1=>∃ a b,vs=[.ref a,.ref b]/\(∃ xs ys,SqT K H1 a xs/\SqT K H1 b ys)/\R (yx2 K a b) H1):yxr K ta σ H R:=h
end
theorem yfx {K:W.Frag} {a b D:Addr} {xs ys:List V} {g:TG} {te:TE} {n m:Nat} {fr:St} {R:Hp->Prop} {H1:Hp} (f:Nat->V) (hq:SqT K H1 a xs) (hq':SqT K H1 b ys) (h1:m <= xs.length) (h2:m <= ys.length) (h3:xs.length <= m\/ys.length <= m) (hD:H1 D=none)
  (hs:∀ i x y H t pre,i < m->xs[i]?=some x->ys[i]?=some y->yz H1 H->H D=some (.lst ((List.range i).map f))->H t=none->List.length pre=n->g (.ref t) (pre++fr) (upd H t (.tup [x,y])) fun σ' H'=>(∃ pre',List.length pre'=n/\σ'=pre'++fr)/\te σ' H' (MpK H1 D f m i))
  (hd:∀ H,yz H1 H->H D=some (.lst ((List.range m).map f))->R H):zr (yx2 K a b) g te n fr D R H1:=by
 refine ⟨cW m (Mp H1 D f),⟨m,by simp,Nat.zero_le _,Mp.zero hD⟩,?_⟩
 rintro i j H ⟨rfl,r,p⟩
 have q:=p.1.tup hq
 have c:=p.1.tup hq'
 by_cases hlt:i < m
 ·refine .inr ⟨⟨xs,ys,xs[i]'(by omega),ys[i]'(by omega),q,c,List.getElem?_eq_getElem _,List.getElem?_eq_getElem _⟩,fun y H' pre h l=>?_⟩
  obtain ⟨t,x,y,rfl,d,rfl,o,k⟩:=h
  exact hs i x y H t pre hlt (o xs q) (k ys c) p.1 p.2 d l
 ·have e:i=m:=by omega
  subst e
  exact .inl ⟨⟨xs,ys,q,c,h3⟩,hd H p.1 p.2⟩
end L2
namespace L2
open PySem PySem.Spec PyProof.Rows HT
section
variable {prog:Program} {w:World} {A:Around} {E:Value->Shared->Prop} {s:Shared}
theorem yf6 {t sl:Addr} {items:Array Value} {vl vu:Value} {lo hi:Option Int} {Q:Value->Shared->Prop} (ht:IsTup s.heap t items) (hs:s.heap.IsSliceOf sl vl vu .none) (pl:IsPart vl lo) (pu:IsPart vu hi)
  (hw:sIx items.size 0 lo=0/\sIx items.size items.size hi=items.size) (h:Q (.ref t) s):wpAny (model prog w) A (getItem (.ref t) (.ref sl)) Q E s:=by
 obtain ⟨e,d,b,f⟩:=id hs
 have c:s.TypeIs (.ref sl) "slice":=⟨e,d,b⟩
 unfold getItem
 try with_reducible refine wpAny_holding ?_
 first | refine wpAny_bind (wpAny_pure ?_) | skip
 refine wpAny_bind (wpAny_sequenceKey ht.typeIs (by decide) ?_)
 refine wpAny_bind (wpAny_callSpecial?_slot (name:=Str.ofString "__getitem__") ht.typeIs PyProof.Rows.slot_tuple_getitem
  (wpAny_call_entry PyProof.Rows.slot_tuple_getitem ht.typeIs entry_tuple_getitem ?_ (args_tuple_getitem _ _)))
 show wpAny _ _ (Builtin.Tuple.tupleItemsOf (.ref t) >>= _) _ _ s
 refine wpAny_bind (tupleItemsOf_ ht ?_)
 refine wpAny_bind (wpAny_typeOf c ?_)
 rw [if_pos (by decide)]
 refine wpAny_bind (zd hs pl pu ?_)
 have a:(((sIx items.size 0 lo:Nat):Int) == 0 && (1:Int) == 1 && (sIx items.size items.size hi - sIx items.size 0 lo) == items.size)=true:=by
  rw [hw.1,hw.2]
  simp
 show wpAny _ _ (if (((sIx items.size 0 lo:Nat):Int) == 0 && (1:Int) == 1 && (sIx items.size items.size hi - sIx items.size 0 lo) == items.size)=true then _ else _) _ _ s
 rw [if_pos a]
 refine wpAny_bind (m:=Builtin.Tuple.tupleIsExact _) ?_
 unfold Builtin.Tuple.tupleIsExact
 refine wpAny_bind (wpAny_typeOf ht.typeIs (wpAny_pure ?_))
 show wpAny _ _ (if (Value.type "tuple" == Value.type "tuple")=true then _ else _) _ _ s
 rw [if_pos (by decide)]
 first
  | exact wpAny_bind (wpAny_rule (wpAny_pure ⟨_,rfl,wpAny_pure h⟩))
  | exact wpAny_bind (wpAny_rule (wpAny_bind (wpAny_pure (wpAny_pure ⟨_,rfl,wpAny_pure h⟩))))
  | exact wpAny_bind (wpAny_bind (wpAny_rule (wpAny_pure (wpAny_pure ⟨_,rfl,wpAny_pure h⟩))))
end
section
variable {X:Cx}
def yy6 (K:W.Frag):V->Option Int->Option Int->Hp->VK->Prop:=fun x lo hi H Q=>∃ a xs,x=.ref a/\SqT K H a xs/\(HT.sIx xs.length 0 lo=0/\HT.sIx xs.length xs.length hi=xs.length)/\Q (.ref a) H
theorem yqi:SlR X (yy6 X.K):=by
 intro e s σ H x v n u lo p o Q I g k j l h
 obtain ⟨a,i,rfl,m,f,q⟩:=h
 cases g
 obtain ⟨c,r,d,t⟩:=I.tuple m
 have b:c.toArray.size=i.length:=by rw [List.size_toArray]; exact r.length.symm
 exact ⟨"tuple",_,PyProof.Rows.slot_tuple_getitem.lookup,d.typeIs,yf6 d k j l (by rw [b]; exact f) ⟨.ref a,H,I,rfl,q⟩⟩
end
end L2
namespace L2
open PySem PySem.Spec PyProof.Rows PySem.SeqAt
open AutoSeq1 (wpAny_loadPart')
end L2
namespace L2
open PySem PySem.Spec PyProof.Rows
section
variable {X:Cx} {a b:Expr} {ta tb:TE} {pos:Pos} {ts:TS} {st:Stmt}
theorem yy1 {op:Operator} {r:R2} (ho:OpR X (binaryOp op) r) (ha:QE X a ta) (hb:QE X b tb):QE X (.BinOp a op b pos) (tOp r ta tb):=by
 unfold QE at ha hb ⊢
 exact yu ho ha hb
end
variable {C D L a d f it:Addr} {fd:FuncData} {pins:List (Addr × Obj)} {fp:List Addr} {i:Nat} {P:Program} {scope:Scope} {s2:Shared} {p0 p1 qual x:Str} {ov:Value} {E Q:Value->Shared->Prop}
theorem yks {X:Cx} {K:W.Frag} {e:Expr} {f:Str} {pos:Pos} {ta:TE} (hK:X.K=K) (he:PE X e ta) (hb:attributeBase e f X.env (eval e X.env)=eval e X.env):PE X (.Attribute e f pos) (yz0 K ta f):=hK ▸ yy he hb
def ydv (J:It) (tc:TT) (te:TE) (fr:St) (D:Addr) (R:Hp->Prop) (H1:Hp):Prop:=∃ W:Nat->Nat->Hp->Prop,(∃ m,W 0 m (upd H1 D (.lst []))) /\
 ∀ i m H2,W i m H2->(J.stop i H2/\R H2)\/(J.go i H2/\∀ x H3,J.yld i H2 x H3->tc (some x :: fr) H3 fun b H4=>if b=true then te (some x :: fr) H4 (fun y H5=>∃ ys,H5 D=some (.lst ys)/\ys.length < sizeLine/\∃ m',m' < m/\W (i+1) m' (upd H5 D (.lst (ys++[y])))) else ∃ m',m' < m/\W (i+1) m' H4)
def yob (wi:TI) (tc:TT) (te:TE) (js:List Nat):TE:=fun σ H Q=>wi σ H fun J H1=>∀ D,H1 D=none->ydv J tc te (wo js σ) D (fun H2=>Q (.ref D) H2) H1
section
variable {X:Cx} {iter elt cnd:Expr} {tc:TT} {px pos:Pos} {te:TE} {wi:TI} {σ:St} {ys:List Str} {js:List Nat}
theorem yii {H2:Hp} {tn:Nat->Heap->Prop} {J:It} (hc:X.calm=true)
  (ht:∀ (C:Addr) (s2:Shared) (H2:Hp) (fp:List Addr),PT (X.compF scope ys C x s2 H2 fp) cnd tc) (he:∀ (C:Addr) (s2:Shared) (H2:Hp) (fp:List Addr),PE (X.compF scope ys C x s2 H2 fp) elt te)
  (hcell:∀ y∈scope.names,y.2≠.cell) (hkind:scope.kind=.function) (hx:scope.names.lookup x=some .local) (hnd:(x :: ys).Nodup)
  (hfr:∀ y∈scope.names,y.2=.free->y.1∈ys) (hyc:∀ y∈ys,X.env.kindOf y=some .cell) (hrel:∀ y∈ys,(relabel scope X.env).names.lookup y=some .cell) (hjs:js.map (fun j=>X.N[j]?)=ys.map some)
  (I2:Inv X pins σ H2 s2) (T:ylq X.prog X.w X.K (.Name x px) J fp it tn) (st2:tn 0 s2.heap) (f2:∀ b∈fp,yc1 X pins H2 b)
  {R:Addr->Hp->Prop} (h:∀ D,H2 D=none->ydv J tc te (wo js σ) D (R D) H2) {RR:Value->Addr->Result->Shared->Prop} {E:Value->Shared->Prop}
  (hR:∀ (D C:Addr) (H':Hp) (s':Shared) (m:Str->Option Value),yc1 X pins H' C->s'.heap.Ns C m->Inv X pins σ H' s'->R D H'->RR (.ref D) C (.ok .next) s') :
  wpAny (model X.prog X.w) X.A (newList []) (fun acc s₃=>wpAny (model X.prog X.w) X.A (newFunctionEnv scope X.env.globals (jq ys X.env) [] X.env.qual none .none (some X.env)) (fun cenv s₄ =>
   codeAny (model X.prog X.w) X.A (.compStart (.ListComp elt [⟨.Name x px,iter,[cnd],0⟩] scope pos) 0 (.ref it) acc { cenv with scope:=relabel scope X.env }) (RR acc cenv.locals) s₄) E s₃) E s2:=by
 have g:∀ y c,(jq ys X.env).lookup y=some c->X.env.cells.lookup y=some c:=fun y c e=>by
  obtain ⟨m,rfl⟩:=ydt e
  obtain ⟨c',q⟩:=I2.ok.has y (.inl (hyc y m))
  rw [q]
  rfl
 refine wpAny_newObj_type (wpAny_newFunctionEnv hcell (by intro y hy; simp at hy) (fun h₁ hns₁ hsb₁=>?_) hkind)
 dsimp only at hns₁ hsb₁ ⊢
 generalize P:s2.heap.push { cls:=.type "list",dict:=none,data:=.seq ([]:List Value).toArray }=G at hns₁ hsb₁ ⊢
 have hC:G.objs.size=s2.heap.objs.size+1:=by rw [<- P,Heap.size_push]
 have a5:s2.heap.objs.size≠G.objs.size:=by rw [hC]; exact Nat.ne_of_lt (Nat.lt_succ_self _)
 have F:s2.heap.objs.size <= G.objs.size:=by rw [hC]; exact Nat.le_succ _
 have f:∀ b,b < s2.heap.objs.size->b≠G.objs.size/\b≠s2.heap.objs.size:=fun b a=>⟨by rw [hC]; exact Nat.ne_of_lt (Nat.lt_succ_of_lt a),Nat.ne_of_lt a⟩
 have t:∀ b o,s2.heap.get? b=some o->h₁.get? b=some o:=fun b o e=>hsb₁.extBut b o (f b (Heap.lt_size e)).1 (Heap.get?_push_of_some _ (P ▸ Heap.get?_push_of_some _ e))
 have a2:h₁.get? s2.heap.objs.size=some { cls:=.type "list",data:=.seq ([]:List Value).toArray }:=hsb₁.extBut _ _ a5 (Heap.get?_push_of_some _ (P ▸ Heap.get?_push_size _ rfl))
 have U:∀ b∈fp,b < s2.heap.objs.size:=fun b a=>let ⟨_,e,_⟩:=T.obj 0 _ st2 b a; Heap.lt_size e
 have a4:∀ b∈fp,b∉frs X.stack:=fun b a z=>(List.mem_cons.mp (I2.stkSub b z)).elim (f2 b a).2.1 (f2 b a).2.2.1
 have nC:H2 G.objs.size=none:=I2.hok.fresh F
 have nD:H2 s2.heap.objs.size=none:=I2.hok.fresh (Nat.le_refl _)
 have k:∀ y c,(jq ys X.env).lookup y=some c->∃ v o,s2.heap.get? c=some o/\o.data=.cell v:=fun y c e=>by
  obtain ⟨v,o,q1,q2⟩:=I2.cell y c (g y c e)
  exact ⟨v,o,q1,q2⟩
 have a8:(X.compF scope ys G.objs.size x s2 H2 fp).Ok:=by
  refine ⟨I2.ok.mod,hkind,I2.ok.glob,I2.ok.blt,F,fun y z c e Q=>I2.ok.inj y z c (g y c e) (g z c Q),fun y e=>?_,fun y c z e=>(by cases z),I2.ok.hd,I2.ok.frames,.inl rfl,fun b a=>⟨(f b (U b a)).1,fun y c e=>(f2 b a).2.2.2.2.1 y c (g y c e)⟩,I2.bs,?_,fun b o e a=>?_,fun b a=>a4 b a,I2.stack,I2.stkFree⟩
  ·have Q:(relabel scope X.env).names.lookup y=some .cell\/(relabel scope X.env).names.lookup y=some .free:=e
   have ab:y∈ys:=by
    rcases Q with Q | Q
    ·obtain ⟨k0,m,q⟩:=xf Q
     rcases q with q | q
     ·exact absurd q.symm (hcell _ m)
     ·exact hfr _ m q
    ·obtain ⟨k0,m,q⟩:=xf Q
     rcases q with q | q
     ·exact hfr _ m q.symm
     ·exact hfr _ m q
   exact ⟨_,jw ab⟩
  ·exact Nat.le_trans I2.ok.bsz I2.sz
  ·rcases (f2 b a).2.2.2.1 with z | z
   ·exact I2.ok.noex b o e z
   ·exact absurd (Nat.lt_of_lt_of_le (Heap.lt_size (I2.ok.bs b o e).1) z) (Nat.lt_irrefl _)
 have a0:(wo js σ).length=ys.length:=by
  have:=congrArg List.length hjs
  simpa [wo] using this
 have I3:∀ tk,Inv (X.compF scope ys G.objs.size x s2 H2 fp) [] (none :: wo js σ) (upd H2 s2.heap.objs.size (.lst [])) { s2 with heap:=h₁,toks:=tk }:=fun tk =>
  ⟨a8,rfl,I2.bare,Un.laid t (Nat.le_refl _) nD,⟨_,hns₁,fun i y v e1 M e3=>by
    cases i with
    | zero=>cases M
    | succ i =>
     have e1:ys[i]?=some y:=by simpa using e1
     have M:(wo js σ)[i]?=some (some v):=by simpa using M
     have hy:y∈ys:=List.mem_of_getElem? e1
     have S:=congrArg (fun l=>l[i]?) hjs
     simp only [List.getElem?_map,e1,Option.map_some] at S
     cases q:js[i]? with
     | none=>rw [q] at S; cases S
     | some j =>
      rw [q] at S
      have S:X.N[j]?=some y:=by simpa using S
      have es:σ[j]?=some (some v):=by
       simp only [wo,List.getElem?_map,q,Option.map_some,Option.some.injEq] at M
       cases r:σ[j]? with
       | none=>rw [r] at M; cases M
       | some w'=>rw [r] at M; rw [show w'=some v from M]
      obtain ⟨m0,_,aa⟩:=I2.loc
      obtain ⟨u,ru,lk⟩:=aa j y v S es (.inr (.inl (hyc y hy)))
      refine ⟨u,ru,.inr ⟨.inl (hrel y hy),?_⟩⟩
      rcases lk with ⟨k1,_⟩ | ⟨_,c,ec,o,ho,hd⟩
      ·rw [hyc y hy] at k1; cases k1
      ·refine ⟨c,?_,o,t c o ho,hd⟩
       show (jq ys X.env).lookup y=some c
       rw [jw hy,ec]
       rfl⟩,fun y c e=>(by
    obtain ⟨v,o,q1,q2⟩:=k y c e
    exact ⟨v,o,t c o q1,q2⟩),(by show upd H2 s2.heap.objs.size _ G.objs.size=none; rw [ym a5.symm]; exact nC),fun y c e=>(by
    obtain ⟨v,o,q1,q2⟩:=k y c e
    show upd H2 s2.heap.objs.size _ c=none
    rw [ym (f c (Heap.lt_size q1)).2]
    exact I2.freeC y c (g y c e)),fun p hp=>(by simp at hp),
   I2.hok.laid t (Nat.le_refl _) ⟨Nat.zero_le _,[],_,.nil,a2⟩,by show (none :: wo js σ).length=(x :: ys).length; simp [a0]⟩
 have L:∀ {H':Hp},(∀ b∈fp,H' b=none)->∀ b∈fp,yc1 (X.compF scope ys G.objs.size x s2 H2 fp) [] H' b:=fun hn b a=>⟨hn b a,(f b (U b a)).1,a4 b a,.inl a,fun y c e=>(f2 b a).2.2.2.2.1 y c (g y c e),fun p hp=>(by simp at hp)⟩
 have O:∀ tk,codeAny (model X.prog X.w) X.A (.compLoop (.ListComp elt [⟨.Name x px,iter,[cnd],0⟩] scope pos) 0 (.ref it) (.ref s2.heap.objs.size) (compEnvC scope (jq ys X.env) G.objs.size X.env)) (RR (.ref s2.heap.objs.size) G.objs.size) { s2 with heap:=h₁,toks:=tk }:=by
  intro tk
  obtain ⟨W,⟨m0,w0⟩,a6⟩:=h s2.heap.objs.size nD
  refine codeAny_loop rfl (fun n s'=>∃ i v H',Inv (X.compF scope ys G.objs.size x s2 H2 fp) [] (v :: wo js σ) H' s'/\tn i s'.heap/\(∀ b∈fp,H' b=none)/\W i n H') (fun n s' hI=>?_) m0
   ⟨0,none,_,I3 tk,T.keep 0 _ _ st2 (fun b a o e=>t b o e),fun b a=>(by rw [ym (f b (U b a)).2]; exact (f2 b a).1),w0⟩
  obtain ⟨i,v,H',I,st,fr,w⟩:=hI
  show wpAny _ _ ((compTurn (.ListComp elt [⟨.Name x px,iter,[cnd],0⟩] scope pos) 0 (.ref it) (.ref s2.heap.objs.size) (compEnvC scope (jq ys X.env) G.objs.size X.env)).onRaise (fun x=>do noteFrame x (compEnvC scope (jq ys X.env) G.objs.size X.env); theTreesLotGoes x)) _ _ s'
  refine wpAny_noted ?_
  rw [compTurn_list]
  refine wpAny_bind (wpAny_standAt (wpAny_bind ?_))
  rcases a6 i n H' w with ⟨a3,q⟩ | ⟨go,a1⟩
  ·refine thn (T.done (X.compF scope ys G.objs.size x s2 H2 fp) rfl rfl rfl hc i [] s' (v :: wo js σ) H' _ I (L fr) st a3) fun r s4 ⟨hr,Z⟩=>?_
   subst hr
   refine wpAny_pure ?_
   obtain ⟨m,hn,_⟩:=Z.loc
   exact hR _ _ H' s4 m (I2.fpOk F Z.free) hn (I2.call' (ch:=fp) Z.os Z.base Z.hok Z.bare fun b a=>⟨(f2 b a).2.2.2.1,(f2 b a).2.1,(f2 b a).2.2.2.2.1,(f2 b a).2.2.2.2.2⟩) q
  ·refine thn (T.item (X.compF scope ys G.objs.size x s2 H2 fp) rfl rfl rfl hc i [] s' (v :: wo js σ) H' _ I (L fr) st go) fun r s4 ⟨u,hr,h4⟩=>?_
   subst hr
   refine wpAny_bind (thn h4 fun _ s5 ⟨y,H5,I5,r5,y5,B,a7⟩=>wpAny_bind ?_)
   have a9:=I5.pinned (L a7) (T.obj _ _ B)
   refine wpAny_assign_Name (jv (i:=0) a9 hnd rfl (Or.inl (lookup_relabel_local hx)) r5 (fun s6 I6=>?_) (Or.inr (lookup_relabel_local hx)))
   refine wpAny_bind (wpAny_tests_one (yi3 (ht _ _ _ _ _ s6 (some y :: wo js σ) H5 _ I6 (a1 y H5 y5)) fun b s7 ⟨H6,Y,q7⟩=>?_))
   cases b with
   | false =>
    obtain ⟨m',hm,w'⟩:=q7
    have H:∀ b∈fp,∀ o,s5.heap.get? b=some o->s7.heap.get? b=some o/\H6 b=none:=fun b a o e =>
     ⟨(Y.pin (b,o) (List.mem_append_right _ (List.mem_append_right _ (wl a e)))).1,(Y.pin (b,o) (List.mem_append_right _ (List.mem_append_right _ (wl a e)))).2.1⟩
    refine wpAny_pure ⟨rfl,m',hm,i+1,some y,_,Y.unpinned,T.keep _ _ _ B fun b a o e=>(H b a o e).1,fun b a=>?_,w'⟩
    obtain ⟨o,e,d⟩:=T.obj _ _ B b a
    exact (H b a o e).2
   | true =>
    refine wpAny_bind (wpAny_bind (yi3 (he _ _ _ _ _ s7 (some y :: wo js σ) H6 _ Y q7) fun u2 s7 ⟨y2,H7,Y,r7,zs,hD,hl,m',hm,w'⟩=>wpAny_bind ?_))
    refine yi3 (xg _ s7 (some y :: wo js σ) H7 (.ref s2.heap.objs.size) [y2] (.ref s2.heap.objs.size) [u2] (fun _ H8=>H8=upd H7 s2.heap.objs.size (.lst (zs++[y2]))) Y rfl (.cons r7 .nil) ⟨_,zs,y2,rfl,rfl,hD,hl,rfl⟩) fun _ s8 h'=>?_
    obtain ⟨_,H8,I8,_,e8⟩:=h'
    subst e8
    have H:∀ b∈fp,∀ o,s5.heap.get? b=some o->s8.heap.get? b=some o/\upd H7 s2.heap.objs.size (HO.lst (zs++[y2])) b=none:=fun b a o e =>
     ⟨(I8.pin (b,o) (List.mem_append_right _ (List.mem_append_right _ (wl a e)))).1,(I8.pin (b,o) (List.mem_append_right _ (List.mem_append_right _ (wl a e)))).2.1⟩
    refine wpAny_pure (wpAny_pure ⟨rfl,m',hm,i+1,some y,_,I8.unpinned,T.keep _ _ _ B fun b a o e=>(H b a o e).1,fun b a=>?_,w'⟩)
    obtain ⟨o,e,d⟩:=T.obj _ _ B b a
    exact (H b a o e).2
 exact codeAny_compStart_list (O _) (T.self X.A 0 _ _ _ (T.keep 0 _ _ st2 (fun b a o e=>t b o e)) (O _))
theorem ymq {y:Str} {py spos:Pos} (hN:X.N.Nodup) (hy:X.N[i]?=some y) (hl:X.env.scope.names.lookup y=some .local) (hc:X.calm=true) (hi:PI X (.Name x px) iter wi)
  (ht:∀ (C:Addr) (s2:Shared) (H2:Hp) (fp:List Addr),PT (X.compF scope ys C x s2 H2 fp) cnd tc) (he:∀ (C:Addr) (s2:Shared) (H2:Hp) (fp:List Addr),PE (X.compF scope ys C x s2 H2 fp) elt te) (hjs:js.map (fun j=>X.N[j]?)=ys.map some)
  (hclos:closureFor scope X.env=pure (jq ys X.env)) (hyc:∀ y∈ys,X.env.kindOf y=some .cell) (hrel:∀ y∈ys,(relabel scope X.env).names.lookup y=some .cell)
  (hsw:swapsWith (.ListComp elt [⟨.Name x px,iter,[cnd],0⟩] scope pos) (some (.Name y py)) spos.line X.env=pure true:=by rfl) (hnd:(x :: ys).Nodup:=by decide)
  (hfr:∀ y∈scope.names,y.2=.free->y.1∈ys:=by decide +kernel) (hcell:∀ y∈scope.names,y.2≠.cell:=by decide +kernel) (hkind:scope.kind=.function:=by rfl)
  (hnames:∀ y∈scope.names,y.2=.local->scope.names.lookup y.1=some .local:=by decide +kernel) (hx:scope.names.lookup x=some .local:=by rfl) (hs:∀ x,foldedSetIterable iter X.env x=pure x:=by intro _; rfl) :
  PS X (.Assign [.Name y py] (.ListComp elt [⟨.Name x px,iter,[cnd],0⟩] scope pos) spos) (ypl (yob wi tc te js) (vn i)):=by
 refine .mk fun a s σ H r I h=>?_
 rw [exec_Assign_Name_used _ _ _ _ hsw]
 refine wpAny_bind (wpAny_standAt (wpAny_bind ?_))
 show wpAny _ X.A (do let _ <- comprehension (.ListComp elt [⟨.Name x px,iter,[cnd],0⟩] scope pos) scope X.env _ (newList []) false (eval iter X.env) (some (assign (.Name y py) X.env))) _ _ s
 refine wpAny_bind (wpAny_mono (wpAny_comprehension_free (use:=some (assign (.Name y py) X.env)) (Q:=fun _ d=>SP X a r .next d) rfl hs hclos hkind hnames (thn (hi a s σ H _ I h) fun v U K=>thn K fun F s2 B=>?_)) (fun _ d L=>wpAny_pure (wpAny_pure L)) fun _ _ e=>e)
 obtain ⟨O,fp,S,J,H2,e,E,T,t,u,h⟩:=B
 subst e
 refine yii (R:=fun D l=>vn i (.ref D) σ l r.nx) (RR:=compPost (model X.prog X.w) X.A X.xe (some (assign (.Name y py) X.env)) (fun _ d=>SP X a r .next d)) hc ht he hcell hkind hx hnd hfr hyc hrel hjs E T t u h ?_
 intro D C l d m f M G q
 refine wpAny_assign_Name (jt (v:=V.ref D) G hN hy (Or.inl hl) rfl (fun k n p=>?_) (Or.inr hl))
 refine ⟨m,?_,fun P g=>⟨_,l,?_,q⟩⟩
 ·obtain ⟨b,g,c⟩:=p
  refine M.sameBut g fun z=>?_
  rcases c with c | c
  ·exact f.2.1 (z.trans c)
  ·exact f.2.2.2.2.1 y b c z.symm
 ·exact n.turned (t':=k.toks) (fun b o c e=>g.extBut b o c e) f.1 f.2.1 f.2.2.2.1 f.2.2.2.2.1 f.2.2.2.2.2
theorem yqc {H:Hp} {Q:VK} (h:wi σ H fun J H1=>∀ D,H1 D=none->ydv J tc te (wo js σ) D (fun H2=>Q (.ref D) H2) H1):yob wi tc te js σ H Q:=h
theorem yf3 {lo:Int} {n:Nat} {fr:St} {R:Hp->Prop} {H1:Hp} (Pv:Nat->Hp->Prop) (h0:Pv 0 (upd H1 D (.lst [])))
  (hs:∀ i H,i < n->Pv i H->tc (some (.int (lo+i)) :: fr) H fun b H4=>if b=true then te (some (.int (lo+i)) :: fr) H4 (fun y H5=>∃ ys,H5 D=some (.lst ys)/\ys.length < sizeLine/\∃ m',m' < n - i/\cW n Pv (i+1) m' (upd H5 D (.lst (ys++[y])))) else ∃ m',m' < n - i/\cW n Pv (i+1) m' H4)
  (hd:∀ H,Pv n H->R H):ydv (Itr lo n) tc te fr D R H1:=by
 refine ⟨cW n Pv,⟨n,by simp,Nat.zero_le _,h0⟩,?_⟩
 rintro i m H ⟨rfl,c,p⟩
 by_cases hlt:i < n
 ·refine .inr ⟨hlt,fun x a y=>?_⟩
  obtain ⟨e,y⟩:=y
  subst e y
  exact hs i _ hlt p
 ·have e:i=n:=by omega
  subst e
  exact .inl ⟨Nat.le_refl _,hd H p⟩
theorem yjk {n:Nat} {Pv:Nat->Hp->Prop} {H4:Hp} (hi:i < n) (p:Pv (i+1) H4):∃ m',m' < n - i/\cW n Pv (i+1) m' H4:=⟨n - (i+1),by omega,rfl,hi,p⟩
end
structure yfl (K:W.Frag) (x qual:Str) (st:Stmt) (D:Addr) (f:Addr) (fd:FuncData):Prop where
 ex:∃ (oc:Value) (od:Option Addr) (kV doc pm:Value) (an:Option Addr) (cdv ct:Value) (osl:Array (Option Value)),
  fd=W.fnOf x qual (wn st) (v8 st) (yh st) (.ref D) kV doc pm an cdv ct/\K.lookup f=some ⟨oc,od,.func fd,osl⟩/\W.codeIn K cdv qual=true
 kp:W.keepIn K (.ref f)=true
section
variable {w:World} {K:W.Frag} {mg:Str->Option Value} {base:Heap}
theorem yfl.ok {st:Stmt} {N ps:List Str} {k:Nat} {sp:Sp} (F:yfl K x qual st D f fd) (S:yo N ps (yh st)) (len:∀ vs H Q E,sp vs H Q E->vs.length=ps.length)
  (hbody:∀ (cdv:Value) (A:Around) (outer:List Env) (s:Shared) (H:Hp) (vs:List V) (Q:VK) (E:XK),zi k (A.deeper (envOfC qual (yh st) s.heap.objs.size f cdv))->sp vs H Q E ->
   ∃ t,PSs (wc CX0 P w K mg base N qual (yh st) f cdv A outer s H E).nox (v8 st) t/\t { nx:=fun _ H'=>Q .non H',rt:=Q } (yah N vs) H):wa P w K mg base CX0 (k+1) f fd ps sp:=by
 obtain ⟨j,m,kV,e,i,n,cdv,l,g,rfl,d,a⟩:=F.ex
 refine yne d a S len fun A outer s H vs Q E c b=>?_
 obtain ⟨t,h,q⟩:=hbody cdv A outer s H vs Q E c b
 exact ⟨t,h.nox,q⟩
theorem yfl.okE {st:Stmt} {N ps:List Str} {k:Nat} {sp:Sp} (F:yfl K x qual st D f fd) (S:yo N ps (yh st)) (len:∀ vs H Q E,sp vs H Q E->vs.length=ps.length)
  (hbody:∀ (cdv:Value) (A:Around) (outer:List Env) (s:Shared) (H:Hp) (vs:List V) (Q:VK) (E:XK),zi k (A.deeper (envOfC qual (yh st) s.heap.objs.size f cdv))->sp vs H Q E ->
   ∃ t,PSs (wc (CXe P w) P w K mg base N qual (yh st) f cdv A outer s H E) (v8 st) t/\t { nx:=fun _ H'=>Q .non H',rt:=Q } (yah N vs) H):wa P w K mg base (CXe P w) (k+1) f fd ps sp:=by
 obtain ⟨i,l,kV,e,h,m,cdv,j,g,rfl,d,a⟩:=F.ex
 exact yne d a S len fun A outer s H vs Q E c b=>hbody cdv A outer s H vs Q E c b
theorem yfl.binds {st:Stmt} {ps:List Str} {ds:List Value} {o:Obj} {its:Array Value} {n j:Nat} (hj:j+ds.length=ps.length) (F:yfl K x qual st D f fd) (hD:K.lookup D=some o) (ho:o.data=.seq its n)
  (h:∀ (kV doc pm:Value) (an:Option Addr) (cdv ct:Value) (us:List Value),us.length=j ->
   ∃ k:Option (Array Value)->Sem (List (Str × Value)),bindArgs (W.fnOf x qual (wn st) (v8 st) (yh st) (.ref D) kV doc pm an cdv ct) ⟨us,[]⟩=(seqItems? (.ref D) >>= k)/\k (some its)=pure (ps.zip (us++ds))):uh K fd ps ds:=by
 obtain ⟨i,m,kV,doc,pm,an,cdv,ct,d,rfl,l,b⟩:=F.ex
 intro s us c e
 obtain ⟨k,g,a⟩:=h kV doc pm an cdv ct us (by rw [List.length_append] at e; omega)
 exact BindsTo.of_defaults rfl (c _ _ hD) ho g a
theorem ygk {st:Stmt} {oc:Value} {od an:Option Addr} {osl:Array (Option Value)} {kV doc pm cdv ct:Value} (l:K.lookup f=some ⟨oc,od,.func (W.fnOf x qual (wn st) (v8 st) (yh st) (.ref D) kV doc pm an cdv ct),osl⟩)
  (c:W.codeIn K cdv qual=true) (k:W.keepIn K (.ref f)=true):yfl K x qual st D f (W.fnOf x qual (wn st) (v8 st) (yh st) (.ref D) kV doc pm an cdv ct):=⟨⟨oc,od,kV,doc,pm,an,cdv,ct,osl,rfl,l,c⟩,k⟩
end
theorem ycl {K:W.Frag} {xs:List V} {g:TG} {te:TE} {n:Nat} {fr:St} {R:Hp->Prop} {H1:Hp} (Pv:Nat->Hp->Prop) (h0:Pv 0 (upd H1 D (.lst []))) (hl:∀ i H,i <= xs.length->Pv i H->SqL K H a xs)
  (hs:∀ i x H pre,xs[i]?=some x->i < xs.length->Pv i H->List.length pre=n->g x (pre++fr) H fun σ' H'=>(∃ pre',List.length pre'=n/\σ'=pre'++fr)/\te σ' H' fun y H4=>∃ ys,H4 D=some (.lst ys)/\ys.length < sizeLine/\∃ m',m' < xs.length - i/\cW xs.length Pv (i+1) m' (upd H4 D (.lst (ys++[y]))))
  (hd:∀ H,Pv xs.length H->R H):zr (Itl K a) g te n fr D R H1:=by
 refine ⟨cW xs.length Pv,⟨xs.length,by simp,Nat.zero_le _,h0⟩,?_⟩
 rintro i m H ⟨rfl,c,p⟩
 have q:=hl i H c p
 by_cases hlt:i < xs.length
 ·refine .inr ⟨⟨xs,xs[i],q,by simp [hlt]⟩,fun x H' pre y b=>?_⟩
  obtain ⟨e,y⟩:=y
  subst e
  exact hs i x _ pre (y xs q) hlt p b
 ·have e:i=xs.length:=by omega
  subst e
  exact .inl ⟨⟨xs,q,Nat.le_refl _⟩,hd H p⟩
def ygg (K:W.Frag):List V->Hp->VK->Prop:=fun xs H Q=>∃ p ys,xs=[.ref p]/\(SqL K H p ys\/SqT K H p ys)/\∀ l,H l=none->Q (.ref l) (upd H l (.lst ys))
theorem yho {pre:List (Option V)} (h:List.length pre=3):∃ v1 v2 v3,pre=[v1,v2,v3]:=by
 match pre,h with
 | [v1,v2,v3],_=>exact ⟨v1,v2,v3,rfl⟩
section
variable {X:Cx} {body suite:List Stmt} {b₀:Stmt} {tx n:Str} {np hpos pos:Pos} {tb:(St->XK)->TS} {ts:TS}
abbrev THs:=yb6->St->Addr->Addr->Hp->Prop
end
section
variable {X:Cx} {σ:St} {H:Hp} {s:Shared} {x T:Addr} {C:Value} {M:Model} {A:Around}
theorem yjm {base:Heap} {l:List Env} {e:Addr} {cl a0 fl:Value} {fm:Option Addr} {Q:Unit->Shared->Prop}
  (hk:base.StaysIn s.heap) (hl:s.heap.FunFrames base l) (tr:s.heap.TracedAtW base e cl a0 fl)
  (h:∀ h',base.StaysIn h'->h'.FunFrames base l->h'.TracedAtW base e cl a0 (fm.elim Value.none fun f=>rawInt f)->(∀ b o,s.heap.get? b=some o->(∀ vs,o.data≠.fields vs)->h'.get? b=some o)->Q () { s with heap:=h' }) :
  wpAny M A (setFlight (.ref e) fm) Q E s:=by
 obtain ⟨u,w,U,B,q,p,y,r,t,m,k,j,i,x⟩:=tr
 have c:3 < q.size:=(Array.getElem?_eq_some_iff.mp x).1
 have a:∀ b,b≠U->(s.heap.update U (Obj.mapFields (·.setIfInBounds 3 (fm.elim Value.none fun f=>rawInt f)))).get? b=s.heap.get? b:=fun b g=>Heap.get?_update_other _ _ (Ne.symm g)
 have d:∀ b o,s.heap.get? b=some o->(∀ vs,o.data≠.fields vs)->b≠U:=fun b o g v z=>by
  rw [z,j] at g
  cases g
  exact v q i
 unfold setFlight
 refine wpAny_bind (wpAny_field p r t ?_)
 rw [if_pos (show (Value.ref U != Value.none)=true by simp)]
 refine wpAny_setField j i c (h _ (fun b o e=>(a b fun z=>by rw [z,m] at e; cases e).trans (hk b o e)) (hl.of_keeps fun b o e n=>⟨o,(a b (d b o e n)).trans e,rfl⟩) ?_ fun b o e n=>(a b (d b o e n)).trans e)
 exact ⟨u,w,U,_,_,(a e (Ne.symm k)).trans p,y,r,t,m,k,Heap.get?_update_self _ j (Obj.isFreed_of_fields (Obj.data_mapFields i _)),Obj.data_mapFields i _,by simp [c]⟩
theorem yqb {what:String} {α:Type} {env:Env} {Q:α->Shared->Prop} (hL:env.frame=some L) (J:Inv X pins σ H s) (hx:Fy X pins H x) (hT:Fy X pins H T) (tr:Trd s.heap x T C (rawInt L))
  (k:∀ s' T',Inv X pins σ H s'->Fy X pins H T'->Trd s'.heap x T' C (rawInt L)->E (.ref x) s'):wpAny M A (passOn what (.ref x) env:Sem α) Q E s:=by
 obtain ⟨q,g⟩:=yby (X:=X) tr
 obtain ⟨y,D,F,t,B,h,G,j,l,r,v,u,w⟩:=id tr
 unfold PySem.passOn
 refine wpAny_bind (wpAny_field h j l ?_)
 rw [if_neg (show ¬ ((Value.ref T == Value.none)=true) by simp)]
 refine wpAny_bind (yjm (base:=hid s X x T) yan (yaq J) g fun z m n c i=>?_)
 rw [hL] at c
 obtain ⟨d,T',a,f⟩:=x8 J hx hT m n c fun b o e p=>⟨o.slots,i b o e p⟩
 exact wpAny_throw (k _ T' d a f)
def yn4 (X:Cx) (Ex:XK):Prop:=∀ (pins:List (Addr × Obj)) (σ:St) (H:Hp) (s':Shared) (x T:Addr) (C:Value) (L:Addr),X.env.frame=some L->Inv X pins σ H s'->Fy X pins H x->Fy X pins H T->Trd s'.heap x T C (rawInt L)->Ex C none H->X.xe (.ref x) s'
theorem ju {w:World} {K:W.Frag} {mg:Str->Option Value} {base:Heap} {N:List Str} {cd:Value} {outer:List Env} {E:XK} :
  yn4 (wc (CXe P w) P w K mg base N qual scope f cd A outer s H E) E:=by
 intro a σ d l x T C L u I i t y q
 show wpAny _ _ (leaving _ _) _ _ _
 obtain ⟨F,h⟩:=yby (X:=wc (CXe P w) P w K mg base N qual scope f cd A outer s H E) y
 unfold leaving
 refine wpAny_bind (wpAny_noteFrame_againW (base:=hid l (wc (CXe P w) P w K mg base N qual scope f cd A outer s H E) x T) u h ?_)
 refine wpAny_setFlight_noneW (base:=hid l (wc (CXe P w) P w K mg base N qual scope f cd A outer s H E) x T) yan (yaq I) h fun G v B p r=>?_
 obtain ⟨c,n,g,m⟩:=x8 I i t v B p fun b o e D=>⟨o.slots,r b o e D⟩
 have k:∀ {b},Fy (wc (CXe P w) P w K mg base N qual scope f cd A outer s H E) a d b->d b=none/\s.heap.get? b=none:=fun j=>⟨j.1,j.2.2.2.1.resolve_left (by intro z; cases z)⟩
 exact ⟨x,n,C,d,rfl,c.os,c.bare,c.base,c.hok,k i,k g,m,q⟩
end
section
variable {X:Cx} {iter elt:Expr} {px pos:Pos} {te:TE} {wi:TI} {σ:St}
theorem yog {H2 H':Hp} {b:Addr} (I2:Inv X pins σ H2 s2) (f2:∀ b∈fp,yc1 X pins H2 b) (hb:Fy (X.comp scope C x s2 H2 fp) [] H' b):Fy X pins H' b:=by
 obtain ⟨h,n,i,a,A,t⟩:=hb
 rcases a with a | a
 ·obtain ⟨g1,g2,g3,g4,g5,g6⟩:=f2 b a
  refine ⟨h,g2,g3,g4.imp id fun z=>?_,g5,g6⟩
  cases e:X.s₀.heap.get? b with
  | none=>rfl
  | some o=>exact absurd (Nat.lt_of_lt_of_le (Heap.lt_size e) z) (Nat.lt_irrefl _)
 ·have a:s2.heap.get? b=none:=a
  refine ⟨h,fun z=>?_,fun z=>i ?_,?_,fun y c e z=>?_,fun p l z=>?_⟩
  ·obtain ⟨m,j,_⟩:=I2.loc
   obtain ⟨r,_,_,d,_⟩:=id j
   rw [<- z,a] at d
   cases d
  ·show b∈frs X.stack
   rcases I2.ok.stk with e | ⟨e,w⟩
   ·rw [e]; exact z
   ·rw [e]
    obtain ⟨v,k,hb⟩:=List.mem_filterMap.mp z
    exact List.mem_filterMap.mpr ⟨v,List.mem_cons_of_mem _ k,hb⟩
  ·by_cases y:b∈X.ex
   ·exact .inl y
   ·refine .inr ?_
    cases e:X.s₀.heap.get? b with
    | none=>rfl
    | some o =>
     obtain ⟨u,g⟩:=I2.base.there b o e y
     rw [a] at g
     cases g
  ·obtain ⟨v,q⟩:=I2.cell y c e
   obtain ⟨o,f,_⟩:=q
   rw [z,a] at f
   cases f
  ·have f:=(I2.pin p l).1
   rw [z,a] at f
   cases f
theorem yik {Ex:XK} {te':(St->XK)->TE} {H2:Hp} {tn:Nat->Heap->Prop} {J:It} (hc:X.calm=true)
  (he:∀ (C:Addr) (s2:Shared) (H2:Hp) (fp:List Addr) (pn:List (Addr × Obj)) (Ex:St->XK),PE ((X.comp scope C x s2 H2 fp).tr pn Ex) elt (te' Ex)) (hst:X.stack=X.env :: X.outer/\X.env.frame=some L)
  (hfree:∀ y∈scope.names,y.2≠.free) (hcell:∀ y∈scope.names,y.2≠.cell) (hkind:scope.kind=.function) (hx:scope.names.lookup x=some .local)
  (I2:Inv X pins σ H2 s2) (T:ylq X.prog X.w X.K (.Name x px) J fp it tn) (st2:tn 0 s2.heap) (f2:∀ b∈fp,yc1 X pins H2 b)
  {R:Addr->Hp->Prop} (h:∀ D,H2 D=none->yao J (te' fun _=>Ex) D (R D) H2) {RR:Value->Env->Result->Shared->Prop} {E:Value->Shared->Prop}
  (hR:∀ (D C:Addr) (H':Hp) (s':Shared) (m:Str->Option Value),yc1 X pins H' C->s'.heap.Ns C m->Inv X pins σ H' s'->R D H'->RR (.ref D) (compEnv scope C X.env) (.ok .next) s')
  (hE:∀ (D C:Addr) (H':Hp) (s':Shared) (m:Str->Option Value) (y U:Addr) (Cl:Value),yc1 X pins H' C->s'.heap.Ns C m->Inv X pins σ H' s'->Fy X pins H' y->Fy X pins H' U->y≠C->U≠C->Trd s'.heap y U Cl (rawInt L)->Ex Cl none H'->RR (.ref D) (compEnv scope C X.env) (.error (.ref y)) s') :
  wpAny (model X.prog X.w) X.A (newList []) (fun acc s₃=>wpAny (model X.prog X.w) X.A (newFunctionEnv scope X.env.globals [] [] X.env.qual none .none (some X.env)) (fun cenv s₄ =>
   codeAny (model X.prog X.w) X.A (.compStart (.ListComp elt [⟨.Name x px,iter,[],0⟩] scope pos) 0 (.ref it) acc { cenv with scope:=scope }) (RR acc { cenv with scope:=scope }) s₄) E s₃) E s2:=by
 refine wpAny_newObj_type (wpAny_newFunctionEnv hcell (by intro y hy; simp at hy) (fun h₁ hns₁ hsb₁=>?_) hkind)
 dsimp only at hns₁ hsb₁ ⊢
 generalize H:s2.heap.push { cls:=.type "list",dict:=none,data:=.seq ([]:List Value).toArray }=G at hns₁ hsb₁ ⊢
 have hC:G.objs.size=s2.heap.objs.size+1:=by rw [<- H,Heap.size_push]
 have a8:s2.heap.objs.size≠G.objs.size:=by rw [hC]; exact Nat.ne_of_lt (Nat.lt_succ_self _)
 have k:s2.heap.objs.size <= G.objs.size:=by rw [hC]; exact Nat.le_succ _
 have g:∀ b,b < s2.heap.objs.size->b≠G.objs.size/\b≠s2.heap.objs.size:=fun b a=>⟨by rw [hC]; exact Nat.ne_of_lt (Nat.lt_succ_of_lt a),Nat.ne_of_lt a⟩
 have B:∀ b o,s2.heap.get? b=some o->h₁.get? b=some o:=fun b o e=>hsb₁.extBut b o (g b (Heap.lt_size e)).1 (Heap.get?_push_of_some _ (H ▸ Heap.get?_push_of_some _ e))
 have a5:h₁.get? s2.heap.objs.size=some { cls:=.type "list",data:=.seq ([]:List Value).toArray }:=hsb₁.extBut _ _ a8 (Heap.get?_push_of_some _ (H ▸ Heap.get?_push_size _ rfl))
 have O:∀ b∈fp,b < s2.heap.objs.size:=fun b a=>let ⟨_,e,_⟩:=T.obj 0 _ st2 b a; Heap.lt_size e
 have a7:∀ b∈fp,b∉frs X.stack:=fun b a z=>(List.mem_cons.mp (I2.stkSub b z)).elim (f2 b a).2.1 (f2 b a).2.2.1
 have nC:H2 G.objs.size=none:=I2.hok.fresh k
 have nD:H2 s2.heap.objs.size=none:=I2.hok.fresh (Nat.le_refl _)
 have ab:(X.comp scope G.objs.size x s2 H2 fp).Ok:=by
  refine ⟨I2.ok.mod,hkind,I2.ok.glob,I2.ok.blt,k,fun y z c e=>(by cases e),fun y e=>?_,fun y c _ e=>(by cases e),I2.ok.hd,I2.ok.frames,.inl rfl,fun b a=>⟨(g b (O b a)).1,fun y c e=>(by cases e)⟩,I2.bs,?_,fun b o e a=>?_,fun b a=>a7 b a,I2.stack,I2.stkFree⟩
  ·exfalso
   have e':scope.names.lookup y=some .cell\/scope.names.lookup y=some .free:=e
   rcases e' with e' | e'
   ·exact hcell _ (PySem.mem_of_lookup e') rfl
   ·exact hfree _ (PySem.mem_of_lookup e') rfl
  ·exact Nat.le_trans I2.ok.bsz I2.sz
  ·rcases (f2 b a).2.2.2.1 with z | z
   ·exact I2.ok.noex b o e z
   ·exact absurd (Nat.lt_of_lt_of_le (Heap.lt_size (I2.ok.bs b o e).1) z) (Nat.lt_irrefl _)
 have I3:∀ Y,Inv (X.comp scope G.objs.size x s2 H2 fp) [] [none] (upd H2 s2.heap.objs.size (.lst [])) { s2 with heap:=h₁,toks:=Y }:=fun Y =>
  ⟨ab,rfl,I2.bare,Un.laid B (Nat.le_refl _) nD,⟨_,hns₁,fun i y v _ e _=>by
    cases i with
    | zero=>cases e
    | succ i=>simp at e⟩,fun y c e=>(by cases e),(by show upd H2 s2.heap.objs.size _ G.objs.size=none; rw [ym a8.symm]; exact nC),fun y c e=>(by cases e),fun p N=>(by simp at N),
   I2.hok.laid B (Nat.le_refl _) ⟨Nat.zero_le _,[],_,.nil,a5⟩,rfl⟩
 have l:∀ {H':Hp},(∀ b∈fp,H' b=none)->∀ b∈fp,yc1 (X.comp scope G.objs.size x s2 H2 fp) [] H' b:=fun hn b a=>⟨hn b a,(g b (O b a)).1,a7 b a,.inl a,fun y c e=>(by cases e),fun p N=>(by simp at N)⟩
 have F:∀ Y,codeAny (model X.prog X.w) X.A (.compLoop (.ListComp elt [⟨.Name x px,iter,[],0⟩] scope pos) 0 (.ref it) (.ref s2.heap.objs.size) (compEnv scope G.objs.size X.env)) (RR (.ref s2.heap.objs.size) (compEnv scope G.objs.size X.env)) { s2 with heap:=h₁,toks:=Y }:=by
  intro Y
  obtain ⟨W,⟨m0,w0⟩,a9⟩:=h s2.heap.objs.size nD
  refine codeAny_loop rfl (fun n s'=>∃ i v H',Inv (X.comp scope G.objs.size x s2 H2 fp) [] [v] H' s'/\tn i s'.heap/\(∀ b∈fp,H' b=none)/\W i n H') (fun n s' hI=>?_) m0
   ⟨0,none,_,I3 Y,T.keep 0 _ _ st2 (fun b a o e=>B b o e),fun b a=>(by rw [ym (g b (O b a)).2]; exact (f2 b a).1),w0⟩
  obtain ⟨i,v,H',I,st,fr,w⟩:=hI
  show wpAny _ _ ((compTurn (.ListComp elt [⟨.Name x px,iter,[],0⟩] scope pos) 0 (.ref it) (.ref s2.heap.objs.size) (compEnv scope G.objs.size X.env)).onRaise (fun x=>do noteFrame x (compEnv scope G.objs.size X.env); theTreesLotGoes x)) _ _ s'
  refine wpAny_noted ?_
  rw [compTurn_list1]
  refine wpAny_bind (wpAny_standAt (wpAny_bind ?_))
  rcases a9 i n H' w with ⟨a6,q⟩ | ⟨go,a3⟩
  ·refine thn (T.done (X.comp scope G.objs.size x s2 H2 fp) rfl rfl rfl hc i [] s' [v] H' _ I (l fr) st a6) fun r s4 ⟨hr,S⟩=>?_
   subst hr
   refine wpAny_pure ?_
   obtain ⟨m,hn,_⟩:=S.loc
   exact hR _ _ H' s4 m (I2.fpOk k S.free) hn (I2.call' (ch:=fp) S.os S.base S.hok S.bare fun b a=>⟨(f2 b a).2.2.2.1,(f2 b a).2.1,(f2 b a).2.2.2.2.1,(f2 b a).2.2.2.2.2⟩) q
  ·refine thn (T.item (X.comp scope G.objs.size x s2 H2 fp) rfl rfl rfl hc i [] s' [v] H' _ I (l fr) st go) fun r s4 ⟨u,hr,h4⟩=>?_
   subst hr
   refine wpAny_bind (thn h4 fun _ s5 ⟨y,H5,I5,r5,y5,M,aa⟩=>wpAny_bind ?_)
   have ad:=I5.pinned (l aa) (T.obj _ _ M)
   refine wpAny_assign_Name (jv (i:=0) ad (by simp) rfl (Or.inl hx) r5 (fun s6 I6=>?_) (Or.inl rfl))
   refine wpAny_bind (wpAny_bind (wpAny_mono (he G.objs.size s2 H2 fp (yau fp s5.heap) (fun _=>Ex) [] s6 [some y] H5 _ (I6.pnd.wish _) (a3 y H5 y5)) (fun u2 Q ⟨y2,t,I7,r7,ys,hD,hl,m',hm,w'⟩=>wpAny_bind ?_) fun e7 Q q7=>?_))
   rotate_left
   ·obtain ⟨af,σ7,t,xe,Te,Cl,rfl,J,f,j,tr,q⟩:=q7
    have J:Inv (X.comp scope G.objs.size x s2 H2 fp) (yau fp s5.heap) σ7 t Q:=J.unpnd
    have f:Fy (X.comp scope G.objs.size x s2 H2 fp) [] t xe:=⟨f.1,f.2.1,f.2.2.1,f.2.2.2.1,f.2.2.2.2.1,fun p N=>(by simp at N)⟩
    have j:Fy (X.comp scope G.objs.size x s2 H2 fp) [] t Te:=⟨j.1,j.2.1,j.2.2.1,j.2.2.2.1,j.2.2.2.2.1,fun p N=>(by simp at N)⟩
    have J:Inv (X.comp scope G.objs.size x s2 H2 fp) [] σ7 t Q:=Inv.unpinned (pins:=[]) J
    obtain ⟨a0,ta⟩:=yby (X:=X.comp scope G.objs.size x s2 H2 fp) tr
    have Z:=J.ok.frames
    have a2:=yaq (x:=xe) (T:=Te) J
    have es:(X.comp scope G.objs.size x s2 H2 fp).stack=X.env :: X.outer:=hst.1
    rw [es] at Z a2
    show wpAny _ _ (noteFrame (.ref xe) X.env) _ _ _
    refine wpAny_noteFrame_onW (base:=hid Q (X.comp scope G.objs.size x s2 H2 fp) xe Te) Z a2 hst.2 ta yan ynh fun h8 ⟨k1,k2,k3,k4⟩=>?_
    rw [<- es] at k2
    obtain ⟨P,T8,a1,ae⟩:=x8 J f j k1 k2 k3 k4
    obtain ⟨m8,ac,_⟩:=P.loc
    exact hE _ _ t _ m8 xe T8 Cl (I2.fpOk k P.free) ac (I2.call' (ch:=fp) P.os P.base P.hok P.bare fun b a=>⟨(f2 b a).2.2.2.1,(f2 b a).2.1,(f2 b a).2.2.2.2.1,(f2 b a).2.2.2.2.2⟩) (yog I2 f2 f) (yog I2 f2 a1) f.2.1 a1.2.1 ae q
   have I7:Inv (X.comp scope G.objs.size x s2 H2 fp) ([]++yau fp s5.heap) [_] t Q:=I7.unwish.unpnd
   refine yi3 (xg _ Q [some y] t (.ref s2.heap.objs.size) [y2] (.ref s2.heap.objs.size) [u2] (fun _ H8=>H8=upd t s2.heap.objs.size (.lst (ys++[y2]))) I7 rfl (.cons r7 .nil) ⟨_,ys,y2,rfl,rfl,hD,hl,rfl⟩) fun _ s8 h'=>?_
   obtain ⟨_,H8,I8,_,e8⟩:=h'
   subst e8
   have a4:∀ b∈fp,∀ o,s5.heap.get? b=some o->s8.heap.get? b=some o/\upd t s2.heap.objs.size (HO.lst (ys++[y2])) b=none:=fun b a o e =>
    ⟨(I8.pin (b,o) (List.mem_append_right _ (List.mem_append_right _ (wl a e)))).1,(I8.pin (b,o) (List.mem_append_right _ (List.mem_append_right _ (wl a e)))).2.1⟩
   refine wpAny_pure (wpAny_pure ⟨rfl,m',hm,i+1,some y,_,I8.unpinned,T.keep _ _ _ M fun b a o e=>(a4 b a o e).1,fun b a=>?_,w'⟩)
   obtain ⟨o,e,d⟩:=T.obj _ _ M b a
   exact (a4 b a o e).2
 exact codeAny_compStart_list (F _) (T.self X.A 0 _ _ _ (T.keep 0 _ _ st2 (fun b a o e=>B b o e)) (F _))
def ypb (wi:TI) (te:(St->XK)->TE) (Ex:XK):TE:=fun σ H Q=>wi σ H fun J H1=>∀ D,H1 D=none->yao J (te fun _=>Ex) D (fun H2=>Q (.ref D) H2) H1
theorem yay {Ex:XK} {te:(St->XK)->TE} (hc:X.calm=true) (hi:PI X (.Name x px) iter wi) (he:∀ (C:Addr) (s2:Shared) (H2:Hp) (fp:List Addr) (pn:List (Addr × Obj)) (Ex:St->XK),PE ((X.comp scope C x s2 H2 fp).tr pn Ex) elt (te Ex))
  (hst:X.stack=X.env :: X.outer/\X.env.frame=some L) (hca:yn4 X Ex)
  (hfree:∀ y∈scope.names,y.2≠.free:=by decide +kernel) (hcell:∀ y∈scope.names,y.2≠.cell:=by decide +kernel) (hkind:scope.kind=.function:=by rfl)
  (hnames:∀ y∈scope.names,y.2=.local->scope.names.lookup y.1=some .local:=by decide +kernel) (hx:scope.names.lookup x=some .local:=by rfl) (hs:∀ x,foldedSetIterable iter X.env x=pure x:=by intro _; rfl) :
  PE X (.ListComp elt [⟨.Name x px,iter,[],0⟩] scope pos) (ypb wi te Ex):=by
 refine .mk fun a s σ H Q I h=>?_
 refine wpAny_ListComp hfree hkind hnames (thn (hi a s σ H _ I h) fun v s1 h1=>thn h1 fun a0 s2 O=>?_) hs
 obtain ⟨it,fp,tn,J,H2,e,Y,T,n,N,h⟩:=O
 subst e
 refine yik (L:=L) (Ex:=Ex) (R:=fun D i=>Q (.ref D) i) (RR:=fun u c r d=>∃ m,d.heap.Ns c.locals m/\∀ h',Heap.SameBut c.locals d.heap h' ->
  match r with | .ok _=>EP X a σ Q u { d with heap:=h' } | .error x=>wpAny (model X.prog X.w) X.A (passOn "comprehension.variables-let-go" x c) (EP X a σ Q) X.xe { d with heap:=h' }) hc he hst hfree hcell hkind hx Y T n N h ?_ ?_
 ·intro D C i d m f t l q
  refine ⟨m,t,fun h' g=>⟨.ref D,i,?_,rfl,q⟩⟩
  exact l.turned (t':=d.toks) (fun b o p e=>g.extBut b o p e) f.1 f.2.1 f.2.2.2.1 f.2.2.2.2.1 f.2.2.2.2.2
 ·intro D C i d m y U E f t l B S M nU tr q
  refine ⟨m,t,fun h' g=>?_⟩
  have k:=l.turned (t':=d.toks) (h':=h') (fun b o p e=>g.extBut b o p e) f.1 f.2.1 f.2.2.2.1 f.2.2.2.2.1 f.2.2.2.2.2
  have j:Trd h' y U E (rawInt L):=by
   obtain ⟨oe,us,oU,G,a1,Z,q2,q3,q4,F,W,K,q8⟩:=tr
   exact ⟨oe,us,oU,G,a1,g.extBut _ _ M Z,q2,q3,q4,F,g.extBut _ _ nU W,K,q8⟩
  exact yqb (X:=X) (env:=compEnv scope C X.env) (L:=L) hst.2 k B S j fun s3 P I3 z t3=>hca a σ i s3 y P E L hst.2 I3 B z t3 q
end
section
variable {σ:St} {H:Hp} {Q:VK} {wi:TI} {te:(St->XK)->TE} {Ex:XK}
theorem yj9 (h:wi σ H fun J H1=>∀ D,H1 D=none->yao J (te fun _=>Ex) D (fun H2=>Q (.ref D) H2) H1):ypb wi te Ex σ H Q:=h
end
structure Dg (K:W.Frag) (x q:Str) (st:Stmt) (f:Addr) (fd:FuncData) (M:Prop):Prop where
 F:Fun K x q st f fd
 m:M
structure Df (K:W.Frag) (x q:Str) (st:Stmt) (ps:List Str) (f:Addr) (fd:FuncData) (M:Prop):Prop where
 F:Fun K x q st f fd
 B:uh K fd ps []
 m:M
theorem yls {α:Type} {n:Nat} {a:List α} (h:a.length=n+1):∃ x r,a=x :: r/\r.length=n:=by
 cases a with
 | nil=>cases h
 | cons x r=>exact ⟨x,r,rfl,Nat.succ.inj h⟩
abbrev Dgf (K:W.Frag) (mg:Str->Option Value) (x:Str) (st:Stmt) (f:Addr) (fd:FuncData):Prop:=Dg K x x st f fd (mg x=some (.ref f))
abbrev Dgm (K:W.Frag) (C:Addr) (x q:Str) (st:Stmt) (f:Addr) (fd:FuncData):Prop:=Dg K x q st f fd (ytr K C x f)
abbrev Dff (K:W.Frag) (mg:Str->Option Value) (x:Str) (st:Stmt) (ps:List Str) (f:Addr) (fd:FuncData):Prop:=Df K x x st ps f fd (mg x=some (.ref f))
abbrev Dfm (K:W.Frag) (C:Addr) (x q:Str) (st:Stmt) (ps:List Str) (f:Addr) (fd:FuncData):Prop:=Df K x q st ps f fd (ytr K C x f)
section
variable {K:W.Frag} {mg:Str->Option Value} {h:Heap} {q:Str} {st:Stmt} {M:Prop} {oc kV doc pm cdv ct:Value} {od an:Option Addr} {osl:Array (Option Value)}
theorem dgf_mk (X:K.In h) (G:h.Ns mainGlobals mg) (a:W.nsIn K mainGlobals x=some (some (.ref f))) (l:K.lookup f=some ⟨oc,od,.func (W.fnOf x x (wn st) (v8 st) (yh st) .none kV doc pm an cdv ct),osl⟩)
  (c:W.codeIn K cdv x=true) (k:W.keepIn K (.ref f)=true):Dgf K mg x st f (W.fnOf x x (wn st) (v8 st) (yh st) .none kV doc pm an cdv ct):=⟨yo0 l c k,W.mg_of X G a⟩
theorem dgm_mk (a:W.findIn K (.ref C) x=some (some (.ref f))) (i:W.isFn K (.ref f)=true) (l:K.lookup f=some ⟨oc,od,.func (W.fnOf x q (wn st) (v8 st) (yh st) .none kV doc pm an cdv ct),osl⟩)
  (c:W.codeIn K cdv q=true) (k:W.keepIn K (.ref f)=true):Dgm K C x q st f (W.fnOf x q (wn st) (v8 st) (yh st) .none kV doc pm an cdv ct):=⟨yo0 l c k,a,i,k⟩
theorem Dg.d0 (D:Dg K x q st f fd M) (h:∀ (kV doc pm:Value) (an:Option Addr) (cdv ct:Value),bindArgs (W.fnOf x q (wn st) (v8 st) (yh st) .none kV doc pm an cdv ct) ⟨[],[]⟩=pure []):Df K x q st [] f fd M :=
 ⟨D.F,D.F.binds fun kV doc pm an cdv ct b a=>match b,a with | [],_=>h kV doc pm an cdv ct,D.m⟩
theorem Dg.d1 (D:Dg K x q st f fd M) (h:∀ (kV doc pm:Value) (an:Option Addr) (cdv ct:Value) (u0:Value),bindArgs (W.fnOf x q (wn st) (v8 st) (yh st) .none kV doc pm an cdv ct) ⟨[u0],[]⟩=pure [(p0,u0)]):Df K x q st [p0] f fd M :=
 ⟨D.F,D.F.binds fun kV doc pm an cdv ct c b=>(by
  obtain ⟨u0,d,rfl,a⟩:=yls b
  obtain rfl:=List.eq_nil_of_length_eq_zero a
  exact h kV doc pm an cdv ct u0),D.m⟩
theorem Dg.d2 (D:Dg K x q st f fd M) (h:∀ (kV doc pm:Value) (an:Option Addr) (cdv ct:Value) (u0 u1:Value),bindArgs (W.fnOf x q (wn st) (v8 st) (yh st) .none kV doc pm an cdv ct) ⟨[u0,u1],[]⟩=pure [(p0,u0),(p1,u1)]):Df K x q st [p0,p1] f fd M :=
 ⟨D.F,D.F.binds fun kV doc pm an cdv ct g c=>(by
  obtain ⟨u0,d,rfl,b⟩:=yls c; obtain ⟨u1,e,rfl,a⟩:=yls b
  obtain rfl:=List.eq_nil_of_length_eq_zero a
  exact h kV doc pm an cdv ct u0 u1),D.m⟩
theorem Dg.d3 {p2:Str} (D:Dg K x q st f fd M) (h:∀ (kV doc pm:Value) (an:Option Addr) (cdv ct:Value) (u0 u1 u2:Value),bindArgs (W.fnOf x q (wn st) (v8 st) (yh st) .none kV doc pm an cdv ct) ⟨[u0,u1,u2],[]⟩=pure [(p0,u0),(p1,u1),(p2,u2)]):Df K x q st [p0,p1,p2] f fd M :=
 ⟨D.F,D.F.binds fun kV doc pm an cdv ct j d=>(by
  obtain ⟨u0,g,rfl,b⟩:=yls d; obtain ⟨u1,i,rfl,a⟩:=yls b; obtain ⟨u2,e,rfl,c⟩:=yls a
  obtain rfl:=List.eq_nil_of_length_eq_zero c
  exact h kV doc pm an cdv ct u0 u1 u2),D.m⟩
theorem Dg.d4 {p2 p3:Str} (D:Dg K x q st f fd M) (h:∀ (kV doc pm:Value) (an:Option Addr) (cdv ct:Value) (u0 u1 u2 u3:Value),bindArgs (W.fnOf x q (wn st) (v8 st) (yh st) .none kV doc pm an cdv ct) ⟨[u0,u1,u2,u3],[]⟩=pure [(p0,u0),(p1,u1),(p2,u2),(p3,u3)]):Df K x q st [p0,p1,p2,p3] f fd M :=
 ⟨D.F,D.F.binds fun kV doc pm an cdv ct l e=>(by
  obtain ⟨u0,i,rfl,b⟩:=yls e; obtain ⟨u1,k,rfl,a⟩:=yls b; obtain ⟨u2,g,rfl,c⟩:=yls a; obtain ⟨u3,j,rfl,d⟩:=yls c
  obtain rfl:=List.eq_nil_of_length_eq_zero d
  exact h kV doc pm an cdv ct u0 u1 u2 u3),D.m⟩
end
structure KC (K:W.Frag) (C:Addr):Prop where
 pg:W.plainGet K C Str.empty=true
 hd:W.hasDictIn K C=true
 po:W.plainOver K C=true
 sa:W.findIn K (.ref C) "__setattr__"=some (some (.builtin "object.__setattr__"))
 mk':W.makesIn K C=true
 kc:W.keepIn K (.ref C)=true
theorem KC.cls {K:W.Frag} (h:KC K C):Cls K C:=⟨h.pg,h.hd,h.po,h.sa⟩
abbrev GV (K:W.Frag) (x:Str) (v:Value):Prop:=W.nsIn K mainGlobals x=some (some v)
abbrev GZ (K:W.Frag) (x:Str):Prop:=W.nsIn K mainGlobals x=some none
abbrev FN (K:W.Frag) (C:Addr) (x:Str):Prop:=W.findIn K (.ref C) x=some none
section
variable {K:W.Frag} {H:Hp} {p dx:Addr} {fs fs':List (Str × V)} {v:V} {nm:Str} {P:V->Prop} {nx:St->Hp->Prop} {σ:St}
abbrev RdX (K:W.Frag) (H:Hp) (p:Addr) (nm:Str) (P:V->Prop):Prop:=∃ a' C dx fs v,V.ref p=.ref a'/\H a'=some (.ins C dx fs)/\Cls K C/\wq K C nm/\fs.lookup nm=some v/\P v
abbrev StX (K:W.Frag) (H:Hp) (p:Addr) (nm:Str) (v:V) (nx:St->Hp->Prop) (σ:St):Prop:=∃ a' C dx fs,V.ref p=.ref a'/\H a'=some (.ins C dx fs)/\Cls K C/\wq K C nm/\fs.length < 1000/\xi nx σ (upd H a' (.ins C dx (yav nm v fs)))
abbrev MtX (H:Hp) (p C:Addr) (nm:Str) (R:Prop):Prop:=∃ a dx fs,V.ref p=.ref a/\H a=some (.ins C dx fs)/\fs.lookup nm=none/\R
theorem rdX (hp:H p=some (.ins C dx fs)) (c:Cls K C) (n:wq K C nm) (l:fs.lookup nm=some v) (h:P v):RdX K H p nm P:=⟨p,C,dx,fs,v,rfl,hp,c,n,l,h⟩
theorem stX (hp:H p=some (.ins C dx fs)) (c:Cls K C) (n:wq K C nm) (l:fs.length < 1000) (e:yav nm v fs=fs') (h:xi nx σ (upd H p (.ins C dx fs'))):StX K H p nm v nx σ:=⟨p,C,dx,fs,rfl,hp,c,n,l,by rw [e]; exact h⟩
theorem lt0:([]:List (Str × V)).length < 1000:=by show 0 < 1000; decide
theorem lt1 {a:Str × V}:[a].length < 1000:=by show 1 < 1000; decide
theorem lt2 {a b:Str × V}:[a,b].length < 1000:=by show 2 < 1000; decide
theorem lt3 {a b c:Str × V}:[a,b,c].length < 1000:=by show 3 < 1000; decide
theorem lt4 {a b c d:Str × V}:[a,b,c,d].length < 1000:=by show 4 < 1000; decide
theorem lt5 {a b c d e:Str × V}:[a,b,c,d,e].length < 1000:=by show 5 < 1000; decide
theorem lt6 {a b c d e f:Str × V}:[a,b,c,d,e,f].length < 1000:=by show 6 < 1000; decide
theorem yxx:∀ {fs:List (Str × V)},nm∉fs.map (·.1)->fs.lookup nm=none
 | [],_=>rfl
 | (g,v) :: r,h=>xb (fun e=>h (by rw [e]; exact List.mem_cons_self)) (yxx fun m=>h (List.mem_cons_of_mem _ m))
theorem mtX {R:Prop} {N:List Str} (hp:H p=some (.ins C dx fs)) (k:fs.map (·.1)=N) (n:nm∉N) (h:R):MtX H p C nm R:=⟨p,dx,fs,rfl,hp,yxx (by rw [k]; exact n),h⟩
theorem xc {N P:List Str} {sc:Scope} (h:(sc.kind=.function/\sc.isCoroutine=false/\sc.isGenerator=false)/\N.Nodup/\N.take P.length=P/\(∀ x∈P,sc.names.lookup x=some .local\/sc.names.lookup x=some .cell)/\∀ y∈sc.names,y.2≠.free):yo N P sc:=⟨h.1.1,h.1.2.1,h.1.2.2,h.2.1,h.2.2.1,h.2.2.2.1,h.2.2.2.2⟩
end
section
variable {prog:Program} {w:World} {A:Around} {s:Shared} {od:Obj} {es:Array DictEntry} {ep:Nat}
theorem yie (hne:(d == sysModules)=false) (h0:s.heap.get? d=some od) (hx:od.ExactDict)
  (k:Q (.ref s.heap.objs.size) { s with heap:=s.heap.push { cls:=.type "dict_items",data:=.fields #[.ref d] } }):wpAny (model prog w) A (call (.builtin "dict.items") [.ref d]) Q E s:=by
 have a:s.TypeIs (.ref d) "dict":=⟨od,h0,hx.1⟩
 refine wpAny_call_entry F.slot_dict_items a F.entry_dict_items ?_ (F.args_dict_items_1 _)
 unfold Builtin.«dict.items» Builtin.Dict.noArgs
 refine wpAny_bind (wpAny_bind (wpAny_notOrdered_dict a ?_)); show wpAny _ _ (pure d) _ _ s
 refine wpAny_pure ?_; show wpAny _ _ (Builtin.Dict.showsAll d >>= _) _ _ s
 unfold Builtin.Dict.showsAll; rw [if_neg (by rw [hne]; decide)]
 exact wpAny_bind (wpAny_pure (wpAny_bind (wpAny_newObj_type (wpAny_pure ⟨_,rfl,k⟩))))
theorem yir {v:Addr} (hv:s.heap.IsItemsView v d) (h0:s.heap.get? d=some od) (hd:od.data=.dict es ep)
  (k:Q (.ref s.heap.objs.size) { s with heap:=s.heap.push { cls:=.type "dict_itemiterator",data:=.fields #[.none,.bool false,.ref d,.int 0 0,.int es.size 0,.int ep 0,.none,.none] } }):wpAny (model prog w) A (pyIter (.ref v)) Q E s:=by
 obtain ⟨c,b,e,a⟩:=id hv
 refine wpAny_pyIter_slot hv.typeIs F.slot_dict_items_iter (wpAny_call_entry F.slot_dict_items_iter hv.typeIs F.entry_dict_items_iter ?_ (F.args_dict_items_iter_1 _))
 unfold Builtin.«dict_items.__iter__» Builtin.Dict_items.dictOf Builtin.Dict_items.newIterator
 refine wpAny_bind (wpAny_pure (wpAny_bind (wpAny_bind (wpAny_field b a (x:=.ref d) rfl (wpAny_pure (wpAny_bind (wpAny_bind (wpAny_dictEntries h0 hd (wpAny_bind (wpAny_dictEpoch h0 hd ?_)))))))))); simp only [show Builtin.Dict_items.ownsTuple "dict_itemiterator"=true by decide,if_true]
 refine wpAny_newObj_type (wpAny_pure ⟨_,rfl,"dict_itemiterator",_,⟨_,Heap.get?_push_size _ rfl,rfl⟩,F.slot_dict_itemiterator_next.lookup,?_⟩) (by simp only [sizeOk,Builtin.Dict_items.ownedTupleFields,List.size_toArray,List.length_append,List.length_cons,List.length_nil,sizeLine_eq]; omega)
 simpa [rawInt,Builtin.Dict_items.ownedTupleFields] using k
theorem yiu {ok:Value} {Q:Option Value->Shared->Prop} (hi:IsItemIter s.heap it d i es.size ep ok ov) (h0:s.heap.get? d=some od) (hd:od.data=.dict es ep) (hlt:i < es.size)
  (k:∀ h',IsItemIterOut h' it d (i+1) es.size ep es[i].key es[i].val s.heap.objs.size->h'.get? s.heap.objs.size=some { cls:=.type "tuple",data:=.seq #[es[i].key,es[i].val] }->(∀ b o,b≠it->s.heap.get? b=some o->h'.get? b=some o)->Q (some (.ref s.heap.objs.size)) { s with heap:=h' }) :
  wpAny (model prog w) A (pyNext (.ref it)) Q E s:=by
 obtain ⟨a,g,f,j,h⟩:=s
 have c:Shared.TypeIs ⟨a,g,f,j,h⟩ (.ref it) "dict_itemiterator":=⟨_,hi,rfl⟩
 have K:it < a.objs.size:=Heap.lt_size hi
 have J:a.objs.size≠it:=Nat.ne_of_gt K
 unfold pyNext
 refine wpAny_bind (wpAny_attempt (wpAny_callSpecial?_slot (name:=Str.ofString "__next__") c F.slot_dict_itemiterator_next (wpAny_call_entry F.slot_dict_itemiterator_next c F.entry_dict_itemiterator_next ?_ (F.args_dict_itemiterator_next_1 _))))
 refine wpAny_bind (wpAny_pure (wpAny_bind (wpAny_bind ?_)))
 first | refine wpAny_bind (wpAny_typeNameOfWhole_itemiter c (wpAny_pure ?_)) | refine wpAny_bind (wpAny_typeNameOf_itemiter c (wpAny_pure ?_))
 refine wpAny_bind (wpAny_fieldsOf hi rfl ?_); simp only [show Builtin.Dict_items.ownsTuple "dict_itemiterator"=true by decide,if_true]
 show wpAny _ _ (if (Value.ref d == Value.none)=true then _ else _) _ _ _; rw [if_neg (show ¬ (Value.ref d == Value.none)=true from Bool.false_ne_true)]
 refine wpAny_bind (wpAny_pure (wpAny_bind (wpAny_dictEntries h0 hd ?_))); rw [if_neg (by simp)]
 refine wpAny_bind (wpAny_pure (wpAny_bind (wpAny_dictEpoch h0 hd ?_))); rw [if_neg (by simp)]
 refine wpAny_pure ?_
 simp only [show ¬ ((i:Int) < 0) by omega,if_false,Int.toNat_natCast,Array.getElem?_eq_getElem hlt]
 refine wpAny_bind ?_
 first | refine wpAny_bind (wpAny_typeNameOfWhole_itemiter c (wpAny_pure ?_)) | refine wpAny_bind (wpAny_typeNameOf_itemiter c (wpAny_pure ?_))
 refine wpAny_bind (wpAny_isOneOf_itemiter c ?_)
 show wpAny _ _ (setField (.ref it) 3 (rawInt ((i:Int)+1)) >>= _) _ _ ⟨a,g,f,j,h⟩
 refine wpAny_bind (wpAny_setField_rec hi (by simp) fun g1 p l=>?_)
 replace l:Heap.SameBut it a g1:=l
 replace p:IsItemIter g1 it d (i+1) es.size ep ok ov:=by unfold IsItemIter; rw [show ((i+1:Nat):Int)=(i:Int)+1 by omega]; simpa [rawInt] using p
 have t:Shared.TypeIs ⟨g1,g,f,j,h⟩ (.ref it) "dict_itemiterator":=⟨_,p,rfl⟩
 refine wpAny_bind (wpAny_holding (wpAny_bind (wpAny_isOneOf_itemiter t (wpAny_bind (wpAny_isOneOf_itemiter t ?_)))))
 show wpAny _ _ (Builtin.Dict_items.pairFromOwner (.ref it) 6 es[i].key es[i].val) _ _ ⟨g1,g,f,j,h⟩
 unfold Builtin.Dict_items.pairFromOwner
 refine wpAny_bind (wpAny_newTuple ?_)
 have m:IsItemIter (g1.push { cls:=.type "tuple",data:=.seq #[es[i].key,es[i].val] }) it d (i+1) es.size ep ok ov:=Heap.get?_push_of_some _ p
 generalize v:g1.push { cls:=.type "tuple",data:=.seq #[es[i].key,es[i].val] }=g2 at m
 have G:g1.objs.size=a.objs.size:=l.1
 have I:g2.get? a.objs.size=some { cls:=.type "tuple",data:=.seq #[es[i].key,es[i].val] }:=by rw [<- v,<- G]; exact Heap.get?_push_size _ rfl
 have M:∀ b o,b≠it->a.get? b=some o->g2.get? b=some o:=fun b o L e=>by rw [<- v]; exact Heap.get?_push_of_some _ (l.extBut b o L e)
 show wpAny _ _ (Builtin.Dict_items.ownedTupleIsFree (.ref it) >>= _) _ _ ⟨g2,g,f,j,h⟩; rw [G]
 clear v p l t G g1
 unfold Builtin.Dict_items.ownedTupleIsFree
 refine wpAny_bind (wpAny_bind (wpAny_field m rfl (x:=.none) rfl (wpAny_pure ?_))); simp only [if_true]
 refine wpAny_bind (wpAny_field m rfl (x:=ok) rfl (wpAny_bind (wpAny_field m rfl (x:=ov) rfl ?_)))
 refine wpAny_bind (wpAny_setField_rec m (by simp) fun g3 z D=>?_)
 replace D:Heap.SameBut it g2 g3:=D
 replace z:IsItemIter g3 it d (i+1) es.size ep es[i].key ov:=z
 refine wpAny_bind (wpAny_setField_rec z (by simp) fun g4 r y=>?_)
 replace y:Heap.SameBut it g3 g4:=y
 replace r:IsItemIter g4 it d (i+1) es.size ep es[i].key es[i].val:=r
 refine wpAny_bind (wpAny_setField_rec r (by simp) fun g5 q u=>?_)
 replace u:Heap.SameBut it g4 g5:=u
 replace q:IsItemIterOut g5 it d (i+1) es.size ep es[i].key es[i].val a.objs.size:=q
 refine wpAny_bind (wpAny_setField_rec q (by simp) fun g6 C B=>?_)
 replace B:Heap.SameBut it g5 g6:=B
 replace C:IsItemIterOut g6 it d (i+1) es.size ep es[i].key es[i].val a.objs.size:=C
 have H:∀ b o,b≠it->g2.get? b=some o->g6.get? b=some o:=fun b o n e=>B.extBut b o n (u.extBut b o n (y.extBut b o n (D.extBut b o n e)))
 exact wpAny_bind (wpAny_letGo (wpAny_pure (wpAny_pure ⟨_,rfl,wpAny_pure (k g6 C (H _ _ J I) fun b o n e=>H b o n (M b o n e))⟩)))
theorem yjf {ok:Value} {Q:Option Value->Shared->Prop} (hh:A.handled=none) (hi:IsItemIter s.heap it d i es.size ep ok ov) (h0:s.heap.get? d=some od) (hd:od.data=.dict es ep) (hge:es.size <= i)
  (k:∀ h',Heap.ExtBut it s.heap h'->Q none { s with heap:=h' }):wpAny (model prog w) A (pyNext (.ref it)) Q E s:=by
 have c:s.TypeIs (.ref it) "dict_itemiterator":=⟨_,hi,rfl⟩
 unfold pyNext
 refine wpAny_bind (wpAny_attempt (wpAny_callSpecial?_slot (name:=Str.ofString "__next__") c F.slot_dict_itemiterator_next (wpAny_call_entry F.slot_dict_itemiterator_next c F.entry_dict_itemiterator_next ?_ (F.args_dict_itemiterator_next_1 _))))
 refine wpAny_bind (wpAny_pure (wpAny_bind (wpAny_bind ?_)))
 first | refine wpAny_bind (wpAny_typeNameOfWhole_itemiter c (wpAny_pure ?_)) | refine wpAny_bind (wpAny_typeNameOf_itemiter c (wpAny_pure ?_))
 refine wpAny_bind (wpAny_fieldsOf hi rfl ?_); simp only [show Builtin.Dict_items.ownsTuple "dict_itemiterator"=true by decide,if_true]
 show wpAny _ _ (if (Value.ref d == Value.none)=true then _ else _) _ _ s; rw [if_neg (show ¬ (Value.ref d == Value.none)=true from Bool.false_ne_true)]
 refine wpAny_bind (wpAny_pure (wpAny_bind (wpAny_dictEntries h0 hd ?_))); rw [if_neg (by simp)]
 refine wpAny_bind (wpAny_pure (wpAny_bind (wpAny_dictEpoch h0 hd ?_))); rw [if_neg (by simp)]
 refine wpAny_pure ?_
 simp only [show ¬ ((i:Int) < 0) by omega,if_false,Int.toNat_natCast,Array.getElem?_eq_none hge]
 refine wpAny_bind ?_
 first | refine wpAny_bind (wpAny_typeNameOfWhole_itemiter c (wpAny_pure ?_)) | refine wpAny_bind (wpAny_typeNameOf_itemiter c (wpAny_pure ?_))
 show wpAny _ _ (setField (.ref it) 2 .none >>= _) _ _ s; refine wpAny_bind (wpAny_setField hi rfl (by simp) ?_)
 show wpAny _ _ (newExc (.type "StopIteration") [] >>= _) _ _ _; refine wpAny_bind ?_
 simp only [newExc,newTuple]; refine wpAny_bind (wpAny_newObj_type ?_ (by size_fits))
 refine wpAny_bind (m:=firstArgMember _ _) (wpAny_of_eq (a:=Value.none) (by first | rfl | (simp only [firstArgMember]; rfl)) (wpAny_newObj_type ?_ (by size_fits)))
 simp only [raiseNew]; refine wpAny_bind (wpAny_handled ?_)
 rw [show A.in1.handled=none from hh]; refine wpAny_bind (wpAny_pure (wpAny_throw ?_))
 exact wpAny_bind (wpAny_isInstance (T:="StopIteration") (b:=true) ⟨_,Heap.get?_push_size _ rfl,rfl⟩ isSubtype_stop (wpAny_pure (k _ (((Heap.SameBut.update ..).extBut.push _).push _))))
theorem yij {n:Nat} {ok:Value} (hi:IsItemIter s.heap it d i n ep ok ov) (k:Q (.ref it) s):wpAny (model prog w) A (pyIter (.ref it)) Q E s:=by
 have a:s.TypeIs (.ref it) "dict_itemiterator":=⟨_,hi,rfl⟩
 refine wpAny_pyIter_slot a F.slot_dict_itemiterator_iter (wpAny_call_entry F.slot_dict_itemiterator_iter a (show entryFor table "dict_itemiterator.__iter__"=some Builtin.«dict_keyiterator.__iter__» from entryFor_alias (id':="dict_keyiterator.__iter__") (by kernel_rfl) rfl (by decide +kernel) (by kernel_rfl)) ?_ (F.args_dict_itemiterator_iter_1 _)); show wpAny _ _ (ret (.ref it)) _ _ s
 exact wpAny_pure ⟨_,rfl,"dict_itemiterator",_,a,F.slot_dict_itemiterator_next.lookup,k⟩
end
theorem Inv.freeze {X:Cx} {σ:St} {H:Hp} {s:Shared} {u:HO} {o:Obj} (I:Inv X pins σ H s) (hd:H d=some u) (mu:Mut (some u)) (ho:s.heap.get? d=some o):Inv X pins σ (upd H d (.frz o u)) s:=by
 have h:∀ {b},H b=none->b≠d:=fun n z=>by rw [z,hd] at n; cases n
 have a:∀ {b v},H b=some v->¬ Mut (some v)->b≠d:=fun e n z=>by rw [z,hd] at e; cases e; exact n mu
 refine ⟨I.ok,I.os,I.bare,⟨I.base.keep,I.base.slot,fun b i e n w=>?_,I.base.there,fun b l e=>?_,fun b i v e=>?_,fun b r e=>?_⟩,I.loc,I.cell,?_,fun x c e=>?_,fun p A=>?_,fun b v e=>?_,I.len⟩
 ·have z:=I.base.free b i e n w; rw [ym (h z)]; exact z
 ·have z:=I.base.tups b l e; rw [ym (a z id)]; exact z
 ·have z:=I.base.frzs b i v e; rw [ym (a z id)]; exact z
 ·obtain ⟨m,z⟩:=I.base.tbls b r e; exact ⟨m,by rw [ym (a z id)]; exact z⟩
 ·rw [ym (h I.free)]; exact I.free
 ·rw [ym (h (I.freeC x c e))]; exact I.freeC x c e
 ·obtain ⟨t,j,k⟩:=I.pin p A; exact ⟨t,by rw [ym (h j)]; exact j,k⟩
 ·have f:∀ {c y},H c=some (.own y)->upd H d (.frz o u) c=some (.own y):=fun q=>by rw [ym (a q id)]; exact q
  have g:∀ {c y},H c=some (.tup y)->upd H d (.frz o u) c=some (.tup y):=fun q=>by rw [ym (a q id)]; exact q
  by_cases hb:b=d
  ·subst hb; rw [yd] at e; cases e; exact ⟨ho,(I.hok b _ hd).stay (fun _ _ _ q=>q) (fun _ q=>f q) fun _ _ q=>g q⟩
  ·rw [ym hb] at e; exact (I.hok b v e).stay (fun _ _ _ q=>q) (fun _ q=>f q) fun _ _ q=>g q
theorem Inv.thaw {X:Cx} {σ:St} {H:Hp} {s:Shared} {u:HO} {o:Obj} (I:Inv X pins σ H s) (h0:∀ o u,X.H₀ d≠some (.frz o u)) (hd:H d=some (.frz o u)):Inv X pins σ (upd H d u) s:=by
 have g:∀ {b},H b=none->b≠d:=fun n z=>by rw [z,hd] at n; cases n
 refine ⟨I.ok,I.os,I.bare,⟨I.base.keep,I.base.slot,fun b h e n t=>?_,I.base.there,fun b k e=>?_,fun b h u e=>?_,fun b l e=>?_⟩,I.loc,I.cell,?_,fun x c e=>?_,fun p A=>?_,fun b v e=>?_,I.len⟩
 ·have z:=I.base.free b h e n t; rw [ym (g z)]; exact z
 ·have z:=I.base.tups b k e; rw [ym (x9 z hd (by intro w; cases w))]; exact z
 ·rw [ym (fun z=>h0 h u (by rw [<- z]; exact e))]; exact I.base.frzs b h u e
 ·obtain ⟨m,z⟩:=I.base.tbls b l e; exact ⟨m,by rw [ym (x9 z hd (by intro w; cases w))]; exact z⟩
 ·rw [ym (g I.free)]; exact I.free
 ·rw [ym (g (I.freeC x c e))]; exact I.freeC x c e
 ·obtain ⟨r,i,j⟩:=I.pin p A; exact ⟨r,by rw [ym (g i)]; exact i,j⟩
 ·have a:∀ {c y},H c=some (.own y)->upd H d u c=some (.own y):=fun q=>by rw [ym (x9 q hd (by intro w; cases w))]; exact q
  have f:∀ {c y},H c=some (.tup y)->upd H d u c=some (.tup y):=fun q=>by rw [ym (x9 q hd (by intro w; cases w))]; exact q
  by_cases hb:b=d
  ·subst hb; rw [yd] at e; cases e; exact (I.hok b _ hd).2.stay (fun _ _ _ q=>q) (fun _ q=>a q) fun _ _ q=>f q
  ·rw [ym hb] at e; exact (I.hok b v e).stay (fun _ _ _ q=>q) (fun _ q=>a q) fun _ _ q=>f q
def Iti (o:Obj) (d:Addr) (kvs:List (List Key × V)):It :=
 ⟨fun i H=>H d=some (.frz o (.dT kvs))/\i < kvs.length,
  fun i H x H'=>∃ t kt key v,x=.ref t/\H t=none/\H'=upd H t (.tup [.ref kt,v])/\kvs[i]?=some (key,v)/\H kt=some (.tup (key.map kV)),
  fun i H=>H d=some (.frz o (.dT kvs))/\kvs.length <= i⟩
theorem xn {α β:Type} {F:α->β->Prop}:∀ {l₁:List α} {l₂:List β},Paired F l₁ l₂->l₁.length=l₂.length
 | _,_,.nil=>rfl
 | _,_,.cons _ t=>congrArg (·+1) (xn t)
theorem ye8 {α β:Type} {F:α->β->Prop} {l₁:List α} {l₂:List β} (h:Paired F l₁ l₂):∀ {i:Nat} {y:β},l₂[i]?=some y->∃ x,l₁[i]?=some x/\F x y:=by
 induction h with
 | nil=>intro i y e; cases e
 | cons r t ih =>
  intro i y e
  cases i with
  | zero=>cases e; exact ⟨_,rfl,r⟩
  | succ j=>exact ih e
theorem yic {w:World} {K:W.Frag} {elts:List Expr} {x1} {tpos:Pos} {o:Obj} {es:Array DictEntry} {ep:Nat} {kvs:List (List Key × V)} (d it:Addr) (ho:o.data=.dict es ep) (hs:es.size=kvs.length) :
  ylq P w K (.Tuple elts x1 tpos) (Iti o d kvs) [it] it (fun i h=>∃ ok ov,IsItemIter h it d i es.size ep ok ov) where
 mem:=by simp
 obj:=fun i h l b g=>by
  have e:b=it:=by simpa using g
  subst e
  obtain ⟨_,_,e⟩:=l
  exact ⟨_,e,fun v z=>by cases z⟩
 keep:=fun i h h' ⟨ok,ov,l⟩ k=>⟨ok,ov,k it (by simp) _ l⟩
 item:=by
  intro X U O T hc i p s σ H E I A ⟨ok,ov,l⟩ ⟨Y,a⟩
  subst U O T
  obtain ⟨M,f1,f2,f3,f4,f5⟩:=A it (by simp)
  obtain ⟨N,_,_,L,x,o',a4,a5,D,_,C,Q,_⟩:=(show xa X.prog X.w H s.heap d (.frz o (.dT kvs)) from I.hok d _ Y)
  rw [N] at D; cases D; rw [ho] at C; cases C
  have hl:i < es.size:=by omega
  have he:es[i]=entryOfKey (tupleKind (xr X.prog X.w)) (L[i]'(by rw [<- (xn x)]; exact a)):=by
   have e1:es.toList[i]?=some es[i]:=by simp [hl]
   rw [Q,List.getElem?_map,List.getElem?_eq_getElem (by rw [<- (xn x)]; exact a)] at e1
   exact (Option.some.inj e1).symm
  obtain ⟨⟨G,v⟩,S,k1,Z,k3⟩:=ye8 x (List.getElem?_eq_getElem (by rw [<- (xn x)]; exact a))
  have m:es[i].key=.ref (L[i]'(by rw [<- (xn x)]; exact a)).2.1:=by rw [he]; rfl
  have F:es[i].val=(L[i]'(by rw [<- (xn x)]; exact a)).2.2:=by rw [he]; rfl
  rw [<- F] at k3
  generalize (L[i]'(by rw [<- (xn x)]; exact a)).2.1=y at m Z
  refine yiu l N ho hl fun h' a1 a2 hk=>⟨_,rfl,wpAny_letOwnedTupleGo_items a1 fun r b1 b2=>?_⟩
  rw [m] at a2
  have j:H s.heap.objs.size=none:=I.hok.fresh (Nat.le_refl _)
  have lI:it < s.heap.objs.size:=Heap.lt_size l
  have keep:∀ b o,b≠it->s.heap.get? b=some o->r.get? b=some o:=fun b o n e=>(b2.2 b n).trans (hk b o n e)
  have B:r.get? s.heap.objs.size=some { cls:=.type "tuple",data:=.seq #[.ref y,es[i].val] }:=(b2.2 _ (Nat.ne_of_gt lI)).trans a2
  have a0:HOk X.prog X.w (upd H s.heap.objs.size (.tup [.ref y,v])) r:=fun b u e=>by
   by_cases g:b=s.heap.objs.size
   ·subst g
    rw [yd] at e
    cases e
    exact ⟨by show 2 <= sizeLine; decide,[.ref y,es[i].val],.cons rfl (.cons k3 .nil),⟨_,B,rfl,_,rfl⟩⟩
   ·rw [ym g] at e
    refine (I.hok b u e).stay (fun c z t q=>keep c z ?_ q) (fun c q=>by rw [ym (yc q j)]; exact q) fun c ys q=>by rw [ym (yc q j)]; exact q
    rcases t with rfl | t
    ·exact yc e M
    ·exact yc t M
  have un:Un (frs X.stack) [it] H (upd H s.heap.objs.size (.tup [.ref y,v])) s.heap r:=by
   have R:∀ {b z},b∉[it]->s.heap.get? b=some z->r.get? b=some z:=fun {b z} g e=>keep b z (fun q=>g (by simp [q])) e
   refine ⟨fun b z e n _ J=>R J e,fun b z e n _ J=>⟨z.slots,R J e⟩,fun b z e n _=>by rw [ym (Nat.ne_of_lt (Heap.lt_size e))]; exact n,fun b z e J=>⟨z,R J e⟩,fun b ys e=>by rw [ym (yc e j)]; exact e,fun b z u e=>by rw [ym (yc e j)]; exact e,fun b ps e=>⟨#[],by rw [ym (yc e j),e]; simp⟩⟩
  have I1:Inv X p σ (upd H s.heap.objs.size (.tup [.ref y,v])) { s with heap:=r }:=I.call' (s':={ s with heap:=r }) rfl un a0 I.bare fun b g=>by
   have f:=A b g
   exact ⟨f.2.2.2.1,f.2.1,f.2.2.2.2.1,f.2.2.2.2.2⟩
  refine ⟨.ref s.heap.objs.size,_,I1,rfl,⟨_,y,G,v,rfl,j,rfl,S,by rw [show G=_ from k1] at Z ⊢; exact Z⟩,⟨_,_,b1⟩,fun b g=>?_⟩
  rw [ym (fun q=>?_)]
  ·exact (A b g).1
  ·have e:b=it:=by simpa using g
   rw [e] at q
   exact absurd q (Nat.ne_of_lt lI)
 done:=by
  intro X U O T hc i p s σ H E I A ⟨ok,ov,l⟩ ⟨Y,a3⟩
  subst U O T
  obtain ⟨M,f1,f2,f3,f4,f5⟩:=A it (by simp)
  obtain ⟨N,_⟩:=(show xa X.prog X.w H s.heap d (.frz o (.dT kvs)) from I.hok d _ Y)
  exact yjf (I.ok.hd hc) l N ho (by omega) fun h' eb=>⟨rfl,I.turned (t':=s.toks) (fun b o g e=>eb b o g e) M f1 f3 f4 f5⟩
 self:=fun _ _ _ _ _ ⟨_,_,l⟩ h=>yij l h
section
variable {X:Cx}
def ynz (to:TE):TI:=fun σ H R=>to σ H fun x H1=>∃ d kvs,x=.ref d/\H1 d=some (.dT kvs)/\∀ o,R (Iti o d kvs) (upd H1 d (.frz o (.dT kvs)))
theorem yly {elts:List Expr} {x1} {tpos:Pos} {o:Expr} {to:TE} {apos cpos:Pos} (ho:PE X o to) (hbase:attributeBase o "items" X.env (eval o X.env)=eval o X.env:=by rfl) (hline:(apos.endLine == cpos.line)=true:=by rfl) :
  PI X (.Tuple elts x1 tpos) (.Call (.Attribute o "items" apos) [] [] cpos) (ynz to):=by
 intro i s σ H R I h
 refine wpAny_Call_method0_late hbase hline (thn (ho i s σ H _ I h) fun v j h'=>?_)
 obtain ⟨x,y,r,D,A⟩:=h'
 obtain ⟨d,c,rfl,u,q⟩:=A
 cases D
 obtain ⟨_,p,K,G,k,C,J,f,n,t,B,_⟩:=(show xa X.prog X.w y j.heap d (.dT c) from r.hok d _ u)
 refine ⟨"dict","dict.items",F.plainAttrs_dict,F.slot_dict_items,F.type_dict_items,⟨k,f,n.1⟩,fun a z=>by cases z; exact ⟨k,f,n.2.1⟩,Calls.callWith_builtin rfl (PySem.evalArgs_none (yie p f n ?_))⟩
 refine yir ⟨_,Heap.get?_push_size _ rfl,rfl,rfl⟩ (Heap.get?_push_of_some _ f) t ?_
 have l:=r.freeze u trivial f
 have m:C.size=c.length:=by rw [(xn G),<- Array.length_toList,B,List.length_map]
 refine ⟨_,[_],_,_,_,rfl,l.kept (t':=j.toks) fun b o e=>Heap.get?_push_of_some _ (Heap.get?_push_of_some _ e),yic d _ t m,⟨_,_,Heap.get?_push_size _ rfl⟩,fun b E=>?_,q k⟩
 have e:b=(j.heap.push { cls:=.type "dict_items",data:=.fields #[.ref d] }).objs.size:=by simpa using E
 have g:j.heap.objs.size <= b:=by rw [e,Heap.size_push]; omega
 exact l.fpOk g (l.hok.fresh g)
theorem ymc {to:TE} {σ:St} {H:Hp} {R:It->Hp->Prop} (h:to σ H fun x H1=>∃ d kvs,x=.ref d/\H1 d=some (.dT kvs)/\∀ o,R (Iti o d kvs) (upd H1 d (.frz o (.dT kvs)))):ynz to σ H R:=h
def yxz (H:Hp) (D:yb6):yb6:={ D with nx:=fun σ' H'=>∃ d o u,(∀ o u,H d≠some (.frz o u))/\H' d=some (.frz o u)/\D.nx σ' (upd H' d u) }
def yxs (t:TS):TS:=fun D σ H=>t (yxz H D) σ H
theorem yqk {st:Stmt} {t:TS} (h:PS X st t):PS X st (yxs t):=by
 refine .mk fun a s σ H D I q=>?_
 refine thn (h a s σ H _ I q) fun f j z=>?_
 cases f with
 | next =>
  obtain ⟨σ',i,J,d,o,g,b,c,k⟩:=z
  exact ⟨σ',_,J.thaw (fun o u e=>b o u (I.base.frzs d o u e)) c,k⟩
 | brk=>exact z
 | cont=>exact z
 | ret u=>exact z
theorem yve {t:TS} {D:yb6} {σ:St} {H:Hp} (h:t (yxz H D) σ H):yxs t D σ H:=h
end
theorem yjl {o:Obj} {kvs:List (List Key × V)} {g:TG} {tb:TS} {D:yb6} {σ:St} {H:Hp} (Pv:Nat->St->Hp->Prop) (h0:Pv 0 σ H) (hl:∀ i σ H,i <= kvs.length->Pv i σ H->H d=some (.frz o (.dT kvs)))
  (hs:∀ i key v σ H t kt,kvs[i]?=some (key,v)->Pv i σ H->H t=none->H kt=some (.tup (key.map kV))->g (.ref t) σ (upd H t (.tup [.ref kt,v])) fun σ2 H2=>tb { D with nx:=Pv (i+1),ct:=Pv (i+1),bk:=D.nx } σ2 H2) (hd:∀ σ H,Pv kvs.length σ H->D.nx σ H) :
  ∃ W:Nat->Nat->St->Hp->Prop,(∃ m,W 0 m σ H)/\∀ i m σ H,W i m σ H ->
   ((Iti o d kvs).stop i H/\D.nx σ H)\/((Iti o d kvs).go i H/\∃ N:St->Hp->Prop,(∀ σ' H',N σ' H'->∃ m',m' < m/\W (i+1) m' σ' H')/\∀ x H',(Iti o d kvs).yld i H x H'->g x σ H' fun σ2 H2=>tb { D with nx:=N,ct:=N,bk:=D.nx } σ2 H2):=by
 refine ⟨fun i m σ H=>m=kvs.length - i/\i <= kvs.length/\Pv i σ H,⟨kvs.length,by simp,Nat.zero_le _,h0⟩,?_⟩
 rintro i m σ H ⟨rfl,h,p⟩
 have q:=hl i σ H h p
 by_cases hlt:i < kvs.length
 ·refine .inr ⟨⟨q,hlt⟩,Pv (i+1),fun σ' H' f=>⟨kvs.length - (i+1),by omega,rfl,hlt,f⟩,fun x H' y=>?_⟩
  obtain ⟨t,kt,key,v,rfl,c,rfl,b,a⟩:=y
  exact hs i key v σ H t kt b p c a
 ·have e:i=kvs.length:=by omega
  subst e
  exact .inl ⟨⟨q,Nat.le_refl _⟩,hd σ H p⟩
def Its (x:Str):It:=⟨fun i _=>i < x.cps.size,fun i H v H'=>H'=H/\∃ c,x.cps[i]?=some c/\v=.str ⟨#[c]⟩,fun i _=>i=x.cps.size⟩
section
variable {X:Cx} {tg:Expr}
def vbh (tl:TE):TI:=fun σ H R=>tl σ H fun v H1=>∃ x,v=.str x/\R (Its x) H1
theorem ywj {tl:TE} {σ:St} {H:Hp} {R:It->Hp->Prop} (h:tl σ H fun v H1=>∃ x,v=.str x/\R (Its x) H1):vbh tl σ H R:=h
end
def Itk (o:Obj) (d:Addr) (kvs:List (Key × V)):It :=
 ⟨fun i H=>H d=some (.frz o (.dK kvs))/\i < kvs.length,fun i H x H'=>H'=H/\∃ k v,kvs[i]?=some (k,v)/\x=kV k,fun i H=>H d=some (.frz o (.dK kvs))/\kvs.length <= i⟩
def Itv (o:Obj) (d:Addr) (kvs:List (Key × V)):It :=
 ⟨fun i H=>H d=some (.frz o (.dK kvs))/\i < kvs.length,fun i H x H'=>H'=H/\∃ k,kvs[i]?=some (k,x),fun i H=>H d=some (.frz o (.dK kvs))/\kvs.length <= i⟩
theorem KV.get {kvs:List (Key × V)} {vs:List (Key × Value)} (r:KV kvs vs) {k:Key} {u:Value} (h:vs[i]?=some (k,u)):∃ v,kvs[i]?=some (k,v)/\wz v u:=by
 obtain ⟨⟨b,v⟩,e,a,c⟩:=ye8 r h
 have a:b=k:=a
 exact ⟨v,by rw [e,a],c⟩
section
variable {X:Cx} {tg:Expr}
def yyl (to:TE):TI:=fun σ H R=>to σ H fun x H1=>∃ d kvs,x=.ref d/\H1 d=some (.dK kvs)/\∀ o,R (Itk o d kvs) (upd H1 d (.frz o (.dK kvs)))
def yzy (to:TE):TI:=fun σ H R=>to σ H fun x H1=>∃ d kvs,x=.ref d/\H1 d=some (.dK kvs)/\∀ o,R (Itv o d kvs) (upd H1 d (.frz o (.dK kvs)))
theorem yrm {to:TE} {σ:St} {H:Hp} {R:It->Hp->Prop} (h:to σ H fun x H1=>∃ d kvs,x=.ref d/\H1 d=some (.dK kvs)/\∀ o,R (Itk o d kvs) (upd H1 d (.frz o (.dK kvs)))):yyl to σ H R:=h
theorem yq8 {to:TE} {σ:St} {H:Hp} {R:It->Hp->Prop} (h:to σ H fun x H1=>∃ d kvs,x=.ref d/\H1 d=some (.dK kvs)/\∀ o,R (Itv o d kvs) (upd H1 d (.frz o (.dK kvs)))):yzy to σ H R:=h
def ytv (t:TE):TE:=fun σ H Q=>t σ H fun v H'=>∃ d o u,(∀ o u,H d≠some (.frz o u))/\H' d=some (.frz o u)/\Q v (upd H' d u)
theorem yq5 {t:TE} {σ:St} {H:Hp} {Q:VK} (h:t σ H fun v H'=>∃ d o u,(∀ o u,H d≠some (.frz o u))/\H' d=some (.frz o u)/\Q v (upd H' d u)):ytv t σ H Q:=h
end
theorem yrf {σ:St} {H:Hp} {Q:VK} (h:∀ p,H p=none->Q (.ref p) (upd H p (.dK []))):ywo σ H Q:=h
theorem yrl {td ty:TE} {σ:St} {H:Hp} {Q:VK} (h:td σ H fun x H1=>∃ a,x=.ref a/\IsD H1 a/\ty σ H1 fun y H2=>∃ kvs k v,H2 a=some (.dK kvs)/\y=kV k/\jf kvs k=some v/\Q v (upd H2 a (.dK (ym9 kvs k)))):ywy td ty σ H Q:=h
section
variable {X:Cx}
def yta (p:Addr) (n:Nat) (h:Heap):Prop:=∃ o es ep t,h.get? p=some o/\o.ExactSet/\o.data=.set es ep t/\t.fits es.size=true/\es.size < scanBound/\es.size=n
theorem yta.st {p:Addr} {n:Nat} {h1 h2:Heap} (s:yta p n h1) (k:∀ o,h1.get? p=some o->h2.get? p=some o):yta p n h2:=by
 obtain ⟨o,a,b,t,e,r⟩:=s
 exact ⟨o,a,b,t,k _ e,r⟩
end
section
variable {prog:Program} {w:World}
def yap (prog:Program) (w:World) (h:Heap) (k:Int × List Int) (a:Addr):Prop :=
 ∃ o n t b,h.get? a=some o/\o.cls=.type "tuple"/\o.data=.seq #[.int k.1 t,.ref b] n/\IsTupleKey (intKind prog w) h k.2 b
def yyi (k:Int × List Int):Int:=reduceHash (Builtin.Tuple.tupleHashOf [hashInt k.1,reduceHash (Builtin.Tuple.tupleHashOf (k.2.map hashInt))])
theorem yap.typeIs {s:Shared} {k:Int × List Int} (x:yap prog w s.heap k a):s.TypeIs (.ref a) "tuple":=let ⟨o,_,_,_,ho,hc,_⟩:=x; ⟨o,ho,hc⟩
theorem yap.inj {h:Heap} {x y:Int × List Int} (hx:yap prog w h x a) (hy:yap prog w h y a):x=y:=by
 obtain ⟨o,n,t,b,k,_,i,j⟩:=hx
 obtain ⟨g,l,p,m,d,_,c,e⟩:=hy
 obtain rfl:o=g:=Option.some.inj (k.symm.trans d)
 rw [i] at c
 injection c with h1 _
 have f:=congrArg Array.toList h1
 injection f with h3 h4
 injection h4 with h5 _
 injection h3 with h3 _
 injection h5 with h5
 subst h5
 exact Prod.ext h3 (j.inj e)
theorem yap.keeps {h h':Heap} {k:Int × List Int} {o:Obj} {es ep} (x:yap prog w h k a) (ho:h.get? d=some o) (hd:o.data=.dict es ep) (hs:Heap.SameBut d h h'):yap prog w h' k a:=by
 obtain ⟨g,n,t,b,e,j,c,i⟩:=x
 have f:a≠d:=by
  rintro rfl
  obtain rfl:g=o:=Option.some.inj (e.symm.trans ho)
  rw [hd] at c; exact nomatch c
 exact ⟨g,n,t,b,(hs.2 a f).trans e,j,c,i.keeps ho hd hs⟩
variable {A:Around} {s:Shared}
end
abbrev NX:=(Int × List Int) × Addr × Addr
def vbf (x:NX):DictEntry:=⟨yyi x.1,.ref x.2.1,.ref x.2.2⟩
def ND (a:Addr) (xs:List NX):HO:=.ext fun h=>(a == sysModules)=false/\∃ o es ep,h.get? a=some o/\o.ExactDict/\o.data=.dict es ep/\es.toList=xs.map vbf
def NKy (H:Hp) (p:Addr) (k:Int × List Int):Prop:=∃ b,H p=some (.tup [.int k.1,.ref b])/\H b=some (.tup (k.2.map V.int))
structure NDt (H:Hp) (a:Addr) (xs:List NX):Prop where
 o:H a=some (ND a xs)
 k:∀ x∈xs,NKy H x.2.1 x.1
 n:(xs.map (·.1)).Nodup
 l:xs.length < sizeLine
def nAt (xs:List NX) (k:Int × List Int):Option Addr:=(xs.find? fun x=>decide (x.1=k)).map (·.2.2)
def yvu (td ty:TE):TE:=fun σ H Q=>td σ H fun x H1=>ty σ H1 fun y H2=>∃ a xs p k q,x=.ref a/\y=.ref p/\NDt H2 a xs/\NKy H2 p k/\nAt xs k=some q/\Q (.ref q) H2
def ywp (ty td:TE):TE:=fun σ H Q=>ty σ H fun y H1=>td σ H1 fun x H2=>∃ a xs p k,x=.ref a/\y=.ref p/\NDt H2 a xs/\NKy H2 p k/\Q (.bl (!(nAt xs k).isSome)) H2
def yxh (td ty tv:TE):TS:=fun D σ H=>tv σ H fun v H1=>td σ H1 fun x H2=>ty σ H2 fun y H3=>∃ a xs p k q,x=.ref a/\y=.ref p/\v=.ref q/\NDt H3 a xs/\NKy H3 p k/\nAt xs k=none/\D.nx σ (upd H3 a (ND a (xs++[(k,p,q)])))
def yvy:TE:=fun _ H Q=>∀ p,H p=none->Q (.ref p) (upd H p (ND p []))
section
variable {σ:St} {H:Hp} {Q:VK} {td ty tv:TE}
theorem yqq (h:td σ H fun x H1=>ty σ H1 fun y H2=>∃ a xs p k q,x=.ref a/\y=.ref p/\NDt H2 a xs/\NKy H2 p k/\nAt xs k=some q/\Q (.ref q) H2):yvu td ty σ H Q:=h
theorem yrd (h:ty σ H fun y H1=>td σ H1 fun x H2=>∃ a xs p k,x=.ref a/\y=.ref p/\NDt H2 a xs/\NKy H2 p k/\Q (.bl (!(nAt xs k).isSome)) H2):ywp ty td σ H Q:=h
theorem yqn {nx bk ct:St->Hp->Prop} {rt:VK} (h:tv σ H fun v H1=>td σ H1 fun x H2=>ty σ H2 fun y H3=>∃ a xs p k q,x=.ref a/\y=.ref p/\v=.ref q/\NDt H3 a xs/\NKy H3 p k/\nAt xs k=none/\nx σ (upd H3 a (ND a (xs++[(k,p,q)])))):yxh td ty tv ⟨nx,rt,bk,ct⟩ σ H:=h
theorem yqd (h:∀ p,H p=none->Q (.ref p) (upd H p (ND p []))):yvy σ H Q:=h
end
def yyb (i j k:Nat) (ta:TA):TS:=fun D σ H=>ta σ H fun vs H1=>∃ u v w,vs=[u,v,w]/\D.nx (((σ.set i (some u)).set j (some v)).set k (some w)) H1
section
variable {X:Cx} {pos:Pos}
theorem yvg {j k:Nat} {ta:TA} {σ:St} {H:Hp} {nx bk ct:St->Hp->Prop} {rt:VK} (h:ta σ H fun vs H1=>∃ u v w,vs=[u,v,w]/\nx (((σ.set i (some u)).set j (some v)).set k (some w)) H1):yyb i j k ta ⟨nx,rt,bk,ct⟩ σ H:=h
end
def yqw:V->List V->Hp->VK->Prop:=fun x vs H Q=>∃ l xs y,∃ i:Nat,x=.ref l/\vs=[.int i,y]/\H l=some (.lst xs)/\i <= xs.length/\xs.length < 1000000/\Q .non (upd H l (.lst (xs.take i++y :: xs.drop i)))
theorem yew {X:Cx}:MtM X "list.insert" yqw:=by
 intro c s σ H x u v C Q I k m h
 obtain ⟨l,w,y,i,rfl,rfl,j,B,A,q⟩:=h
 cases k
 cases m with
 | cons r1 rr =>
  cases rr with
  | cons r2 rn =>
   cases rn
   obtain ⟨t,rfl⟩:=r1
   rename_i u2
   obtain ⟨z,a,n,r,o,e⟩:=I.lstM j
   have d:(-(2 ^ 63):Int) <= (i:Int):=Int.le_trans (by decide) (Int.natCast_nonneg i)
   have g:(i:Int) < 2 ^ 63:=Int.lt_of_lt_of_le (show (i:Int) < 1000001 by omega) (by decide)
   have f:(if (i:Int) < 0 then ((i:Int)+(a.toArray.size:Int)).toNat else min (i:Int).toNat a.toArray.size)=i:=by
    rw [if_neg (by omega),List.size_toArray,<- o]
    omega
   generalize (i:Int)=x at d g f ⊢
   have p:=fitsIndex_both d g
   have b:a.toArray.size <= sizeLine:=by rw [List.size_toArray]; omega
   refine call_meets PySem.F.slot_list_insert ⟨_,e,rfl⟩ PySem.F.entry_list_insert (PySem.F.args_list_insert_3 _ _ _) (PySem.AutoSeq1.list_insert_list_int_val_1 l a.toArray n x t u2 (by rw [p]; exact fun z=>nomatch z) b) ⟨e,?_⟩
   refine ⟨.non,_,I.lset (its':=a.take i++u2 :: a.drop i) j e ?_ ((r.take i).append (.cons r2 (r.drop i))) ?_,rfl,q⟩
   ·show (a.toArray.extract 0 (if x < 0 then (x+(a.toArray.size:Int)).toNat else min x.toNat a.toArray.size)).push u2++a.toArray.extract (if x < 0 then (x+(a.toArray.size:Int)).toNat else min x.toNat a.toArray.size)=_
    rw [f]
    apply Array.ext'
    rw [Array.toList_append,Array.toList_push,Array.toList_extract,Array.toList_extract]
    show (List.take (i - 0) (List.drop 0 a))++[u2]++List.take (a.toArray.size - i) (List.drop i a)=_
    rw [Nat.sub_zero,List.drop_zero,List.size_toArray,List.take_of_length_le (l:=List.drop i a) (by rw [List.length_drop]; exact Nat.le_refl _),List.append_assoc]
    rfl
   ·rw [List.length_append,List.length_take,List.length_cons,List.length_drop,sizeLine_eq]
    omega
theorem yup {X:Cx} {K:W.Frag} {o e:Expr} {es:List Expr} {to:TE} {t:TA} {name:Str} {apos cpos:Pos} {T id:String} {r:V->List V->Hp->VK->Prop} (hK:X.K=K) (pa:PlainAttrs T) (slot:Slot T name id) (hty:typeOf (.builtin id)=pure (.type "method_descriptor")) (hm:MtR X id r) (ho:PE X o to) (ha:PA X (e :: es) t)
  (hbase:attributeBase o name X.env (eval o X.env)=eval o X.env:=by rfl)
  (hfew:((backTo cpos (starEach (e :: es) X.env)).all (fun x=>!x.1) && (backToKw cpos (keywordEach [] X.env)).all (fun x=>x.1.isSome)
   && decide ((e :: es).length+([]:List Keyword).length+(if ([]:List Keyword).isEmpty then 0 else 1) < 30))=true:=by rfl)
  (hline:(apos.endLine == cpos.line)=true:=by rfl) (hs:starEach (e :: es) X.env=(false,eval e X.env) :: starEach es X.env:=by rfl) (hplain:(backTo cpos (starEach es X.env)).any (·.1)=false:=by rfl) :
  PE X (.Call (.Attribute o name apos) (e :: es) [] cpos) (tBM K T r to t):=hK ▸ yb4 pa slot hty hm ho ha hbase hfew hline hs hplain
end L2
namespace MixI
def giv (c b:Int):Int:=if b=1 then c else 16777216 - c
def ym8 (x:Int):Nat:=if x == 0 then 0 else x.natAbs.log2+1
def shL (ws cs:List Int) (b:Int):List Int:=List.zipWith (fun w c=>w * giv c b) ws cs
def grL (sh:List Int):List Int:=sh.map fun s=>31 * (sh.length:Int) * s+sh.sum
def tOf (s:Int):Nat:=ym8 s - 48
def lrn (ws cs:List Int) (b:Int):List Int:=(grL (shL ws cs b)).map fun v=>v / 2 ^ tOf (grL (shL ws cs b)).sum
def vau (ws cs:List Int):Int:=(List.zipWith (fun w c=>w * c) ws cs).sum
def ylw (ws cs:List Int):Int:=vau ws cs / ws.sum
structure WOk (k:Nat) (ws:List Int):Prop where
 len:ws.length=k
 one:∀ w∈ws,1 <= w
 top:∀ w∈ws,w < 281474976710656
structure COk (k:Nat) (cs:List Int):Prop where
 len:cs.length=k
 lo:∀ c∈cs,32768 <= c
 hi:∀ c∈cs,c <= 16744448
theorem ykz {c b:Int} (h1:32768 <= c) (h2:c <= 16744448):32768 <= giv c b:=by unfold giv; split <;> omega
theorem yo9 {c b:Int} (h1:32768 <= c) (h2:c <= 16744448):giv c b <= 16744448:=by unfold giv; split <;> omega
theorem ygj {ws cs:List Int} {b:Int} (h:ws.length=cs.length):(shL ws cs b).length=ws.length:=by
 unfold shL; rw [List.length_zipWith,<- h]; omega
theorem yj7 {sh:List Int}:(grL sh).length=sh.length:=by unfold grL; rw [List.length_map]
theorem ypy {k:Nat} {ws cs:List Int} {b:Int} (hw:WOk k ws) (hc:COk k cs):(lrn ws cs b).length=k:=by
 unfold lrn; rw [List.length_map,yj7,ygj (by rw [hw.len,hc.len]),hw.len]
theorem yco (m d:Int):∀ sh:List Int,(sh.map fun s=>m * s+d).sum=m * sh.sum+sh.length * d
 | []=>by simp
 | s :: r=>by
  simp only [List.map_cons,List.sum_cons,yco m d r,List.length_cons,Int.natCast_add,Int.natCast_one,Int.mul_add,Int.add_mul]
  omega
theorem yqh (sh:List Int):(grL sh).sum=32 * (sh.length:Int) * sh.sum:=by
 unfold grL
 rw [yco,Int.mul_assoc,Int.mul_assoc]
 generalize (sh.length:Int) * sh.sum=x
 omega
theorem yku:∀ {l:List Int},(∀ x∈l,0 <= x)->0 <= l.sum
 | [],_=>by simp
 | a :: r,h=>by
  have d:=h a (by simp)
  have c:=yku (l:=r) fun x b=>h x (by simp [b])
  rw [List.sum_cons]; omega
theorem yo6:∀ {l:List Int} {y:Int},(∀ x∈l,0 <= x)->y∈l->y <= l.sum
 | a :: r,y,h,hy=>by
  have f:=h a (by simp)
  have b:∀ x∈r,0 <= x:=fun x c=>h x (by simp [c])
  have d:=yku b
  rw [List.sum_cons]
  rcases List.mem_cons.mp hy with e | hy
  ·omega
  ·have:=yo6 b hy; omega
theorem yk0 {c:Int}:∀ {l:List Int},(∀ x∈l,c <= x)->c * l.length <= l.sum
 | [],_=>by simp
 | a :: r,h=>by
  have e:=h a (by simp)
  have d:=yk0 (l:=r) fun x b=>h x (by simp [b])
  rw [List.sum_cons,List.length_cons,Int.natCast_add,Int.natCast_one,Int.mul_add]; omega
theorem yor {c:Int}:∀ {l:List Int},(∀ x∈l,x <= c)->l.sum <= c * l.length
 | [],_=>by simp
 | a :: r,h=>by
  have e:=h a (by simp)
  have d:=yor (l:=r) fun x b=>h x (by simp [b])
  rw [List.sum_cons,List.length_cons,Int.natCast_add,Int.natCast_one,Int.mul_add]; omega
theorem yoe {f:Int->Int} {m:Int}:∀ {ws cs:List Int},ws.length=cs.length->(∀ w∈ws,0 <= w)->(∀ c∈cs,m <= f c)->m * ws.sum <= (List.zipWith (fun w c=>w * f c) ws cs).sum
 | [],[],_,_,_=>by simp
 | w :: r,c :: t,h,h1,h2=>by
  have i:=yoe (f:=f) (m:=m) (ws:=r) (cs:=t) (by simpa using h) (fun x b=>h1 x (by simp [b])) fun x b=>h2 x (by simp [b])
  have a:=Int.mul_le_mul_of_nonneg_left (h2 c (by simp)) (h1 w (by simp))
  rw [List.zipWith_cons_cons,List.sum_cons,List.sum_cons,Int.mul_add,Int.mul_comm m w]; omega
theorem yn2 {f:Int->Int} {m:Int}:∀ {ws cs:List Int},ws.length=cs.length->(∀ w∈ws,0 <= w)->(∀ c∈cs,f c <= m)->(List.zipWith (fun w c=>w * f c) ws cs).sum <= m * ws.sum
 | [],[],_,_,_=>by simp
 | w :: r,c :: t,h,h1,h2=>by
  have i:=yn2 (f:=f) (m:=m) (ws:=r) (cs:=t) (by simpa using h) (fun x b=>h1 x (by simp [b])) fun x b=>h2 x (by simp [b])
  have a:=Int.mul_le_mul_of_nonneg_left (h2 c (by simp)) (h1 w (by simp))
  rw [List.zipWith_cons_cons,List.sum_cons,List.sum_cons,Int.mul_add,Int.mul_comm m w]; omega
theorem WOk.pos {k:Nat} {ws:List Int} (h:WOk k ws) (hk:1 <= k):1 <= ws.sum:=by
 have:=yk0 (c:=1) h.one
 rw [h.len] at this; omega
theorem WOk.small {k:Nat} {ws:List Int} (h:WOk k ws) (hk:k <= 6):ws.sum <= 1688849860263936:=by
 have:=yor (c:=281474976710656) fun x a=>Int.le_of_lt (h.top x a)
 rw [h.len] at this; omega
theorem yt5 {k:Nat} {ws cs:List Int} (hk:1 <= k) (hw:WOk k ws) (hc:COk k cs):32768 <= ylw ws cs/\ylw ws cs <= 16744448:=by
 have e:ws.length=cs.length:=by rw [hw.len,hc.len]
 have d:∀ w∈ws,0 <= w:=fun w h=>by have:=hw.one w h; omega
 have p:=hw.pos hk
 have a:=yoe (f:=fun c=>c) e d hc.lo
 have b:=yn2 (f:=fun c=>c) e d hc.hi
 unfold ylw vau
 exact ⟨(Int.le_ediv_iff_mul_le (by omega)).mpr a,Int.le_of_lt_add_one ((Int.ediv_lt_iff_lt_mul (by omega)).mpr (by rw [Int.add_mul]; omega))⟩
theorem yg9 (t:Nat):(2:Int) ^ t=((2 ^ t:Nat):Int):=by rw [Int.natCast_pow]; rfl
theorem yp0 (t:Nat):(0:Int) < 2 ^ t:=by rw [yg9]; exact Int.natCast_pos.mpr (Nat.pow_pos (by decide))
theorem yv7 {s:Int} (h:1 <= s):s < 281474976710656 * 2 ^ tOf s/\(tOf s=0\/140737488355328 * 2 ^ tOf s <= s):=by
 have f:s.natAbs≠0:=by omega
 have e:(s.natAbs:Int)=s:=by omega
 have a:=Nat.log2_self_le f
 have b:=@Nat.lt_log2_self s.natAbs
 unfold tOf ym8
 rw [if_neg (by simp; omega)]
 generalize s.natAbs.log2=L at a b ⊢
 rcases Nat.lt_or_ge L 48 with q | q
 ·have z:L+1 - 48=0:=by omega
  rw [z]
  refine ⟨?_,.inl rfl⟩
  have:2 ^ (L+1) <= 2 ^ 48:=Nat.pow_le_pow_right (by decide) (by omega)
  have c:(2:Nat) ^ 48=281474976710656:=by decide
  rw [c] at this
  rw [<- e,Int.pow_zero,Int.mul_one]
  omega
 ·obtain ⟨t,rfl⟩:∃ t,L=47+t:=⟨L - 47,by omega⟩
  have z:47+t+1 - 48=t:=by omega
  rw [z,yg9]
  have d:(2:Nat) ^ (47+t)=140737488355328 * 2 ^ t:=by rw [Nat.pow_add]
  have c:(2:Nat) ^ (47+t+1)=281474976710656 * 2 ^ t:=by rw [show 47+t+1=48+t by omega,Nat.pow_add]
  rw [d] at a
  rw [c] at b
  generalize 2 ^ t=T at a b ⊢
  exact ⟨by omega,.inr (by omega)⟩
section
variable {k:Nat} {ws cs:List Int} {b:Int}
theorem yqf (hw:WOk k ws) (hc:COk k cs):∀ s∈shL ws cs b,1 <= s:=by
 intro s a
 unfold shL at a
 rw [List.mem_iff_getElem] at a
 obtain ⟨i,d,rfl⟩:=a
 rw [List.length_zipWith] at d
 rw [List.getElem_zipWith]
 have e:=hw.one ws[i] (List.getElem_mem _)
 have c:=ykz (b:=b) (hc.lo cs[i] (List.getElem_mem _)) (hc.hi cs[i] (List.getElem_mem _))
 have:=Int.mul_le_mul e c (by decide) (by omega)
 omega
theorem yw6 {sh:List Int} (h:∀ s∈sh,1 <= s):∀ v∈grL sh,sh.sum <= v/\v <= (grL sh).sum/\0 <= v:=by
 have e:=yku (l:=sh) fun x d=>by have:=h x d; omega
 have a:∀ v∈grL sh,sh.sum <= v:=fun v a=>by
  unfold grL at a
  obtain ⟨s,c,rfl⟩:=List.mem_map.mp a
  have:=h s c
  have:0 <= 31 * (sh.length:Int) * s:=Int.mul_nonneg (Int.mul_nonneg (by decide) (Int.natCast_nonneg _)) (by omega)
  omega
 exact fun v b=>⟨a v b,yo6 (fun x d=>by have:=a x d; omega) b,by have:=a v b; omega⟩
theorem ytx (hk:1 <= k) (hk6:k <= 6) (hw:WOk k ws) (hc:COk k cs):WOk k (lrn ws cs b):=by
 have j:(shL ws cs b).length=k:=by rw [ygj (by rw [hw.len,hc.len]),hw.len]
 have i:=yqf (b:=b) hw hc
 have n:1 <= (shL ws cs b).sum:=by
  have:=yk0 (c:=1) i
  rw [j] at this; omega
 have g:=yw6 i
 have d:=yqh (shL ws cs b)
 rw [j] at d
 have p:1 <= (grL (shL ws cs b)).sum:=by
  rw [d]
  have:32 * (k:Int) * 1 <= 32 * (k:Int) * (shL ws cs b).sum:=Int.mul_le_mul_of_nonneg_left n (by omega)
  omega
 have m:(grL (shL ws cs b)).sum <= 192 * (shL ws cs b).sum:=by
  rw [d]; exact Int.mul_le_mul_of_nonneg_right (by omega) (by omega)
 obtain ⟨r,a⟩:=yv7 p
 have f:=yp0 (tOf (grL (shL ws cs b)).sum)
 refine ⟨ypy hw hc,fun w h=>?_,fun w h=>?_⟩
 ·obtain ⟨v,e,rfl⟩:=List.mem_map.mp h
  obtain ⟨o,l,q⟩:=g v e
  refine (Int.le_ediv_iff_mul_le f).mpr ?_
  rcases a with a | a
  ·rw [a,Int.pow_zero]; omega
  ·generalize (2:Int) ^ tOf (grL (shL ws cs b)).sum=T at *
   omega
 ·obtain ⟨v,e,rfl⟩:=List.mem_map.mp h
  obtain ⟨o,l,q⟩:=g v e
  exact (Int.ediv_lt_iff_lt_mul f).mpr (by omega)
theorem yjo {g:Int->Int->Int} {ws cs:List Int} (h:cs.length=ws.length):(List.range ws.length).map (fun i=>g ((ws[i]?).getD 0) ((cs[i]?).getD 0))=List.zipWith g ws cs:=by
 apply List.ext_getElem
 ·rw [List.length_map,List.length_range,List.length_zipWith]; omega
 ·intro i a b
  rw [List.length_map,List.length_range] at a
  rw [List.getElem_map,List.getElem_range,List.getElem_zipWith,List.getElem?_eq_getElem a,List.getElem?_eq_getElem (by omega)]
  rfl
end
end MixI
namespace Law
local macro_rules | `(tactic| rfl')=>`(tactic| walk_at "rd")
local macro_rules | `(tactic| right)=>`(tactic| decide +kernel)
open PySem L2
local macro_rules | `(tactic| exists $n:num,$s:str)=>do
 let ts<-((s.getString.splitOn " ").map fun x=>Lean.mkIdent (((if n.getNat<4 then `_root_.Law else `_root_.L2) ++ x.toName:Lean.Name))).toArray.mapM fun x=>match n.getNat%4 with
  | 0=>`(Lean.Parser.Tactic.tacticSeq| refine $x ?_)
  | 1=>`(Lean.Parser.Tactic.tacticSeq| (with_reducible refine' $x (by assumption) ?q ?_; (case q=>first | assumption | exact yd)))
  | 2=>`(Lean.Parser.Tactic.tacticSeq| (with_reducible refine' $x ?q ?_; (case q=>first | assumption | exact yd)))
  | _=>`(Lean.Parser.Tactic.tacticSeq| (with_reducible refine' $x ?q ?n ?_; (case q=>first | assumption | exact yd); (case n=>with_unfolding_all decide +kernel)))
 `(tactic| first $[| $ts:tacticSeq]*)
local macro_rules | `(tactic| exists $n:num,$m:num)=>do
 let xs:=Array.replicate n.getNat (<-`(some _))++Array.replicate m.getNat (<-`(none))
 `(tactic| (try dsimp only [wc]; refine yp (σ':=[$xs,*]) rfl ?_))
local macro_rules | `(tactic| left)=>let h:=Lean.mkIdent `h; `(tactic| first | (cases $h:ident; subst_vars; rfl) | repeat first | (obtain ⟨e,_⟩:=$h:ident; subst e; rfl) | obtain ⟨_,$h:ident⟩:=$h:ident)
local macro_rules | `(tactic| walk_at "side")=>`(tactic| first | exact ⟨by decide,by decide⟩ | (show (0:Int) < _; first | decide | omega) | exact Or.inl ⟨by omega,by omega⟩ | exact Or.inr ⟨by omega,by omega⟩ | exact ⟨by omega,by omega⟩ | exact ⟨by decide,by decide,by decide⟩)
local macro_rules | `(tactic| walk_at "len")=>`(tactic| first | decide | (simp only [List.length_cons,List.length_nil]; decide))
local macro_rules | `(tactic| walk_at "rd1")=>`(tactic| with_reducible first
 | exists 4,"yyc"
 | (refine' yth ?rdv ?_; (case rdv=>with_unfolding_all rfl))
 | exists 4,"i_c va9 vbe yw9 vbp vbv vbr yyn yzv yvo yva yt4 yrg ydu yri ypw yzu ywv yzb vbm yyr yzr ypr ywa yy2 ywt yzw vbc yzf yze yu3 yyz yzn yb0 yty yp2 vbn yya yyv yv0 vbt ym1 yvj yzm vbj i_U g0 g1 g2 g3 g4 g5 g6 g7 g8 g9 g10 g11 g12 g13 g14 g15 g16 g17 g18 g19 g20 g21 g22 g23 yp9 yvl ynn ylt yzc yyx yyj yp7 yt2 yqe ypm ypv yq4 yro ym0 yv4 yq2 yu1 yve yq5 ywj yrm yq8 yrf yrl ymc yvr yrk yqc yuk yp1 yqg yyq yl9 yw8 yq1 yqq yrd yqn yqd yvg yvq yqy"
 | (refine' yuy ?rdp ?rdq ?_; (case rdp=>with_unfolding_all exact ⟨by decide,by decide,by decide⟩); (case rdq=>with_unfolding_all decide))
 | (refine' yvz ?rdp ?rdq ?_; (case rdp=>with_unfolding_all exact ⟨by decide,by decide,by decide⟩); (case rdq=>with_unfolding_all decide))
 | exists 4,"ywq"
 | (refine i_I ?rdc ?_; (case rdc=>with_unfolding_all walk_at "side")))
local macro_rules | `(tactic| walk_at "rd")=>`(tactic| repeat walk_at "rd1")
variable {C D d dq e e0 p q:Addr} {O2 W':Addr->Prop} {ts:List Int} {M i j m':Nat} {tp:Nat->Addr} {O O':Nat->Addr->Prop} {tt:Nat->List Int} {R:Prop}
def top (i:Nat):Stmt:=PySem.Challenge.pw_foretell_k28_telling_refused.main.body.getD i (.Pass ⟨0,0,0,0⟩)
abbrev yz4:Stmt:=top 14
abbrev yz2:Stmt:=top 15
abbrev vag:Stmt:=top 16
abbrev yz6:Stmt:=top 17
abbrev vae:Stmt:=top 18
abbrev vai:Stmt:=top 19
abbrev vab:Stmt:=top 20
abbrev yz7:Stmt:=top 21
abbrev yz3:Stmt:=top 22
abbrev yr8:Stmt:=top 25
abbrev ysb:Stmt:=top 26
abbrev ytm:Stmt:=vo (top 31) 0
abbrev ytj:Stmt:=vo (top 31) 1
abbrev yr5:Stmt:=vo (top 31) 2
abbrev ysj:Stmt:=vo (top 31) 3
abbrev yss:Stmt:=vo (top 32) 0
abbrev ysn:Stmt:=vo (top 32) 1
abbrev ysw:Stmt:=vo (top 32) 2
abbrev yr2:Stmt:=vo (top 32) 3
abbrev yry:Stmt:=vo (top 33) 0
abbrev ysm:Stmt:=vo (top 33) 1
abbrev ytf:Stmt:=vo (top 33) 2
abbrev ysz:Stmt:=vo (top 33) 3
abbrev ytn:Stmt:=top 34
abbrev ysh:Stmt:=top 40
abbrev ys5:Stmt:=top 41
abbrev ys0:Stmt:=top 42
abbrev yr9:Stmt:=top 43
abbrev yse:Stmt:=top 44
abbrev yrz:Stmt:=top 45
abbrev ys7:Stmt:=top 46
abbrev ysl:Stmt:=vo (top 47) 0
abbrev ysf:Stmt:=vo (top 47) 2
abbrev ys1:Stmt:=vo (top 47) 4
abbrev yrv:Stmt:=vo (top 52) 0
abbrev ys4:Stmt:=vo (top 52) 1
abbrev yr3:Stmt:=vo (top 52) 2
abbrev yst:Stmt:=vo (top 52) 3
abbrev ysy:Stmt:=vo (top 52) 4
abbrev yr0:Stmt:=vo (top 55) 0
abbrev ytc:Stmt:=vo (top 55) 1
abbrev ytb:Stmt:=vo (top 55) 2
abbrev ys8:Stmt:=vo (top 55) 3
abbrev ysi:Stmt:=vo (top 55) 4
abbrev ytl:Stmt:=vo (top 55) 5
abbrev ytd:Stmt:=vo (top 55) 7
abbrev ytk:Stmt:=vo (top 55) 8
abbrev ysa:Stmt:=vo (top 55) 9
abbrev yr6:Stmt:=vo (top 55) 10
abbrev ysd:Stmt:=top 58
abbrev ysx:Stmt:=top 59
abbrev ys6:Stmt:=top 60
abbrev yiy:Stmt:=top 61
abbrev yiv:Stmt:=top 62
abbrev yiw:Stmt:=top 63
abbrev yr7:Stmt:=top 65
abbrev ysc:Stmt:=top 66
abbrev yr1:Stmt:=top 67
abbrev ysq:Stmt:=top 68
abbrev yti:Stmt:=top 69
abbrev ytg:Stmt:=top 70
abbrev ysv:Stmt:=top 71
abbrev ys9:Stmt:=top 72
abbrev ysr:Stmt:=top 73
abbrev ys2:Stmt:=top 74
abbrev ysp:Stmt:=top 75
abbrev ys3:Stmt:=top 76
set_option genInjectivity false in
set_option genSizeOfSpec false in
structure Ads where
 Kr:Addr
 Ks:FuncData
 Kt:Addr
 Ku:FuncData
 Kv:Addr
 Kw:FuncData
 Kx:Addr
 Ky:FuncData
 Kz:Addr
 L0:FuncData
 L1:Addr
 L3:FuncData
 L6:Addr
 L7:FuncData
 L8:Addr
 L9:FuncData
 La:Addr
 Lb:FuncData
 Fj:Addr
 Fk:FuncData
 Fl:Addr
 Fm:FuncData
 Eg:Addr
 Fn:FuncData
 Fo:Addr
 Fp:FuncData
 Fq:Addr
 Fr:FuncData
 Fs:Addr
 Ft:FuncData
 Eh:Addr
 Fu:FuncData
 Fv:Addr
 Fw:FuncData
 Fx:Addr
 Fz:FuncData
 G0:Addr
 G6:FuncData
 Ei:Addr
 G7:FuncData
 G8:Addr
 G9:FuncData
 Ga:Addr
 Gb:FuncData
 Gc:Addr
 Gd:FuncData
 Ge:Addr
 Gf:FuncData
 Gg:Addr
 Gh:FuncData
 Gi:Addr
 Gj:FuncData
 Gk:Addr
 Gm:FuncData
 Gn:Addr
 Gp:FuncData
 Gq:Addr
 Gr:FuncData
 Gs:Addr
 Gt:FuncData
 Gu:Addr
 Gv:FuncData
 Ej:Addr
 Gw:FuncData
 Gx:Addr
 Gy:FuncData
 Gz:Addr
 Hs:FuncData
 Ek:Addr
 Ht:FuncData
 Hu:Addr
 Hv:FuncData
 Hw:Addr
 Hx:FuncData
 Hy:Addr
 Hz:FuncData
 I0:Addr
 I1:FuncData
 El:Addr
 I2:FuncData
 I3:Addr
 I4:FuncData
 I5:Addr
 I6:FuncData
 I7:Addr
 I8:FuncData
 I9:Addr
 Ia:FuncData
 Ib:Addr
 Ic:FuncData
 Ie:Addr
 If:FuncData
 Ig:Addr
 Ih:FuncData
 Ii:Addr
 Ij:FuncData
 Ik:Addr
 Il:FuncData
 Im:Addr
 Io:FuncData
 Ip:Addr
 Iq:FuncData
 Ir:Addr
 Is:FuncData
 Cn:Addr
 Iu:FuncData
 Iv:Addr
 Co:Addr
 Iw:FuncData
 Ix:Addr
 Cp:Addr
 Iy:FuncData
 Iz:Addr
 J0:Addr
 J1:FuncData
 J3:Addr
 J4:FuncData
 J5:Addr
 J6:FuncData
 J7:Addr
 J8:FuncData
 J9:Addr
 Ja:FuncData
 Jb:Addr
 Jc:FuncData
 Jd:Addr
 Je:FuncData
 Jf:Addr
 Jg:FuncData
 Jh:Addr
 Ji:FuncData
 Jj:Addr
 Jk:FuncData
 Jl:Addr
 Jm:FuncData
 K7:Addr
 Em:FuncData
 A6:Addr
 A5:Addr
 Aa:Addr
 A9:Addr
 B6:Addr
 A0:Addr
 Ae:Addr
 B7:Addr
 Ad:Addr
 Ah:Addr
 A4:Addr
 Ck:Addr
 Af:Addr
 Ag:Addr
 Cl:Addr
 E4:Tok
 K8:Tok
 Br:Tok
 Bb:Tok
 C3:Tok
 Bm:Tok
 Bs:Tok
 Cd:Tok
 Bc:Tok
 Bx:Tok
 Bd:Tok
 By:Tok
 Ce:Tok
 Bo:Addr
 C2:Addr
variable {a:Ads}
structure Txt (K:W.Frag) (mg:Str->Option Value) (a:Ads):Prop where
 C4:Dff K mg "is_whole" yz4 ["thing"] a.Kr a.Ks
 Js:Dff K mg "is_bit" yz2 ["thing"] a.Kt a.Ku
 Jt:Dff K mg "is_chance" vag ["thing"] a.Kv a.Kw
 Ju:Dff K mg "is_sign" yz6 ["thing"] a.Kx a.Ky
 Jv:Dff K mg "is_list_of_signs" vae ["thing","most"] a.Kz a.L0
 Bw:Dff K mg "checked_text" vai ["thing"] a.L1 a.L3
 Jw:Dff K mg "check_chance" vab ["thing"] a.L6 a.L7
 B9:Dff K mg "check_bit" yz7 ["thing"] a.L8 a.L9
 E5:Dff K mg "gives" yz3 ["chance","bit"] a.La a.Lb
 Dj:Dff K mg "bits_of" yr8 ["sign"] a.Fj a.Fk
 C5:Dff K mg "decisions_of" ysb ["text"] a.Fl a.Fm
 Cq:Dfm K a.A6 "__init__" "Even.__init__" ytm ["self"] a.Eg a.Fn
 En:Dfm K a.A6 "chance" "Even.chance" ytj ["self"] a.Fo a.Fp
 Cr:Dfm K a.A6 "seen" "Even.seen" yr5 ["self","bit"] a.Fq a.Fr
 Eo:Dfm K a.A6 "twin" "Even.twin" ysj ["self"] a.Fs a.Ft
 Ct:Dfm K a.A5 "__init__" "Quick.__init__" yss ["self"] a.Eh a.Fu
 Ep:Dfm K a.A5 "chance" "Quick.chance" ysn ["self"] a.Fv a.Fw
 Cu:Dfm K a.A5 "seen" "Quick.seen" ysw ["self","bit"] a.Fx a.Fz
 Er:Dfm K a.A5 "twin" "Quick.twin" yr2 ["self"] a.G0 a.G6
 Cv:Dfm K a.Aa "__init__" "Run.__init__" yry ["self"] a.Ei a.G7
 Es:Dfm K a.Aa "chance" "Run.chance" ysm ["self"] a.G8 a.G9
 Cw:Dfm K a.Aa "seen" "Run.seen" ytf ["self","bit"] a.Ga a.Gb
 Et:Dfm K a.Aa "twin" "Run.twin" ysz ["self"] a.Gc a.Gd
 Dk:Dff K mg "slot_of" ytn ["kind"] a.Ge a.Gf
 Dl:Dff K mg "is_kind" ysh ["thing"] a.Gg a.Gh
 Dm:Dff K mg "is_place" ys5 ["thing"] a.Gi a.Gj
 Dn:Dff K mg "are_places" ys0 ["thing"] a.Gk a.Gm
 C6:Dff K mg "is_look" yr9 ["thing"] a.Gn a.Gp
 Do:Dff K mg "checked_looks" yse ["thing"] a.Gq a.Gr
 Dp:Dff K mg "sign_back" yrz ["signs","place"] a.Gs a.Gt
 Dq:Dff K mg "context_of" ys7 ["look","signs","node"] a.Gu a.Gv
 Cy:Dfm K a.A9 "__init__" "Book.__init__" ysl ["self","look"] a.Ej a.Gw
 Eu:Dfm K a.A9 "slot_at" "Book.slot_at" ysf ["self","signs","node"] a.Gx a.Gy
 Ev:Dfm K a.A9 "twin" "Book.twin" ys1 ["self"] a.Gz a.Hs
 Cz:Dfm K a.B6 "__init__" "Mixer.__init__" yrv ["self","many"] a.Ek a.Ht
 Ew:Dfm K a.B6 "weights" "Mixer.weights" ys4 ["self"] a.Hu a.Hv
 Ey:Dfm K a.B6 "mixed" "Mixer.mixed" yr3 ["self","chances"] a.Hw a.Hx
 D0:Dfm K a.B6 "learn" "Mixer.learn" yst ["self","chances","bit"] a.Hy a.Hz
 Ez:Dfm K a.B6 "twin" "Mixer.twin" ysy ["self"] a.I0 a.I1
 C7:Dfm K a.A0 "__init__" "Foreteller.__init__" yr0 ["self","looks"] a.El a.I2
 Bz:Dfm K a.A0 "arrive" "Foreteller.arrive" ytc ["self"] a.I3 a.I4
 Be:Dfm K a.A0 "chances" "Foreteller.chances" ytb ["self"] a.I5 a.I6
 F0:Dfm K a.A0 "chance" "Foreteller.chance" ys8 ["self"] a.I7 a.I8
 D1:Dfm K a.A0 "weights" "Foreteller.weights" ysi ["self"] a.I9 a.Ia
 D2:Dfm K a.A0 "node" "Foreteller.node" ytl ["self"] a.Ib a.Ic
 C0:Dfm K a.A0 "see" "Foreteller.see" ytd ["self","bit"] a.Ie a.If
 D3:Dfm K a.A0 "step" "Foreteller.step" ytk ["self","bit"] a.Ig a.Ih
 F1:Dfm K a.A0 "step_in_sign" "Foreteller.step_in_sign" ysa ["self","bit"] a.Ii a.Ij
 F2:Dfm K a.A0 "fork" "Foreteller.fork" yr6 ["self"] a.Ik a.Il
 At:Dff K mg "checked_learned" ysd ["thing"] a.Im a.Io
 Dr:Dff K mg "teach" ysx ["foreteller","texts"] a.Ip a.Iq
 C8:Dff K mg "rows_of" ys6 ["looks","text","learned"] a.Ir a.Is
 Jn:yfl K "foretold" "foretold" yiy a.Iv a.Cn a.Iu
 My:uh K a.Iu ["looks","text","learned"] [.none]
 K9:uh K a.Iu ["looks","text","learned"] []
 Ka:mg "foretold"=some (.ref a.Cn)
 Lm:yfl K "by_looks" "by_looks" yiv a.Ix a.Co a.Iw
 Mz:uh K a.Iw ["looks","text","learned"] [.none]
 Ly:uh K a.Iw ["looks","text","learned"] []
 Lz:mg "by_looks"=some (.ref a.Co)
 Ln:yfl K "cost" "cost" yiw a.Iz a.Cp a.Iy
 N0:uh K a.Iy ["looks","text","learned"] [.none]
 M0:uh K a.Iy ["looks","text","learned"] []
 M4:mg "cost"=some (.ref a.Cp)
 Ac:Dff K mg "_law_cell_at" yr7 ["_law_script","_law_k"] a.J0 a.J1
 Ds:Dff K mg "_law_look" ysc ["_law_cell"] a.J3 a.J4
 Dt:Dff K mg "_law_looks" yr1 ["_law_script"] a.J5 a.J6
 Du:Dff K mg "_law_sign" ysq ["_law_cell","_law_first"] a.J7 a.J8
 C9:Dff K mg "_law_text" yti ["_law_script","_law_at","_law_many"] a.J9 a.Ja
 Dv:Dff K mg "_law_bad_looks" ytg ["_law_looks_here","_law_cell"] a.Jb a.Jc
 Ca:Dff K mg "_law_bad_text" ysv ["_law_text_here","_law_cell"] a.Jd a.Je
 Dw:Dff K mg "_law_bad_learned" ys9 ["_law_learned_here","_law_cell"] a.Jf a.Jg
 Bu:Dff K mg "_law_kinds" ysr ["_law_way","_law_looks_here","_law_text_here","_law_learned_here"] a.Jh a.Ji
 Dx:Dff K mg "_law_unseen" ys2 ["_law_looks_here","_law_thing"] a.Jj a.Jk
 Dy:Dff K mg "_law_learned" ysp ["_law_learned_here"] a.Jl a.Jm
 F3:Dff K mg "law" ys3 ["_law_script"] a.K7 a.Em
 Az:Cls K a.A6
 Kb:mg "Even"=some (.ref a.A6)
 Kc:Mk K a.A6 a.Eg
 Ai:wq K a.A6 "noughts"
 B0:wq K a.A6 "ones"
 Bf:Cls K a.A5
 Jo:mg "Quick"=some (.ref a.A5)
 Jp:Mk K a.A5 a.Eh
 An:wq K a.A5 "held"
 Bn:Cls K a.Aa
 Lo:mg "Run"=some (.ref a.Aa)
 Lp:Mk K a.Aa a.Ei
 Bg:wq K a.Aa "last"
 Ap:wq K a.Aa "length"
 Bl:Cls K a.A9
 Kd:mg "Book"=some (.ref a.A9)
 Ke:Mk K a.A9 a.Ej
 B4:wq K a.A9 "look"
 Aq:wq K a.A9 "slots"
 Cg:Cls K a.B6
 M5:mg "Mixer"=some (.ref a.B6)
 M6:Mk K a.B6 a.Ek
 Bp:wq K a.B6 "kept"
 A8:Cls K a.A0
 Lc:mg "Foreteller"=some (.ref a.A0)
 Ld:Mk K a.A0 a.El
 Am:wq K a.A0 "looks"
 Bh:wq K a.A0 "books"
 Bi:wq K a.A0 "mixer"
 Bj:wq K a.A0 "ended"
 Bk:wq K a.A0 "place"
 Ar:wq K a.A0 "present"
 Fc:mg "NoText"=some (.ref a.Ae)
 Lq:mg "NoChance"=some (.ref a.B7)
 Lr:mg "NoBit"=some (.ref a.Ad)
 Le:mg "NoLooks"=some (.ref a.Ah)
 Bv:mg "ForetellError"=some (.ref a.A4)
 N2:mg "NoBytes"=some (.ref a.Ck)
 Kf:mg "NoMost"=some (.ref a.Af)
 Kg:mg "NoName"=some (.ref a.Ag)
 N3:mg "NoPress"=some (.ref a.Cl)
 Jx:XCls K a.Ae
 Fd:XMk K a.Ae
 M7:XCls K a.B7
 Ls:XMk K a.B7
 Lf:XCls K a.Ad
 Lt:XMk K a.Ad
 Jy:XCls K a.Ah
 Lg:XMk K a.Ah
 Au:W.kitOne K (.ref a.Ae) (.type "ValueError")=some true
 D4:W.kitOne K (.ref a.Ae) (.ref a.Ae)=some true
 D5:W.kitOne K (.ref a.Ae) (.ref a.Ah)=some false
 E6:W.kitAny K (.ref a.Ae) [.ref a.Ah,.ref a.Ae,.ref a.B7]=some true
 E7:W.kitAny K (.ref a.Ae) [.ref a.Ad,.ref a.Ck,.ref a.B7,.ref a.Af,.ref a.Ag,.ref a.Cl]=some false
 Aj:W.exmOne K (.ref a.Ae) (.ref a.A4)=some true
 Ak:W.kitOne K (.ref a.Ad) (.ref a.A4)=some true
 Bq:W.kitOne K (.ref a.Ad) (.type "ValueError")=some true
 F6:W.kitOne K (.ref a.Ad) (.ref a.Ae)=some false
 E8:W.kitAny K (.ref a.Ad) [.ref a.Ah,.ref a.Ae,.ref a.B7]=some false
 E9:W.kitAny K (.ref a.Ad) [.ref a.Ad,.ref a.Ck,.ref a.B7,.ref a.Af,.ref a.Ag,.ref a.Cl]=some true
 B8:W.exmOne K (.ref a.Ad) (.ref a.A4)=some true
 D6:W.exmOne K (.ref a.Ad) (.ref a.Ad)=some true
 Av:W.kitOne K (.ref a.Ah) (.type "ValueError")=some true
 D7:W.kitOne K (.ref a.Ah) (.ref a.Ae)=some false
 D8:W.kitOne K (.ref a.Ah) (.ref a.Ah)=some true
 Ea:W.kitAny K (.ref a.Ah) [.ref a.Ah,.ref a.Ae,.ref a.B7]=some true
 Eb:W.kitAny K (.ref a.Ah) [.ref a.Ad,.ref a.Ck,.ref a.B7,.ref a.Af,.ref a.Ag,.ref a.Cl]=some false
 Al:W.exmOne K (.ref a.Ah) (.ref a.A4)=some true
 A3:mg "isinstance"=none
 Kh:mg "int"=none
 Fe:mg "bool"=none
 Ab:mg "list"=none
 D9:mg "all"=none
 As:mg "len"=none
 Jq:mg "min"=none
 Jr:mg "max"=none
 Ki:mg "str"=none
 Ba:mg "tuple"=none
 F7:mg "zip"=none
 Dz:mg "sum"=none
 Cb:mg "range"=none
 Bt:mg "ValueError"=none
 Cm:mg "LEAST"=some (.int 32768 a.E4)
 Ci:mg "ONE"=some (.int 16777216 a.K8)
 Ec:mg "MOST_SIGNS"=some (.int 1000 a.Br)
 C1:mg "MOST_COUNTED"=some (.int 255 a.Bb)
 Ff:mg "FARTHEST"=some (.int 8 a.C3)
 Dh:mg "MOST_PLACES"=some (.int 4 a.Bm)
 Cc:mg "MOST_LOOKS"=some (.int 6 a.Bs)
 Jz:mg "NO_SIGN"=some (.int 256 a.Cd)
 Da:mg "FIRST_WEIGHT"=some (.int 1099511627776 a.Bc)
 F8:mg "OWN_PARTS"=some (.int 31 a.Bx)
 Db:mg "MOST_FIGURES"=some (.int 48 a.Bd)
 Cj:mg "NODES_END"=some (.int 256 a.By)
 K0:mg "FIGURES"=some (.int 24 a.Ce)
 Kj:mg "WORTHS"=some (.ref a.Bo)
 F9:∀ H,SqT K H a.Bo [V.int 128,V.int 64,V.int 32,V.int 16,V.int 8,V.int 4,V.int 2,V.int 1]
 Lh:mg "KINDS"=some (.ref a.C2)
 Li:∀ H,SqT K H a.C2 [V.str "even",V.str "quick",V.str "run"]
section
variable {P:Program} {w:World} {K:W.Frag} {mg:Str->Option Value} {base:Heap}
def ur (v0 v1:V):List (Str × V):=[("noughts",v0),("ones",v1)]
section
variable {H:Hp} {dx:Addr} {v0 v1 v:V} {P:V->Prop} {nx:St->Hp->Prop} {σ:St}
section
variable (T:Txt K mg a) (hp:H p=some (.ins a.A6 dx (ur v0 v1)))
include T hp
theorem ya9 (h:P v0):RdX K H p "noughts" P:=rdX hp T.Az T.Ai yaa h
theorem ya8 (h:xi nx σ (upd H p (.ins a.A6 dx (ur v v1)))):StX K H p "noughts" v nx σ:=stX hp T.Az T.Ai lt2 yac h
theorem yeb (h:P v1):RdX K H p "ones" P:=rdX hp T.Az T.B0 (xb (by right) yaa) h
theorem yd9 (h:xi nx σ (upd H p (.ins a.A6 dx (ur v0 v)))):StX K H p "ones" v nx σ:=stX hp T.Az T.B0 lt2 (w8 (by right) yac) h
end
theorem yba (T:Txt K mg a) (hp:H p=some (.ins a.A6 dx [])) (h:xi nx σ (upd H p (.ins a.A6 dx [("noughts",v)]))):StX K H p "noughts" v nx σ:=stX hp T.Az T.Ai lt0 uq h
theorem yee (T:Txt K mg a) (hp:H p=some (.ins a.A6 dx [("noughts",v0)])) (h:xi nx σ (upd H p (.ins a.A6 dx (ur v0 v)))):StX K H p "ones" v nx σ:=stX hp T.Az T.B0 lt1 (w8 (by right) uq) h
theorem yb3:(ur v0 v1).lookup ("chance":Str)=none:=(xb (by right) (xb (by right) j5))
theorem yd8:(ur v0 v1).lookup ("seen":Str)=none:=(xb (by right) (xb (by right) j5))
theorem yed:(ur v0 v1).lookup ("twin":Str)=none:=(xb (by right) (xb (by right) j5))
theorem yqz {nm:Str} (hp:H p=some (.ins C dx (ur v0 v1))) (n:nm∉(["noughts","ones"]:List Str)) (h:R):MtX H p C nm R:=mtX hp rfl n h
end
local macro_rules | `(tactic| walk_at "rd1")=>`(tactic| first
 | exists 1,"ya9 ya8 yba yeb yd9 yee"
 | exists 3,"yqz")
def ua (v0:V):List (Str × V):=[("held",v0)]
section
variable {H:Hp} {dx:Addr} {v0 v:V} {P:V->Prop} {nx:St->Hp->Prop} {σ:St}
section
variable (T:Txt K mg a) (hp:H p=some (.ins a.A5 dx (ua v0)))
include T hp
theorem ydd (h:P v0):RdX K H p "held" P:=rdX hp T.Bf T.An yaa h
theorem yde (h:xi nx σ (upd H p (.ins a.A5 dx (ua v)))):StX K H p "held" v nx σ:=stX hp T.Bf T.An lt1 yac h
end
theorem yc3 (T:Txt K mg a) (hp:H p=some (.ins a.A5 dx [])) (h:xi nx σ (upd H p (.ins a.A5 dx (ua v)))):StX K H p "held" v nx σ:=stX hp T.Bf T.An lt0 uq h
theorem ybc:(ua v0).lookup ("chance":Str)=none:=(xb (by right) j5)
theorem ydf:(ua v0).lookup ("seen":Str)=none:=(xb (by right) j5)
theorem yc9:(ua v0).lookup ("twin":Str)=none:=(xb (by right) j5)
theorem yme {nm:Str} (hp:H p=some (.ins C dx (ua v0))) (n:nm∉(["held"]:List Str)) (h:R):MtX H p C nm R:=mtX hp rfl n h
end
local macro_rules | `(tactic| walk_at "rd1")=>`(tactic| first
 | exists 1,"ydd yde yc3"
 | exists 3,"yme")
def j8 (v0 v1:V):List (Str × V):=[("last",v0),("length",v1)]
section
variable {H:Hp} {dx:Addr} {v0 v1 v:V} {P:V->Prop} {nx:St->Hp->Prop} {σ:St}
section
variable (T:Txt K mg a) (hp:H p=some (.ins a.Aa dx (j8 v0 v1)))
include T hp
theorem yfn (h:P v0):RdX K H p "last" P:=rdX hp T.Bn T.Bg yaa h
theorem yf7 (h:xi nx σ (upd H p (.ins a.Aa dx (j8 v v1)))):StX K H p "last" v nx σ:=stX hp T.Bn T.Bg lt2 yac h
theorem yc7 (h:P v1):RdX K H p "length" P:=rdX hp T.Bn T.Ap (xb (by right) yaa) h
theorem yc6 (h:xi nx σ (upd H p (.ins a.Aa dx (j8 v0 v)))):StX K H p "length" v nx σ:=stX hp T.Bn T.Ap lt2 (w8 (by right) yac) h
end
theorem yf8 (T:Txt K mg a) (hp:H p=some (.ins a.Aa dx [])) (h:xi nx σ (upd H p (.ins a.Aa dx [("last",v)]))):StX K H p "last" v nx σ:=stX hp T.Bn T.Bg lt0 uq h
theorem ydb (T:Txt K mg a) (hp:H p=some (.ins a.Aa dx [("last",v0)])) (h:xi nx σ (upd H p (.ins a.Aa dx (j8 v0 v)))):StX K H p "length" v nx σ:=stX hp T.Bn T.Ap lt1 (w8 (by right) uq) h
theorem yc8:(j8 v0 v1).lookup ("chance":Str)=none:=(xb (by right) (xb (by right) j5))
theorem ygc:(j8 v0 v1).lookup ("seen":Str)=none:=(xb (by right) (xb (by right) j5))
theorem yfs:(j8 v0 v1).lookup ("twin":Str)=none:=(xb (by right) (xb (by right) j5))
theorem yxb {nm:Str} (hp:H p=some (.ins C dx (j8 v0 v1))) (n:nm∉(["last","length"]:List Str)) (h:R):MtX H p C nm R:=mtX hp rfl n h
end
local macro_rules | `(tactic| walk_at "rd1")=>`(tactic| first
 | exists 1,"yfn yf7 yf8 yc7 yc6 ydb"
 | exists 3,"yxb")
def yct (v0 v1:V):List (Str × V):=[("look",v0),("slots",v1)]
section
variable {H:Hp} {dx:Addr} {v0 v1 v:V} {P:V->Prop} {nx:St->Hp->Prop} {σ:St}
section
variable (T:Txt K mg a) (hp:H p=some (.ins a.A9 dx (yct v0 v1)))
include T hp
theorem yd7 (h:P v0):RdX K H p "look" P:=rdX hp T.Bl T.B4 yaa h
theorem yea (h:xi nx σ (upd H p (.ins a.A9 dx (yct v v1)))):StX K H p "look" v nx σ:=stX hp T.Bl T.B4 lt2 yac h
theorem yc5 (h:P v1):RdX K H p "slots" P:=rdX hp T.Bl T.Aq (xb (by right) yaa) h
theorem yda (h:xi nx σ (upd H p (.ins a.A9 dx (yct v0 v)))):StX K H p "slots" v nx σ:=stX hp T.Bl T.Aq lt2 (w8 (by right) yac) h
end
theorem yec (T:Txt K mg a) (hp:H p=some (.ins a.A9 dx [])) (h:xi nx σ (upd H p (.ins a.A9 dx [("look",v)]))):StX K H p "look" v nx σ:=stX hp T.Bl T.B4 lt0 uq h
theorem ydh (T:Txt K mg a) (hp:H p=some (.ins a.A9 dx [("look",v0)])) (h:xi nx σ (upd H p (.ins a.A9 dx (yct v0 v)))):StX K H p "slots" v nx σ:=stX hp T.Bl T.Aq lt1 (w8 (by right) uq) h
theorem yqx {nm:Str} (hp:H p=some (.ins C dx (yct v0 v1))) (n:nm∉(["look","slots"]:List Str)) (h:R):MtX H p C nm R:=mtX hp rfl n h
end
local macro_rules | `(tactic| walk_at "rd1")=>`(tactic| first
 | exists 1,"yd7 yea yec yc5 yda ydh"
 | exists 3,"yqx")
def yx5 (v0:V):List (Str × V):=[("kept",v0)]
section
variable {H:Hp} {dx:Addr} {v0 v:V} {P:V->Prop} {nx:St->Hp->Prop} {σ:St}
section
variable (T:Txt K mg a) (hp:H p=some (.ins a.B6 dx (yx5 v0)))
include T hp
theorem yig (h:P v0):RdX K H p "kept" P:=rdX hp T.Cg T.Bp yaa h
theorem yh9 (h:xi nx σ (upd H p (.ins a.B6 dx (yx5 v)))):StX K H p "kept" v nx σ:=stX hp T.Cg T.Bp lt1 yac h
end
theorem yis (T:Txt K mg a) (hp:H p=some (.ins a.B6 dx [])) (h:xi nx σ (upd H p (.ins a.B6 dx (yx5 v)))):StX K H p "kept" v nx σ:=stX hp T.Cg T.Bp lt0 uq h
theorem yzx {nm:Str} (hp:H p=some (.ins C dx (yx5 v0))) (n:nm∉(["kept"]:List Str)) (h:R):MtX H p C nm R:=mtX hp rfl n h
end
local macro_rules | `(tactic| walk_at "rd1")=>`(tactic| first
 | exists 1,"yig yh9 yis"
 | exists 3,"yzx")
def ux (v0 v1 v2 v3 v4 v5:V):List (Str × V):=[("looks",v0),("books",v1),("mixer",v2),("ended",v3),("place",v4),("present",v5)]
section
variable {H:Hp} {dx:Addr} {v0 v1 v2 v3 v4 v5 v:V} {P:V->Prop} {nx:St->Hp->Prop} {σ:St}
section
variable (T:Txt K mg a) (hp:H p=some (.ins a.A0 dx (ux v0 v1 v2 v3 v4 v5)))
include T hp
theorem ygb (h:P v0):RdX K H p "looks" P:=rdX hp T.A8 T.Am yaa h
theorem yfo (h:xi nx σ (upd H p (.ins a.A0 dx (ux v v1 v2 v3 v4 v5)))):StX K H p "looks" v nx σ:=stX hp T.A8 T.Am lt6 yac h
theorem yf2 (h:P v1):RdX K H p "books" P:=rdX hp T.A8 T.Bh (xb (by right) yaa) h
theorem yf0 (h:xi nx σ (upd H p (.ins a.A0 dx (ux v0 v v2 v3 v4 v5)))):StX K H p "books" v nx σ:=stX hp T.A8 T.Bh lt6 (w8 (by right) yac) h
theorem yfv (h:P v2):RdX K H p "mixer" P:=rdX hp T.A8 T.Bi (xb (by right) (xb (by right) yaa)) h
theorem yfy (h:xi nx σ (upd H p (.ins a.A0 dx (ux v0 v1 v v3 v4 v5)))):StX K H p "mixer" v nx σ:=stX hp T.A8 T.Bi lt6 (w8 (by right) (w8 (by right) yac)) h
theorem yfp (h:P v3):RdX K H p "ended" P:=rdX hp T.A8 T.Bj (xb (by right) (xb (by right) (xb (by right) yaa))) h
theorem yft (h:xi nx σ (upd H p (.ins a.A0 dx (ux v0 v1 v2 v v4 v5)))):StX K H p "ended" v nx σ:=stX hp T.A8 T.Bj lt6 (w8 (by right) (w8 (by right) (w8 (by right) yac))) h
theorem yf1 (h:P v4):RdX K H p "place" P:=rdX hp T.A8 T.Bk (xb (by right) (xb (by right) (xb (by right) (xb (by right) yaa)))) h
theorem yf5 (h:xi nx σ (upd H p (.ins a.A0 dx (ux v0 v1 v2 v3 v v5)))):StX K H p "place" v nx σ:=stX hp T.A8 T.Bk lt6 (w8 (by right) (w8 (by right) (w8 (by right) (w8 (by right) yac)))) h
theorem yc2 (h:P v5):RdX K H p "present" P:=rdX hp T.A8 T.Ar (xb (by right) (xb (by right) (xb (by right) (xb (by right) (xb (by right) yaa))))) h
theorem ydc (h:xi nx σ (upd H p (.ins a.A0 dx (ux v0 v1 v2 v3 v4 v)))):StX K H p "present" v nx σ:=stX hp T.A8 T.Ar lt6 (w8 (by right) (w8 (by right) (w8 (by right) (w8 (by right) (w8 (by right) yac))))) h
end
theorem yfz (T:Txt K mg a) (hp:H p=some (.ins a.A0 dx [])) (h:xi nx σ (upd H p (.ins a.A0 dx [("looks",v)]))):StX K H p "looks" v nx σ:=stX hp T.A8 T.Am lt0 uq h
theorem yfr (T:Txt K mg a) (hp:H p=some (.ins a.A0 dx [("looks",v0)])) (h:xi nx σ (upd H p (.ins a.A0 dx [("looks",v0),("books",v)]))):StX K H p "books" v nx σ:=stX hp T.A8 T.Bh lt1 (w8 (by right) uq) h
theorem yfq (T:Txt K mg a) (hp:H p=some (.ins a.A0 dx [("looks",v0),("books",v1)])) (h:xi nx σ (upd H p (.ins a.A0 dx [("looks",v0),("books",v1),("mixer",v)]))):StX K H p "mixer" v nx σ:=stX hp T.A8 T.Bi lt2 (w8 (by right) (w8 (by right) uq)) h
theorem yga (T:Txt K mg a) (hp:H p=some (.ins a.A0 dx [("looks",v0),("books",v1),("mixer",v2)])) (h:xi nx σ (upd H p (.ins a.A0 dx [("looks",v0),("books",v1),("mixer",v2),("ended",v)]))):StX K H p "ended" v nx σ:=stX hp T.A8 T.Bj lt3 (w8 (by right) (w8 (by right) (w8 (by right) uq))) h
theorem yf9 (T:Txt K mg a) (hp:H p=some (.ins a.A0 dx [("looks",v0),("books",v1),("mixer",v2),("ended",v3)])) (h:xi nx σ (upd H p (.ins a.A0 dx [("looks",v0),("books",v1),("mixer",v2),("ended",v3),("place",v)]))):StX K H p "place" v nx σ:=stX hp T.A8 T.Bk lt4 (w8 (by right) (w8 (by right) (w8 (by right) (w8 (by right) uq)))) h
theorem ydg (T:Txt K mg a) (hp:H p=some (.ins a.A0 dx [("looks",v0),("books",v1),("mixer",v2),("ended",v3),("place",v4)])) (h:xi nx σ (upd H p (.ins a.A0 dx (ux v0 v1 v2 v3 v4 v)))):StX K H p "present" v nx σ:=stX hp T.A8 T.Ar lt5 (w8 (by right) (w8 (by right) (w8 (by right) (w8 (by right) (w8 (by right) uq))))) h
theorem yyk {nm:Str} (hp:H p=some (.ins C dx (ux v0 v1 v2 v3 v4 v5))) (n:nm∉(["looks","books","mixer","ended","place","present"]:List Str)) (h:R):MtX H p C nm R:=mtX hp rfl n h
end
local macro_rules | `(tactic| walk_at "rd1")=>`(tactic| first
 | exists 1,"ygb yfo yfz yf2 yf0 yfr yfv yfy yfq yfp yft yga yf1 yf5 yf9 yc2 ydc ydg"
 | exists 3,"yyk")
open SpanMath
def But (p:Addr) (H H':Hp):Prop:=∀ b o,H b=some o->b≠p->H' b=some o
theorem But.refl {H:Hp}:But p H H:=fun _ _ h _=>h
theorem But.of {H H':Hp} (s:yz H H'):But p H H':=fun b o h _=>s b o h
theorem But.trans {H H1 H2:Hp} (x:But p H H1) (y:But p H1 H2):But p H H2:=fun b o h n=>y b o (x b o h n) n
theorem But.upd {H:Hp} {o:HO}:But p H (L2.upd H p o):=fun b u h n=>by rw [ym n]; exact h
theorem But.seq {l dx:Addr} {fs:List (Str × V)} {H H':Hp} {xs:List V} (e:But p H H') (hp:H p=some (.ins C dx fs)) (h:SqL K H l xs):SqL K H' l xs:=by
 rcases h with (h | ⟨o,h⟩) | h
 ·exact .inl (.inl (e _ _ h (x9 h hp (by intro z; cases z))))
 ·exact .inl (.inr ⟨o,e _ _ h (x9 h hp (by intro z; cases z))⟩)
 ·exact .inr h
theorem But.tup {l dx:Addr} {fs:List (Str × V)} {H H':Hp} {xs:List V} (e:But p H H') (hp:H p=some (.ins C dx fs)) (h:H l=some (.tup xs)):H' l=some (.tup xs):=e _ _ h (x9 h hp (by intro z; cases z))
theorem But.lst {l dx:Addr} {fs:List (Str × V)} {H H':Hp} {xs:List V} (e:But p H H') (hp:H p=some (.ins C dx fs)) (h:H l=some (.lst xs)):H' l=some (.lst xs):=e _ _ h (x9 h hp (by intro z; cases z))
theorem zz {x:V} (h:j0 x=true):∃ i,x=.int i:=by
 cases x with
 | int i=>exact ⟨i,rfl⟩
 | _=>cases h
def yai:V->Bool
 | .int i=>decide (0 <= i) && decide (i <= 1)
 | _=>false
def chV:V->Bool
 | .int i=>decide (32768 <= i) && decide (i <= 16744448)
 | _=>false
inductive yi9 (K:W.Frag) (vs:List V) (H:Hp) (Q:VK) (E':XK):Prop
 | mk (x n:_):(vs=[x])->(xp K H x (.type n))->(Q (.bl (j0 x)) H)->yi9 K vs H Q E'
inductive Slt where
 | ev (n o:Int)
 | qk (h:Int)
 | rn (l n:Int)
def Slt.ok:Slt->Prop
 | .ev n o=>0 <= n/\0 <= o/\n+o <= 255
 | .qk h=>32768 <= h/\h <= 16744448
 | .rn l n=>0 <= l/\l <= 1/\0 <= n/\n <= 255
def yal (n:Int):Int:=(2 * n+1) * 16777216 / (2 * n+2)
def Slt.due:Slt->Int
 | .ev n o=>(2 * o+1) * 16777216 / (2 * (n+o)+2)
 | .qk h=>h
 | .rn l n=>if l=1 then yal n else 16777216 - yal n
def ygl (n o:Int):Slt:=if 255 < n+o then .ev ((n+1) / 2) ((o+1) / 2) else .ev n o
def yhu (m:Int):Int:=if 16744448 < (if 32768 > m then 32768 else m) then 16744448 else (if 32768 > m then 32768 else m)
def Slt.see:Slt->Int->Slt
 | .ev n o,b=>if b=1 then ygl n (o+1) else ygl (n+1) o
 | .qk h,b=>.qk (yhu (if b=1 then h+(16777216 - h) / 16 else h - h / 16))
 | .rn l n,b=>if b=l then .rn l (if 255 < n+1 then 255 else n+1) else .rn b 1
def oS (a:Ads) (dx:Addr):Slt->HO
 | .ev n o=>.ins a.A6 dx (ur (.int n) (.int o))
 | .qk h=>.ins a.A5 dx (ua (.int h))
 | .rn l n=>.ins a.Aa dx (j8 (.int l) (.int n))
theorem ygw {n o:Int} (h1:0 <= n) (h2:0 <= o) (h3:n+o <= 256):(ygl n o).ok:=by
 unfold ygl
 split
 ·exact ⟨by omega,by omega,by omega⟩
 ·exact ⟨h1,h2,by omega⟩
theorem yjn (m:Int):32768 <= yhu m/\yhu m <= 16744448:=by
 unfold yhu
 split <;> split <;> omega
theorem Slt.see_ok {s:Slt} {b:Int} (h:s.ok) (b0:0 <= b) (b1:b <= 1):(s.see b).ok:=by
 cases s with
 | ev n o =>
  obtain ⟨c,a,d⟩:=h
  unfold Slt.see
  dsimp only
  split
  ·exact ygw c (by omega) (by omega)
  ·exact ygw (by omega) a (by omega)
 | qk h0=>exact yjn _
 | rn l n =>
  obtain ⟨c,a,d,e⟩:=h
  unfold Slt.see
  dsimp only
  split
  ·refine ⟨c,a,?_,?_⟩ <;> split <;> omega
  ·exact ⟨b0,b1,by decide,by decide⟩
def kdS:Fin 3->Str
 | 0=>"even"
 | 1=>"quick"
 | 2=>"run"
def kd0:Fin 3->Slt
 | 0=>.ev 0 0
 | 1=>.qk 8388608
 | 2=>.rn 1 0
theorem ywg (k:Fin 3):(kd0 k).ok:=by
 match k with
 | 0=>exact ⟨by decide,by decide,by decide⟩
 | 1=>exact ⟨by decide,by decide⟩
 | 2=>exact ⟨by decide,by decide,by decide,by decide⟩
theorem yw2 {b:Int} (b0:0 <= b) (b1:b <= 1):yai (.int b)=true:=by
 simp only [yai,Bool.and_eq_true,decide_eq_true_eq]
 omega
theorem yhv {x:V} (h:yai x=true):∃ b:Int,x=.int b/\0 <= b/\b <= 1:=by
 cases x with
 | int i =>
  simp only [yai,Bool.and_eq_true,decide_eq_true_eq] at h
  exact ⟨i,rfl,h.1,h.2⟩
 | _=>cases h
inductive yaw (C:Addr) (F:List (Str × V)) (vs:List V) (H:Hp) (Q:VK) (E':XK):Prop
 | mk (p dx:Addr):(vs=[.ref p])->(H p=some (.ins C dx []))->(∀ H',H' p=some (.ins C dx F)->But p H H'->Q .non H')->yaw C F vs H Q E'
inductive xw (o:Addr->Slt->HO) (g:Slt->Prop) (vs:List V) (H:Hp) (Q:VK) (E':XK):Prop
 | mk (p dx:Addr) (s:Slt):(vs=[.ref p])->(g s)->(s.ok)->(H p=some (o dx s))->(Q (.int s.due) H)->xw o g vs H Q E'
inductive u8 (K:W.Frag) (o:Addr->Slt->HO) (g:Slt->Prop) (C:Addr) (vs:List V) (H:Hp) (Q:VK) (E:XK):Prop
 | mk (p dx:Addr) (s:Slt) (x:V) (n:String):(vs=[.ref p,x])->(g s)->(s.ok)->(H p=some (o dx s))->(xp K H x (.type n))->((∀ b:Int,x=.int b->0 <= b->b <= 1->∀ H',H' p=some (o dx (s.see b))->But p H H'->Q .non H'))->((yai x=false->E (.ref C) none H))->u8 K o g C vs H Q E
def ytt:Slt->Prop
 | .ev _ _=>True
 | _=>False
def ytu:Slt->Prop
 | .qk _=>True
 | _=>False
def ytq:Slt->Prop
 | .rn _ _=>True
 | _=>False
def yx1 (bs:List Int):Prop:=∀ b∈bs,0 <= b/\b <= 1
theorem zt {n:Nat} (h:n <= 16000000):n <= sizeLine:=Nat.le_trans h (by decide)
theorem vj {n:Nat} (h:n <= 16000000):n < sizeLine:=Nat.lt_of_le_of_lt h (by decide)
theorem jg {ns:List Int} {x:V} (h:(ns.map V.int)[i]?=some x):∃ n,x=.int n/\n∈ns/\ns[i]?=some n/\i < ns.length:=by
 rw [List.getElem?_map] at h
 cases e:ns[i]? with
 | none=>rw [e] at h; cases h
 | some n =>
  rw [e] at h
  have a:i < ns.length:=by
   rcases Nat.lt_or_ge i ns.length with q | q
   ·exact q
   ·rw [List.getElem?_eq_none q] at e; cases e
  exact ⟨n,(Option.some.inj h).symm,List.mem_of_getElem? e,rfl,a⟩
theorem yae {l:List Int} {q:Int} (h:l[i]?=some q):l.take (i+1)=l.take i++[q]:=by
 rw [List.take_add_one,h]
 rfl
theorem ymz {xs ys:List Int} (h1:yx1 xs) (h2:yx1 ys):yx1 (xs++ys):=fun b a=>by
 rcases List.mem_append.mp a with h | h
 ·exact h1 b h
 ·exact h2 b h
theorem ye9 (c:Int) (n:Nat):(List.replicate n [V.int c]).flatten=(List.replicate n c).map V.int:=by
 induction n with
 | zero=>rfl
 | succ n ih=>rw [List.replicate_succ,List.flatten_cons,ih,List.replicate_succ]; rfl
def yph (sg:List Int) (p:Int):Int:=if p <= sg.length then (atI sg (-p)).getD 256 else 256
theorem yq9 {α β:Type} (f:α->β) (xs:List α) (i:Int):atI (xs.map f) i=(atI xs i).map f:=by
 unfold atI
 rw [List.length_map]
 cases ixN xs.length i with
 | none=>rfl
 | some j =>
  show (xs.map f)[j]?=(xs[j]?).map f
  rw [List.getElem?_map]
theorem ymu {sg:List Int} {p:Int} (h1:1 <= p) (h2:p <= sg.length):∃ c,atI sg (-p)=some c/\c∈sg:=by
 unfold atI ixN
 rw [if_neg (by omega)]
 by_cases h:-(sg.length:Int) <= -p
 ·rw [if_pos (by omega)]
  have a:((-p+(sg.length:Int)).toNat) < sg.length:=by omega
  exact ⟨_,List.getElem?_eq_getElem a,List.getElem_mem a⟩
 ·omega
def Slt.kind:Slt->Fin 3
 | .ev _ _=>0
 | .qk _=>1
 | .rn _ _=>2
theorem ymx (s:Slt) (b:Int):(s.see b).kind=s.kind:=by
 cases s with
 | ev n o =>
  unfold Slt.see ygl
  dsimp only
  split <;> split <;> rfl
 | qk h=>rfl
 | rn l n =>
  unfold Slt.see
  dsimp only
  split <;> rfl
theorem ymi (k:Fin 3):(kd0 k).kind=k:=by
 match k with
 | 0=>rfl
 | 1=>rfl
 | 2=>rfl
theorem jz (a:Ads) (dx:Addr) (s:Slt):∃ C fs,oS a dx s=.ins C dx fs:=by
 cases s <;> exact ⟨_,_,rfl⟩
theorem ynw {s:Slt} (h:s.ok):32768 <= s.due/\s.due <= 16744448:=by
 cases s with
 | ev n o =>
  obtain ⟨d,b,c⟩:=h
  unfold Slt.due
  dsimp only
  have a:(0:Int) < 2 * (n+o)+2:=by omega
  constructor
  ·rw [Int.le_ediv_iff_mul_le a]
   omega
  ·have:(2 * o+1) * 16777216 / (2 * (n+o)+2) < 16744449:=by
    rw [Int.ediv_lt_iff_lt_mul a]
    omega
   omega
 | qk h0=>exact h
 | rn l n =>
  obtain ⟨d,b,c,e⟩:=h
  have a:(0:Int) < 2 * n+2:=by omega
  have g1:8388608 <= yal n:=by
   unfold yal
   rw [Int.le_ediv_iff_mul_le a]
   omega
  have g2:yal n < 16744449:=by
   unfold yal
   rw [Int.ediv_lt_iff_lt_mul a]
   omega
  unfold Slt.due
  dsimp only
  split <;> omega
theorem yi5 {dx:Addr} {s:Slt} {ta:TE} {σ:St} {H:Hp} {Q:VK} {E1 E2 E3:XK} (hta:∀ Q':VK,Q' (.ref p) H->ta σ H Q') (hp:H p=some (oS a dx s)) (ok:s.ok) (h:Q (.int s.due) H) :
  ynk (yb5 a.A6 "chance" (xw (oS a) ytt) [] E1 ta yd5) (ynk (yb5 a.A5 "chance" (xw (oS a) ytu) [] E2 ta yd5) (yb5 a.Aa "chance" (xw (oS a) ytq) [] E3 ta yd5)) σ H Q:=by
 cases s with
 | ev n o=>exact ycu (yb0 (hta _ ⟨p,dx,_,rfl,hp,yb3,p,dx,.ev n o,rfl,trivial,ok,hp,h⟩))
 | qk h0=>exact j4 (ycu (yb0 (hta _ ⟨p,dx,_,rfl,hp,ybc,p,dx,.qk h0,rfl,trivial,ok,hp,h⟩)))
 | rn l n=>exact j4 (j4 (yb0 (hta _ ⟨p,dx,_,rfl,hp,yc8,p,dx,.rn l n,rfl,trivial,ok,hp,h⟩)))
theorem yq6 {dx:Addr} {s:Slt} {ta:TE} {t:TA} {σ:St} {H:Hp} {Q:VK} {E1 E2 E3:St->XK} {x:V} {n:String} (hta:∀ Q':VK,Q' (.ref p) H->ta σ H Q') (ht:∀ Q':List V->Hp->Prop,Q' [x] H->t σ H Q') (hp:H p=some (oS a dx s)) (ok:s.ok) (ty:xp K H x (.type n))
  (h:∀ b:Int,x=.int b->0 <= b->b <= 1->∀ H',H' p=some (oS a dx (s.see b))->But p H H'->Q .non H') (h1:yai x=false->E1 σ (.ref a.Ad) none H) (h2:yai x=false->E2 σ (.ref a.Ad) none H) (h3:yai x=false->E3 σ (.ref a.Ad) none H) :
  ynk (yfa a.A6 "seen" (u8 K (oS a) ytt a.Ad) [] E1 ta t) (ynk (yfa a.A5 "seen" (u8 K (oS a) ytu a.Ad) [] E2 ta t) (yfa a.Aa "seen" (u8 K (oS a) ytq a.Ad) [] E3 ta t)) σ H Q:=by
 cases s with
 | ev n o=>exact ycu (ydu (hta _ ⟨p,dx,_,rfl,hp,yd8,ht _ ⟨p,dx,.ev n o,x,_,rfl,trivial,ok,hp,ty,h,h1⟩⟩))
 | qk h0=>exact j4 (ycu (ydu (hta _ ⟨p,dx,_,rfl,hp,ydf,ht _ ⟨p,dx,.qk h0,x,_,rfl,trivial,ok,hp,ty,h,h2⟩⟩)))
 | rn l n=>exact j4 (j4 (ydu (hta _ ⟨p,dx,_,rfl,hp,ygc,ht _ ⟨p,dx,.rn l n,x,_,rfl,trivial,ok,hp,ty,h,h3⟩⟩)))
def gvv (c b:Int):Int:=if b=1 then c else 16777216 - c
theorem ypz {x:V} (h:chV x=true):∃ c,x=.int c/\32768 <= c/\c <= 16744448:=by
 cases x with
 | int i =>
  simp only [chV,Bool.and_eq_true,decide_eq_true_eq] at h
  exact ⟨i,rfl,h.1,h.2⟩
 | _=>cases h
theorem yl8 {x:V} (h:yai x=true):∃ b,x=.int b/\0 <= b/\b <= 1:=by
 cases x with
 | int i =>
  simp only [yai,Bool.and_eq_true,decide_eq_true_eq] at h
  exact ⟨i,rfl,h.1,h.2⟩
 | _=>cases h
theorem yn7 {c:Int} (h:Ch c):chV (.int c)=true:=by
 obtain ⟨b,a⟩:=h
 simp only [chV,Bool.and_eq_true,decide_eq_true_eq]
 omega
theorem yj8 {b:Int} (h1:0 <= b) (h2:b <= 1):yai (.int b)=true:=by
 simp only [yai,Bool.and_eq_true,decide_eq_true_eq]
 omega
theorem zn {xs:List V} {i:Int} (h0:0 <= i) (h1:i < xs.length):∃ v,v∈xs/\atI xs i=some v:=by
 obtain ⟨j,rfl⟩:∃ j:Nat,i=(j:Int):=⟨i.toNat,by omega⟩
 have a:j < xs.length:=by omega
 exact ⟨xs[j],List.getElem_mem a,xx (List.getElem?_eq_getElem a)⟩
theorem yds {H:Hp}:∀ bs:List Bool,yiz K H (bs.map V.bl) (bs.map PyData.bool)
 | []=>.nil
 | n :: r=>.cons (.bl n) (yds r)
theorem yb8:∀ ns:List Bool,PyData.canLayAll0 (ns.map PyData.bool)=true
 | []=>rfl
 | _ :: r=>by simp [PyData.canLayAll0,PyData.canLay0,yb8 r]
theorem yex:∀ ns:List Bool,PyData.depthAll (ns.map PyData.bool)=0
 | []=>rfl
 | _ :: r=>by simp [PyData.depthAll,PyData.depth,yex r]
theorem ycf (ns:List Bool):SeqAt.shaped (.list (ns.map PyData.bool))=true:=by
 simp [SeqAt.shaped,PyData.canLay0,PyData.depth,yb8,yex]
theorem ycc:∀ ns ms:List Bool,PyData.eqvAll (ns.map PyData.bool) (ms.map PyData.bool)=decide (ns=ms)
 | [],[]=>by simp [PyData.eqvAll]
 | [],_ :: _=>by simp [PyData.eqvAll]
 | _ :: _,[]=>by simp [PyData.eqvAll]
 | a :: r,b :: t=>by
  simp only [List.map_cons,PyData.eqvAll,PyData.eqv,ycc r t]
  by_cases h:a=b <;> by_cases h':r=t <;> simp [h,h']
theorem yh1 {g:Bool->Bool} {H:Hp} {Q:VK} {a b:Addr} (ns ms:List Bool) (ha:SqL K H a (ns.map V.bl)) (hb:SqL K H b (ms.map V.bl)) (h:Q (.bl (g (decide (ns=ms)))) H):yx4 K g (.ref a) (.ref b) H Q :=
 ⟨_,_,.lst ha (yds ns),.lst hb (yds ms),ycf ns,ycf ms,by rw [PyData.eqv,ycc]; exact h⟩
theorem ud {H H':Hp} {v:V} {n:String} (S:yz H H') (t:xp K H v (.type n)):xp K H' v (.type n):=by
 cases t with
 | non=>exact .non
 | bl b=>exact .bl b
 | int i=>exact .int i
 | str x=>exact .str x
 | flt x=>exact .flt x
 | lst e=>exact .lst (S _ _ e)
 | frz e=>exact .frz (S _ _ e)
 | tup e=>exact .tup (S _ _ e)
 | dK e=>exact .dK (S _ _ e)
 | dT e=>exact .dT (S _ _ e)
def sgV:V->Bool
 | .int i=>decide (0 <= i) && decide (i <= 255)
 | _=>false
def Typed (K:W.Frag) (H:Hp) (xs:List V):Prop:=∀ y∈xs,∃ k:String,xp K H y (.type k)
theorem Typed.same {H H':Hp} {xs:List V} (t:Law.Typed K H xs) (S:yz H H'):Law.Typed K H' xs:=fun y a=>let ⟨k,z⟩:=t y a; ⟨k,ud S z⟩
theorem ja {H:Hp} (ns:List Int):Typed K H (ns.map V.int):=fun y a=>by
 obtain ⟨i,_,rfl⟩:=List.mem_map.mp a
 exact ⟨_,.int i⟩
def Bad (K:W.Frag) (H:Hp) (x:V) (n:String) (m:Int):Prop:=n≠"list"\/∃ p xs,x=.ref p/\H p=some (.lst xs)/\Typed K H xs/\xs.length <= 100000/\(decide ((xs.length:Int) <= m) && xs.all sgV)=false
def Good (K:W.Frag) (H:Hp) (x:V) (xs:List V) (m:Int):Prop:=∃ p,x=.ref p/\H p=some (.lst xs)/\Typed K H xs/\xs.length <= 100000/\(decide ((xs.length:Int) <= m) && xs.all sgV)=true
theorem Bad.same {H H':Hp} {x:V} {n:String} {m:Int} (h:Law.Bad K H x n m) (S:yz H H'):Law.Bad K H' x n m:=by
 rcases h with h | ⟨p,a,e,b,t,r⟩
 ·exact .inl h
 ·exact .inr ⟨p,a,e,S _ _ b,t.same S,r⟩
theorem Good.same {H H':Hp} {x:V} {xs:List V} {m:Int} (h:Law.Good K H x xs m) (S:yz H H'):Law.Good K H' x xs m:=by
 obtain ⟨p,e,a,t,r⟩:=h
 exact ⟨p,e,S _ _ a,t.same S,r⟩
theorem yp4 {H:Hp} {x:V} {n:String} (ty:xp K H x (.type n)):W.kitOne K (.type n) (.type "list")=some (decide (n="list")):=by
 cases ty <;> rfl
theorem yl2 {n:Nat} (h:n <= 100000):n < sizeLine:=Nat.lt_of_le_of_lt h (by decide)
theorem yp3 {ns:List Int} (h:∀ i∈ns,0 <= i/\i <= 255):(ns.map V.int).all sgV=true:=by
 rw [List.all_map,List.all_eq_true]
 intro i b
 obtain ⟨c,a⟩:=h i b
 simp [sgV,c,a]
inductive ycr (K:W.Frag) (C:Addr) (m:Int) (vs:List V) (H:Hp) (Q:VK) (E:XK):Prop
 | mk (x n:_):(vs=[x])->(xp K H x (.type n))->(((Bad K H x n m/\∀ H',yz H H'->E (.ref C) none H')\/∃ xs,Good K H x xs m/\∀ r H',H r=none->H' r=some (.lst xs)->yz H H'->Q (.ref r) H'))->ycr K C m vs H Q E
def Sgs (ns:List Int):Prop:=∀ i∈ns,0 <= i/\i <= 255
def wth:List Int:=[128,64,32,16,8,4,2,1]
def b8 (s:Int):List Int:=wth.map (fun w=>s / w % 2)
def dec:List Int->List Int
 | []=>[0]
 | s :: r=>(1 :: b8 s)++dec r
def yfm:List Int->List Int
 | []=>[]
 | s :: r=>(1 :: b8 s)++yfm r
theorem ym6:∀ ns,dec ns=yfm ns++[0]
 | []=>rfl
 | s :: r=>by simp [dec,yfm,ym6 r]
theorem yem (s:Int):∀ ns,yfm (ns++[s])=yfm ns++(1 :: b8 s)
 | []=>by simp [yfm]
 | t :: r=>by simp [yfm,yem s r]
theorem yn9 (s:Int):(b8 s).length=8:=rfl
theorem jb:∀ ns:List Int,(yfm ns).length=9 * ns.length
 | []=>rfl
 | s :: r=>by
  show ((1 :: b8 s)++yfm r).length=9 * (r.length+1)
  rw [List.length_append,jb r]
  show 9+_=_
  omega
theorem yp5 (s:Int):yx1 (b8 s):=fun b c=>by
 obtain ⟨w,_,rfl⟩:=List.mem_map.mp c
 have a:0 <= s / w % 2:=Int.emod_nonneg _ (by decide)
 have d:s / w % 2 < 2:=Int.emod_lt_of_pos _ (by decide)
 exact ⟨a,by omega⟩
theorem ya2:∀ ns,yx1 (dec ns)
 | []=>fun b a=>by rw [List.mem_singleton.mp a]; decide
 | s :: r=>by
  refine ymz (fun b a=>?_) (ya2 r)
  rcases List.mem_cons.mp a with rfl | a
  ·decide
  ·exact yp5 s b a
def wV (s:Int):V->V
 | .int w=>.int (s / w % 2)
 | _=>.non
theorem ydr {H:Hp} {d:List Int} (h:H p=some (.lst (d.map V.int))) (hb:Sgs d) (hz:d.length <= 1000):Good K H (.ref p) (d.map V.int) 1000 :=
 ⟨p,rfl,h,ja d,by rw [List.length_map]; omega,by rw [yp3 hb,List.length_map,decide_eq_true (by omega)]; rfl⟩
theorem yma (xs ys:List Int):xs.map V.int++ys.map V.int=(xs++ys).map V.int:=by simp
theorem jn (ns:List Int):(dec ns).length=9 * ns.length+1:=by rw [ym6,List.length_append,jb]; rfl
def ya7 (f:List Int->Option Slt) (k:List Int) (s:Slt):List Int->Option Slt:=fun j=>if j=k then some s else f j
def yno:HO->Bool
 | .ins _ _ _=>true
 | .dT _=>true
 | _=>false
def kI (k:List Int):List Key:=k.map Sum.inl
theorem yv6 (k:List Int):(kI k).map kV=k.map V.int:=by
 unfold kI
 rw [List.map_map]
 rfl
theorem yfg {j k:List Int} (h:kI j=kI k):j=k:=by
 unfold kI at h
 induction j generalizing k with
 | nil =>
  cases k with
  | nil=>rfl
  | cons _ _=>cases h
 | cons x r ih =>
  cases k with
  | nil=>cases h
  | cons y s =>
   injection h with h1 h2
   injection h1 with h1
   rw [h1,ih h2]
def yni (H:Hp) (d:Addr):Prop:=∀ kvs,H d=some (.dT kvs)->(kvs.map (·.1)).Nodup/\∀ q∈kvs,∃ k,q.1=kI k
theorem yni.mv {H H':Hp} {kvs:List (List Key × V)} (h:yni H d) (h1:H d=some (.dT kvs)) (h2:H' d=some (.dT kvs)):yni H' d:=fun a e=>by
 rw [h2] at e
 cases e
 exact h kvs h1
theorem ymk {kvs:List (List Key × V)} {k:List Key} (h:jf kvs k=none):k∉kvs.map (·.1):=fun m=>by
 obtain ⟨p,b,e⟩:=List.mem_map.mp m
 have a:=u9 k kvs
 rw [h] at a
 exact List.any_eq_false.mp a p b (decide_eq_true e)
theorem yni.snoc {H':Hp} {kvs:List (List Key × V)} {k:List Int} {v:V} (h:(kvs.map (·.1)).Nodup/\∀ q∈kvs,∃ k,q.1=kI k) (hn:jf kvs (kI k)=none) (h2:H' d=some (.dT (yc0 kvs (kI k) v))):yni H' d:=fun a e=>by
 rw [h2,ydp _ hn] at e
 cases e
 rw [List.map_append]
 refine ⟨List.nodup_append.mpr ⟨h.1,List.nodup_cons.mpr ⟨List.not_mem_nil,List.nodup_nil⟩,fun x b y c z=>?_⟩,fun q f=>?_⟩
 ·rw [z,List.mem_singleton.mp c] at b
  exact ymk hn b
 ·rcases List.mem_append.mp f with w | w
  ·exact h.2 q w
  ·rw [List.mem_singleton.mp w]
   exact ⟨k,rfl⟩
structure jj (a:Ads) (H:Hp) (p dx lk d:Addr) (kd:Fin 3) (f:List Int->Option Slt) (O:Addr->Prop) (m:Nat):Prop where
 me:H p=some (.ins a.A9 dx (yct (.ref lk) (.ref d)))
 own:∀ b,O b->∃ o,H b=some o/\yno o=true
 np:¬ O p
 dO:O d
 ky:yni H d
 tb:∃ (kvs:List (List Key × V)) (loc:List Int->Addr × Addr),H d=some (.dT kvs)/\kvs.length <= m/\(∀ k,f k=none->jf kvs (kI k)=none) /\
  (∀ k s,f k=some s->jf kvs (kI k)=some (.ref (loc k).1)/\H (loc k).1=some (oS a (loc k).2 s)/\s.ok/\s.kind=kd/\O (loc k).1)/\(∀ k j s t,f k=some s->f j=some t->(loc k).1=(loc j).1->k=j)
def ylr (O:Addr->Prop) (H H':Hp):Prop:=∀ b o,H b=some o->¬ O b->H' b=some o
section
variable {H H':Hp} {dx lk:Addr} {kd:Fin 3} {f:List Int->Option Slt} {O:Addr->Prop} {m:Nat}
theorem jj.frame (h:jj a H p dx lk d kd f O m) (B:ylr O2 H H') (dj:∀ b,O b->¬ O2 b) (hp:¬ O2 p):jj a H' p dx lk d kd f O m:=by
 obtain ⟨c,e,g,l,q,n,t⟩:=h.tb
 refine ⟨B _ _ h.me hp,fun b i=>?_,h.np,h.dO,h.ky.mv g (B _ _ g (dj _ h.dO)),c,e,B _ _ g (dj _ h.dO),l,q,fun k s z=>?_,t⟩
 ·obtain ⟨o,w,u⟩:=h.own b i
  exact ⟨o,B _ _ w (dj b i),u⟩
 ·obtain ⟨r,y,x,v,j⟩:=n k s z
  exact ⟨r,B _ _ y (dj _ j),x,v,j⟩
theorem jj.same (h:jj a H p dx lk d kd f O m) (S:yz H H'):jj a H' p dx lk d kd f O m:=h.frame (O2:=fun _=>False) (fun b o e _=>S b o e) (fun _ _ z=>z) (fun z=>z)
theorem jj.lst (h:jj a H p dx lk d kd f O m) (B:ylr O H H') {l:Addr} {xs:List V} (e:H l=some (.lst xs)):H' l=some (.lst xs):=B _ _ e fun z=>by
 obtain ⟨o,b,c⟩:=h.own l z
 rw [e] at b
 cases b
 cases c
theorem jj.tup (h:jj a H p dx lk d kd f O m) (B:ylr O H H') {l:Addr} {xs:List V} (e:H l=some (.tup xs)):H' l=some (.tup xs):=B _ _ e fun z=>by
 obtain ⟨o,b,c⟩:=h.own l z
 rw [e] at b
 cases b
 cases c
end
inductive za (o:Addr->Slt->HO) (g:Slt->Prop) (vs:List V) (H:Hp) (Q:VK) (E':XK):Prop
 | mk (p dx:Addr) (s:Slt):(vs=[.ref p])->(g s)->(H p=some (o dx s))->(∀ q dq H',H q=none->H' q=some (o dq s)->yz H H'->Q (.ref q) H')->za o g vs H Q E'
theorem yqo {dx:Addr} {s:Slt} {ta:TE} {σ:St} {H:Hp} {Q:VK} {E1 E2 E3:XK} (hta:∀ Q':VK,Q' (.ref p) H->ta σ H Q') (hp:H p=some (oS a dx s)) (h:∀ q dq H',H q=none->H' q=some (oS a dq s)->yz H H'->Q (.ref q) H') :
  ynk (yb5 a.A6 "twin" (za (oS a) ytt) [] E1 ta yd5) (ynk (yb5 a.A5 "twin" (za (oS a) ytu) [] E2 ta yd5) (yb5 a.Aa "twin" (za (oS a) ytq) [] E3 ta yd5)) σ H Q:=by
 cases s with
 | ev n o=>exact ycu (yb0 (hta _ ⟨p,dx,_,rfl,hp,yed,p,dx,.ev n o,rfl,trivial,hp,h⟩))
 | qk h0=>exact j4 (ycu (yb0 (hta _ ⟨p,dx,_,rfl,hp,yc9,p,dx,.qk h0,rfl,trivial,hp,h⟩)))
 | rn l n=>exact j4 (j4 (yb0 (hta _ ⟨p,dx,_,rfl,hp,yfs,p,dx,.rn l n,rfl,trivial,hp,h⟩)))
theorem uy {H H1:Hp} {o o':HO} (nq:H q=none) (nd:H dq=none) (B:But q (upd (upd H dq o) q o') H1):yz H H1:=fun b u e=>B b u (by rw [ym (yc e nq),ym (yc e nd)]; exact e) (yc e nq)
open MixI
structure ygq (a:Ads) (p dx l:Addr) (ws:List Int) (H:Hp):Prop where
 o:H p=some (.ins a.B6 dx (yx5 (.ref l)))
 l:H l=some (.lst (ws.map V.int))
theorem ygq.same {dx l:Addr} {ws:List Int} {H H':Hp} (m:ygq a p dx l ws H) (S:yz H H'):ygq a p dx l ws H':=⟨S _ _ m.o,S _ _ m.l⟩
theorem ygq.but {dx l:Addr} {ws:List Int} {H H':Hp} (m:ygq a p dx l ws H) (h:p≠q) {fs:List (Str × V)} (hq:H q=some (.ins C dq fs)) (B:But q H H'):ygq a p dx l ws H':=⟨B _ _ m.o h,B.lst hq m.l⟩
theorem ymw {H:Hp} {x:V} {n:String} (ty:xp K H x (.type n)):W.kitOne K (.type n) (.type "list")=some (decide (n="list")):=by cases ty <;> rfl
theorem yuz {k:Nat} {cs:List Int} (h:COk k cs) {c:Int} (hm:c∈cs):Ch c:=⟨h.lo c hm,h.hi c hm⟩
theorem yol {g:Int->Int->Int} {ws cs:List Int} (h:cs.length=ws.length):(List.range (ws.map V.int).length).map (fun i=>V.int (g ((ws[i]?).getD 0) ((cs[i]?).getD 0)))=(List.zipWith g ws cs).map V.int:=by
 rw [List.length_map,<- yjo h,List.map_map]
 rfl
theorem ygs {H:Hp} {xs ys:List V} (h:H D=some (.lst xs)) (e:xs=ys):H D=some (.lst ys):=e ▸ h
inductive yev (K:W.Frag) (a:Ads) (vs:List V) (H:Hp) (Q:VK) (E':XK):Prop
 | mk (p dx l c:Addr) (ws cs:List Int) (k:Nat):(vs=[.ref p,.ref c])->(1 <= k)->(k <= 6)->(WOk k ws)->(COk k cs)->(ygq a p dx l ws H)->(SqL K H c (cs.map V.int))->(∀ H',yz H H'->Q (.int (ylw ws cs)) H')->yev K a vs H Q E'
inductive yep (K:W.Frag) (a:Ads) (C:Addr) (vs:List V) (H:Hp) (Q:VK) (E:XK):Prop
 | mk (p dx l c:Addr) (ws cs:List Int) (k:Nat) (x:V) (n:String):(vs=[.ref p,.ref c,x])->(1 <= k)->(k <= 6)->(WOk k ws)->(COk k cs)->(ygq a p dx l ws H)->(SqL K H c (cs.map V.int))->(xp K H x (.type n))->((∀ b:Int,x=.int b->0 <= b->b <= 1->∀ l' H',H l'=none->ygq a p dx l' (lrn ws cs b) H'->But p H H'->Q .non H'))->((yai x=false->E (.ref C) none H))->yep K a C vs H Q E
inductive ybn (a:Ads) (vs:List V) (H:Hp) (Q:VK) (E':XK):Prop
 | mk (p dx l:Addr) (ws:List Int):(vs=[.ref p])->(ygq a p dx l ws H)->(∀ r H',H r=none->H' r=some (.lst (ws.map V.int))->yz H H'->Q (.ref r) H')->ybn a vs H Q E'
inductive ygy (a:Ads) (vs:List V) (H:Hp) (Q:VK) (E':XK):Prop
 | mk (p dx:Addr) (k:Nat):(vs=[.ref p,.int k])->(1 <= k)->(k <= 6)->(H p=some (.ins a.B6 dx []))->(∀ l H',H l=none->ygq a p dx l (List.replicate k 1099511627776) H'->But p H H'->Q .non H')->ygy a vs H Q E'
def ygm:V->Bool
 | .str s=>inV (.str s) [V.str "even",V.str "quick",V.str "run"]
 | _=>false
def plV:V->Bool
 | .int i=>decide (1 <= i) && decide (i <= 8)
 | _=>false
def ltV:V->V->Bool
 | .int i,.int j=>decide (i < j)
 | _,_=>false
def yz1 (xs:List V):Bool:=(List.zipWith ltV xs xs.tail).all id
def uv (xs:List V):Bool:=decide (xs.length <= 4) && xs.all plV && yz1 xs
def PlB (K:W.Frag) (H:Hp) (x:V) (b:Bool):Prop:=(∃ n,xp K H x (.type n)/\n≠"tuple"/\b=false)\/∃ t xs,x=.ref t/\H t=some (.tup xs)/\xs.length <= 1000/\(∀ y∈xs,∃ n:String,xp K H y (.type n))/\b=uv xs
def LkB (K:W.Frag) (H:Hp) (x:V) (b:Bool):Prop:=(∃ n,xp K H x (.type n)/\n≠"tuple"/\b=false) \/
 ∃ t xs,x=.ref t/\H t=some (.tup xs)/\((xs.length≠2/\b=false)\/∃ y z n,xs=[y,z]/\xp K H y (.type n)/\((ygm y=false/\b=false)\/(ygm y=true/\PlB K H z b)))
theorem PlB.same {H H':Hp} {x:V} {b:Bool} (h:PlB K H x b) (S:yz H H'):PlB K H' x b:=by
 rcases h with ⟨n,t,g,e⟩ | ⟨t,d,e,c,i,j,a⟩
 ·exact .inl ⟨n,ud S t,g,e⟩
 ·exact .inr ⟨t,d,e,S _ _ c,i,fun y f=>let ⟨n,z⟩:=j y f; ⟨n,ud S z⟩,a⟩
theorem LkB.same {H H':Hp} {x:V} {b:Bool} (h:LkB K H x b) (S:yz H H'):LkB K H' x b:=by
 rcases h with ⟨n,t,g,e⟩ | ⟨t,f,e,d,h⟩
 ·exact .inl ⟨n,ud S t,g,e⟩
 ·refine .inr ⟨t,f,e,S _ _ d,?_⟩
  rcases h with h | ⟨y,z,n,i,a,h⟩
  ·exact .inl h
  ·refine .inr ⟨y,z,n,i,ud S a,?_⟩
   rcases h with h | ⟨j,c⟩
   ·exact .inl h
   ·exact .inr ⟨j,c.same S⟩
theorem ya1 {H:Hp} {x:V} {n:String} (ty:xp K H x (.type n)):W.kitOne K (.type n) (.type "tuple")=some (decide (n="tuple")):=by cases ty <;> rfl
theorem yl0 {H:Hp} {x:V} {n:String} (ty:xp K H x (.type n)):W.kitOne K (.type n) (.type "str")=some (decide (n="str")):=by cases ty <;> rfl
theorem ydj {H:Hp} {x:V} {n:String} (ty:xp K H x (.type n)):W.kitOne K (.type n) (.type "list")=some (decide (n="list")):=by cases ty <;> rfl
theorem yq7 {xs:List V} {y:V} (h:xs.tail[i]?=some y):xs[i+1]?=some y:=by
 cases xs with
 | nil=>simp at h
 | cons x r=>simpa using h
theorem yi6 (xs:List V):(List.range xs.tail.length).map (fun i=>V.bl (ltV ((xs[i]?).getD .non) ((xs.tail[i]?).getD .non)))=(List.zipWith ltV xs xs.tail).map V.bl:=by
 apply List.ext_getElem
 ·rw [List.length_map,List.length_range,List.length_map,List.length_zipWith,List.length_tail]; omega
 ·intro i a c
  rw [List.length_map,List.length_range] at a
  have b:i < xs.length:=by rw [List.length_tail] at a; omega
  rw [List.getElem_map,List.getElem_range,List.getElem_map,List.getElem_zipWith,List.getElem?_eq_getElem a,List.getElem?_eq_getElem b]
  rfl
theorem ykq {t u:Addr} {xs:List V} {te:TE} {fr:St} {R:Hp->Prop} {H1:Hp} (hint:∀ y∈xs,∃ i:Int,y=.int i) (hl:xs.length <= 1000) (ht:SqT K H1 t xs) (hu:SqT K H1 u xs.tail) (hD:H1 D=none)
  (hte:∀ (i j:Int) (σ':St) (H':Hp) (Q':VK),Q' (.bl (decide (i < j))) H'->te (some (.int i) :: some (.int j) :: σ') H' Q') (hR:∀ H,yz H1 H->H D=some (.lst ((List.zipWith ltV xs xs.tail).map V.bl))->R H) :
  zr (yx2 K t u) (ypf K 2 (xu (vn 0) (xu (vn 1) yi1))) te 2 fr D R H1:=by
 refine yfx (m:=xs.tail.length) (fun i=>V.bl (ltV ((xs[i]?).getD .non) ((xs.tail[i]?).getD .non))) ht hu (by rw [List.length_tail]; omega) (Nat.le_refl _) (.inr (Nat.le_refl _)) hD (fun i x y h k w z r q l a f e=>?_) (fun h l a=>?_)
 ·obtain ⟨v,s,rfl⟩:=ykx e
  obtain ⟨c,rfl⟩:=hint x (List.mem_of_getElem? r)
  obtain ⟨d,rfl⟩:=hint y (List.mem_of_getElem? (yq7 q))
  have n:=l.trans (vd (o:=HO.tup [V.int c,V.int d]) f)
  have g:=ww (o':=HO.tup [V.int c,V.int d]) f a
  have b:upd h k (HO.tup [V.int c,V.int d]) k=some (.tup [V.int c,V.int d]):=yd
  generalize upd h k (HO.tup [V.int c,V.int d])=p at n g b
  refine yat (SqT.of b) rfl ?_
  show xu (vn 0) (xu (vn 1) yi1) [V.int c,V.int d] (v :: s :: fr) p _
  rfl'
  refine ⟨⟨[some (.int c),some (.int d)],rfl,rfl⟩,?_⟩
  refine hte c d fr p _ ?_
  refine Mp.doneR hD (vj (by rw [List.length_tail]; omega)) z n g ?_
  rw [r,q]
  rfl
 ·exact hR h l (by rw [<- yi6]; exact a)
theorem ypp (xs:List V):yi0 xs (some 1) none=xs.tail:=by
 unfold yi0
 have e:HT.sIx xs.length 0 (some 1)=min 1 xs.length:=by
  have:=HT.sIx_nat xs.length 0 1
  simpa using this
 rw [HT.sIx_none,e]
 cases xs with
 | nil=>rfl
 | cons x r=>simp
theorem ymh {n:Nat} (bs:List Bool) (h:n=bs.length):(List.range n).map (fun i=>V.bl ((bs[i]?).getD false))=bs.map V.bl:=by
 subst h
 apply List.ext_getElem
 ·rw [List.length_map,List.length_range,List.length_map]
 ·intro i a b
  rw [List.length_map,List.length_range] at a
  rw [List.getElem_map,List.getElem_range,List.getElem_map,List.getElem?_eq_getElem a]
  rfl
def ygr (K:W.Frag) (H:Hp) (xs:List V) (bs:List Bool):Prop:=xs.length=bs.length/\∀ (i:Nat) (y:V) (b:Bool),xs[i]?=some y->bs[i]?=some b->LkB K H y b
theorem ygr.same {H H':Hp} {xs:List V} {bs:List Bool} (h:ygr K H xs bs) (S:yz H H'):ygr K H' xs bs:=⟨h.1,fun i y b c a=>(h.2 i y b c a).same S⟩
def LkG (H:Hp) (v:V) (kd:Fin 3) (tp:Addr) (ps:List Int):Prop:=∃ lk,v=.ref lk/\H lk=some (.tup [.str (kdS kd),.ref tp])/\H tp=some (.tup (ps.map V.int))/\uv (ps.map V.int)=true
theorem LkG.same {H H':Hp} {v:V} {kd:Fin 3} {tp:Addr} {ps:List Int} (h:LkG H v kd tp ps) (S:yz H H'):LkG H' v kd tp ps:=by
 obtain ⟨c,e,d,a,b⟩:=h
 exact ⟨c,e,S _ _ d,S _ _ a,b⟩
theorem ykf (kd:Fin 3):ygm (.str (kdS kd))=true:=by
 match kd with
 | 0=>rfl
 | 1=>rfl
 | 2=>rfl
theorem yio {xs:List V} (h:uv xs=true):xs.length <= 4:=by
 unfold uv at h
 rw [Bool.and_eq_true,Bool.and_eq_true] at h
 exact of_decide_eq_true h.1.1
theorem LkG.tells {H:Hp} {v:V} {kd:Fin 3} {tp:Addr} {ps:List Int} (h:LkG H v kd tp ps):LkB K H v true:=by
 obtain ⟨c,e,d,b,a⟩:=h
 have:=yio a
 refine .inr ⟨c,_,e,d,.inr ⟨_,_,"str",rfl,.str _,.inr ⟨ykf kd,.inr ⟨tp,_,rfl,b,by omega,fun y f=>?_,a.symm⟩⟩⟩⟩
 obtain ⟨i,_,rfl⟩:=List.mem_map.mp f
 exact ⟨_,.int i⟩
theorem yot:∀ {ps:List Int},ps.Pairwise (· < ·)->yz1 (ps.map V.int)=true
 | [],_=>rfl
 | [_],_=>rfl
 | p :: q :: r,h=>by
  have b:p < q:=(List.pairwise_cons.mp h).1 q (by simp)
  have a:=yot (List.pairwise_cons.mp h).2
  unfold yz1 at a ⊢
  simp only [List.map_cons,List.tail_cons,List.zipWith_cons_cons,List.all_cons] at a ⊢
  rw [show ltV (V.int p) (V.int q)=true from decide_eq_true b]
  simpa using a
theorem yjw {ps:List Int} (h1:ps.length <= 4) (h2:∀ p∈ps,1 <= p/\p <= 8) (h3:ps.Pairwise (· < ·)):uv (ps.map V.int)=true:=by
 unfold uv
 rw [List.length_map,decide_eq_true h1,yot h3,Bool.true_and,Bool.and_true,List.all_eq_true]
 intro y a
 obtain ⟨i,b,rfl⟩:=List.mem_map.mp a
 have:=h2 i b
 show (decide (1 <= i) && decide (i <= 8))=true
 rw [decide_eq_true this.1,decide_eq_true this.2]
 rfl
def Lks (H:Hp) (xs:List V):Prop:=∀ y∈xs,∃ kd tp ps,LkG H y kd tp ps
theorem Lks.same {H H':Hp} {xs:List V} (h:Lks H xs) (S:yz H H'):Lks H' xs:=fun y a=>let ⟨kd,tp,ps,z⟩:=h y a; ⟨kd,tp,ps,z.same S⟩
def dLk (kd:Fin 3) (ps:List Int):PyData:=.tuple [.str (kdS kd),.tuple (ps.map PyData.int)]
theorem LkG.rd {H:Hp} {v:V} {kd:Fin 3} {tp:Addr} {ps:List Int} (h:LkG H v kd tp ps):RdV K H v (dLk kd ps):=by
 obtain ⟨c,rfl,b,a,_⟩:=h
 exact .tup (SqT.of b) (.cons (.str _) (.cons (.tup (SqT.of a) (zl ps)) .nil))
theorem Lks.bs {H:Hp} {xs:List V} (h:Lks H xs):ygr K H xs (List.replicate xs.length true):=by
 refine ⟨by rw [List.length_replicate],fun i y b d a=>?_⟩
 have c:b=true:=List.eq_of_mem_replicate (List.mem_of_getElem? a)
 obtain ⟨g,e,f,z⟩:=h y (List.mem_of_getElem? d)
 rw [c]
 exact z.tells
theorem yp6 (n:Nat):(List.replicate n true).all id=true:=by simp
def ynp (K:W.Frag) (H:Hp) (x:V):Prop:=(∃ n,xp K H x (.type n)/\n≠"list")\/∃ l xs bs,x=.ref l/\H l=some (.lst xs)/\xs.length <= 1000/\ygr K H xs bs/\¬ (1 <= xs.length/\xs.length <= 6/\bs.all id=true)
theorem ynp.same {H H':Hp} {x:V} (h:ynp K H x) (S:yz H H'):ynp K H' x:=by
 rcases h with ⟨n,a,g⟩ | ⟨l,d,f,e,i,j,b,c⟩
 ·exact .inl ⟨n,ud S a,g⟩
 ·exact .inr ⟨l,d,f,e,S _ _ i,j,b.same S,c⟩
theorem LkG.upd {H:Hp} {v:V} {kd:Fin 3} {tp l:Addr} {ps:List Int} {xs ys:List V} (h:LkG H v kd tp ps) (hl:H l=some (.lst xs)):LkG (L2.upd H l (.lst ys)) v kd tp ps:=by
 obtain ⟨d,e,b,a,c⟩:=h
 exact ⟨d,e,yi (x9 b hl (by intro z; cases z)) b,yi (x9 a hl (by intro z; cases z)) a,c⟩
theorem Lks.upd {H:Hp} {l:Addr} {xs ys zs:List V} (h:Lks H zs) (hl:H l=some (.lst xs)):Lks (L2.upd H l (.lst ys)) zs:=fun y a=>let ⟨kd,tp,ps,z⟩:=h y a; ⟨kd,tp,ps,z.upd hl⟩
theorem ygr.append {H:Hp} {xs ys:List V} {bs cs:List Bool} (h1:ygr K H xs bs) (h2:ygr K H ys cs):ygr K H (xs++ys) (bs++cs):=by
 refine ⟨by rw [List.length_append,List.length_append,h1.1,h2.1],fun i y b c a=>?_⟩
 rcases Nat.lt_or_ge i xs.length with q | q
 ·rw [List.getElem?_append_left q] at c
  rw [List.getElem?_append_left (by rw [<- h1.1]; exact q)] at a
  exact h1.2 i y b c a
 ·rw [List.getElem?_append_right q] at c
  rw [List.getElem?_append_right (by rw [<- h1.1]; exact q),<- h1.1] at a
  exact h2.2 _ y b c a
theorem ygr.one {H:Hp} {v:V} {b:Bool} (h:LkB K H v b):ygr K H [v] [b]:=by
 refine ⟨rfl,fun i y d a c=>?_⟩
 cases i with
 | zero =>
  cases a
  cases c
  exact h
 | succ j=>simp at a
def upN {α:Type} (g:Nat->α) (n:Nat) (x:α):Nat->α:=fun j=>if j=n then x else g j
theorem vw {α:Type} {g:Nat->α} {n:Nat} {x:α}:upN g n x n=x:=if_pos rfl
theorem vp {α:Type} {g:Nat->α} {n:Nat} {x:α} (h:j < n):upN g n x j=g j:=if_neg (by omega)
theorem yp8 (c:Int):∃ kk:Fin 3,atI [V.str "even",V.str "quick",V.str "run"] (c % 3)=some (V.str (kdS kk)):=by
 have a:0 <= c % 3:=Int.emod_nonneg _ (by decide)
 have b:c % 3 < 3:=Int.emod_lt_of_pos _ (by decide)
 generalize c % 3=z at a b
 obtain rfl | rfl | rfl:z=0\/z=1\/z=2:=by omega
 ·exact ⟨0,rfl⟩
 ·exact ⟨1,rfl⟩
 ·exact ⟨2,rfl⟩
def zg (H:Hp) (n:Nat) (lk:Nat->Addr) (kd:Nat->Fin 3) (tp:Nat->Addr) (ps:Nat->List Int):Prop:=∀ i,i < n->LkG H (.ref (lk i)) (kd i) (tp i) (ps i)
theorem zg.same {H H':Hp} {n:Nat} {lk:Nat->Addr} {kd:Nat->Fin 3} {ps:Nat->List Int} (h:zg H n lk kd tp ps) (S:yz H H'):zg H' n lk kd tp ps:=fun i a=>(h i a).same S
structure Sd (K:W.Frag) (H:Hp) (v:V) (d:PyData) (k:Nat):Prop where
 rd:RdV K H v d
 lay:d.canLay0=true
 dep:d.depth <= k
 eq:PyData.eqv d d=true
structure Sds (K:W.Frag) (H:Hp) (xs:List V) (ds:List PyData) (k:Nat):Prop where
 rd:yiz K H xs ds
 lay:PyData.canLayAll0 ds=true
 dep:PyData.depthAll ds <= k
 eq:PyData.eqvAll ds ds=true
theorem Sd.int {H:Hp} (i:Int) {k:Nat}:Sd K H (.int i) (.int i) k:=⟨.int i,by simp [PyData.canLay0],by simp [PyData.depth],by simp [PyData.eqv]⟩
theorem Sd.bl {H:Hp} (b:Bool) {k:Nat}:Sd K H (.bl b) (.bool b) k:=⟨.bl b,by simp [PyData.canLay0],by simp [PyData.depth],by simp [PyData.eqv]⟩
theorem Sds.nil {H:Hp} {k:Nat}:Sds K H [] [] k:=⟨.nil,rfl,Nat.zero_le _,by simp [PyData.eqvAll]⟩
theorem Sds.cons {H:Hp} {v:V} {d:PyData} {xs:List V} {ds:List PyData} {k:Nat} (h:Sd K H v d k) (r:Sds K H xs ds k):Sds K H (v :: xs) (d :: ds) k:=by
 refine ⟨.cons h.rd r.rd,by simp [PyData.canLayAll0,h.lay,r.lay],?_,by simp [PyData.eqvAll,h.eq,r.eq]⟩
 have b:=h.dep
 have a:=r.dep
 simp only [PyData.depthAll]
 omega
theorem Sds.ints {H:Hp} (ns:List Int) {k:Nat}:Sds K H (ns.map V.int) (ns.map PyData.int) k:=⟨zl ns,jk ns,by rw [yag]; exact Nat.zero_le _,by rw [jm,decide_eq_true rfl]⟩
theorem Sd.lst {H:Hp} {xs:List V} {ds:List PyData} {k:Nat} (h:SqL K H p xs) (r:Sds K H xs ds k):Sd K H (.ref p) (.list ds) (k+1):=by
 refine ⟨.lst h r.rd,by simp [PyData.canLay0,r.lay],?_,by simp [PyData.eqv,r.eq]⟩
 have a:=r.dep
 simp only [PyData.depth]
 omega
theorem Sd.tup {H:Hp} {xs:List V} {ds:List PyData} {k:Nat} (h:SqT K H p xs) (r:Sds K H xs ds k):Sd K H (.ref p) (.tuple ds) (k+1):=by
 refine ⟨.tup h r.rd,by simp [PyData.canLay0,r.lay],?_,by simp [PyData.eqv,r.eq]⟩
 have a:=r.dep
 simp only [PyData.depth]
 omega
theorem Sd.up {H:Hp} {v:V} {d:PyData} {k k':Nat} (h:Sd K H v d k) (hk:k <= k'):Sd K H v d k':=⟨h.rd,h.lay,Nat.le_trans h.dep hk,h.eq⟩
theorem Sds.up {H:Hp} {xs:List V} {ds:List PyData} {k k':Nat} (h:Sds K H xs ds k) (hk:k <= k'):Sds K H xs ds k':=⟨h.rd,h.lay,Nat.le_trans h.dep hk,h.eq⟩
theorem ym5 {g:Bool->Bool} {H:Hp} {Q:VK} {x y:V} {d:PyData} {k:Nat} (h1:Sd K H x d k) (h2:Sd K H y d k) (hk:k <= 60) (h:Q (.bl (g true)) H):yx4 K g x y H Q:=by
 have a:SeqAt.shaped d=true:=by
  unfold SeqAt.shaped
  rw [Bool.and_eq_true]
  exact ⟨h1.lay,decide_eq_true (by have:=h1.dep; omega)⟩
 exact ⟨d,d,h1.rd,h2.rd,a,a,by rw [h1.eq]; exact h⟩
theorem yy0:yo ["thing"] ["thing"] (yh yz4):=xc (by right)
inductive ybj (K:W.Frag) (vs:List V) (H:Hp) (Q:VK) (E':XK):Prop
 | mk (x n:_):(vs=[x])->(xp K H x (.type n))->(Q (.bl (j0 x)) H)->ybj K vs H Q E'
theorem ynb (T:Txt K mg a):wa P w K mg base CX0 1 a.Kr a.Ks ["thing"] (ybj K):=by
 refine T.C4.F.ok yy0 (fun d H Q E h=>?_) (fun f A c s H d Q E g h=>?_)
 ·left
 ·obtain ⟨x,n,rfl,b,k⟩:=h
  refine ⟨_,(yf (yv (zf (yr vy rfl T.A3 (by right) (ya (pv 0) (ya (uu (T:="int") rfl T.Kh (by right)) ye (yb rfl)) (yb rfl))) (ji (ylg (yr vy rfl T.A3 (by right) (ya (pv 0) (ya (uu (T:="bool") rfl T.Fe (by right)) ye (yb rfl)) (yb rfl)))))))),?_⟩
  exists 1,0
  rfl'
  refine yab b (ypn b) ?_
  rfl'
  cases hx:yon x with
  | false =>
   have e:j0 x=false:=by
    cases x <;> first | rfl | cases hx
   rw [e] at k
   exact ylt k
  | true =>
   have e:j0 x=!ykk x:=by
    cases x <;> first | rfl | cases hx
   rw [e] at k
   refine ynn ?_
   rfl'
   refine yab b (ymv b) ?_
   rfl'
   exact k
theorem yyu:yo ["thing"] ["thing"] (yh yz2):=xc (by right)
inductive yej (K:W.Frag) (vs:List V) (H:Hp) (Q:VK) (E':XK):Prop
 | mk (x n:_):(vs=[x])->(xp K H x (.type n))->(Q (.bl (yai x)) H)->yej K vs H Q E'
theorem yyd (T:Txt K mg a):wa P w K mg base CX0 2 a.Kt a.Ku ["thing"] (yej K):=by
 refine T.Js.F.ok yyu (fun f H Q E h=>?_) (fun j A b s H f Q E g h=>?_)
 ·left
 ·obtain ⟨x,n,rfl,d,k⟩:=h
  refine ⟨_,(yf (yv (zf (y6 (ynb T) (g.mono (by decide)) rfl T.C4.m T.C4.F.kp T.C4.B .nil y7 (ya (pv 0) ye (yb rfl))) (ji (ya6 j7 j7 yg (pv 0) yg))))),?_⟩
  exists 1,0
  rfl'
  refine ⟨x,n,rfl,d,?_⟩
  rfl'
  cases hx:j0 x with
  | false =>
   have e:yai x=false:=by
    cases x <;> first | rfl | cases hx
   rw [e] at k
   exact ylt k
  | true =>
   obtain ⟨i,rfl⟩:=zz hx
   refine ynn ?_
   rfl'
   refine zx (fun c=>?_) (fun c=>?_)
   ·rfl'
    have e:yai (.int i)=decide (i <= 1):=by simp [yai,c]
    rw [e] at k
    exact k
   ·have e:yai (.int i)=false:=by simp [yai,c]
    rw [e] at k
    exact k
theorem yzp:yo ["thing"] ["thing"] (yh vag):=xc (by right)
inductive yaj (K:W.Frag) (vs:List V) (H:Hp) (Q:VK) (E':XK):Prop
 | mk (x n:_):(vs=[x])->(xp K H x (.type n))->(Q (.bl (chV x)) H)->yaj K vs H Q E'
theorem yy8 (T:Txt K mg a):wa P w K mg base CX0 2 a.Kv a.Kw ["thing"] (yaj K):=by
 refine T.Jt.F.ok yzp (fun f H Q E h=>?_) (fun j A b s H f Q E g h=>?_)
 ·left
 ·obtain ⟨x,n,rfl,d,k⟩:=h
  refine ⟨_,(yf (yv (zf (y6 (ynb T) (g.mono (by decide)) rfl T.C4.m T.C4.F.kp T.C4.B .nil y7 (ya (pv 0) ye (yb rfl))) (ji (ya6 j7 j7 (v7 rfl T.Cm) (pv 0) (yu zv (v7 rfl T.Ci) (v7 rfl T.Cm))))))),?_⟩
  exists 1,0
  rfl'
  refine ⟨x,n,rfl,d,?_⟩
  rfl'
  cases hx:j0 x with
  | false =>
   have e:chV x=false:=by
    cases x <;> first | rfl | cases hx
   rw [e] at k
   exact ylt k
  | true =>
   obtain ⟨i,rfl⟩:=zz hx
   refine ynn ?_
   rfl'
   refine zx (fun c=>?_) (fun c=>?_)
   ·rfl'
    have e:chV (.int i)=decide (i <= 16777216 - 32768):=by simp [chV,c]
    rw [e] at k
    exact k
   ·have e:chV (.int i)=false:=by simp [chV,c]
    rw [e] at k
    exact k
theorem yym:yo ["thing"] ["thing"] (yh yz6):=xc (by right)
inductive ycn (K:W.Frag) (vs:List V) (H:Hp) (Q:VK) (E':XK):Prop
 | mk (x n:_):(vs=[x])->(xp K H x (.type n))->(Q (.bl (sgV x)) H)->ycn K vs H Q E'
theorem yyt (T:Txt K mg a):wa P w K mg base CX0 2 a.Kx a.Ky ["thing"] (ycn K):=by
 refine T.Ju.F.ok yym (fun f H Q E h=>?_) (fun j A b s H f Q E g h=>?_)
 ·left
 ·obtain ⟨x,n,rfl,d,k⟩:=h
  refine ⟨_,(yf (yv (zf (y6 (ynb T) (g.mono (by decide)) rfl T.C4.m T.C4.F.kp T.C4.B .nil y7 (ya (pv 0) ye (yb rfl))) (ji (ya6 j7 j7 yg (pv 0) yg))))),?_⟩
  exists 1,0
  rfl'
  refine ⟨x,n,rfl,d,?_⟩
  rfl'
  cases hx:j0 x with
  | false =>
   have e:sgV x=false:=by
    cases x <;> first | rfl | cases hx
   rw [e] at k
   exact ylt k
  | true =>
   obtain ⟨i,rfl⟩:=zz hx
   refine ynn ?_
   rfl'
   refine zx (fun c=>?_) (fun c=>?_)
   ·rfl'
    have e:sgV (.int i)=decide (i <= 255):=by simp [sgV,c]
    rw [e] at k
    exact k
   ·have e:sgV (.int i)=false:=by simp [sgV,c]
    rw [e] at k
    exact k
theorem yzt:yo ["thing","most"] ["thing","most"] (yh vae):=xc (by right)
inductive yn0 (K:W.Frag) (vs:List V) (H:Hp) (Q:VK) (E':XK):Prop
 | mk (x n m:_):(vs=[x,.int m])->(xp K H x (.type n))->(((Bad K H x n m/\∀ H',yz H H'->Q (.bl false) H')\/∃ xs,Good K H x xs m/\∀ H',yz H H'->Q (.bl true) H'))->yn0 K vs H Q E'
theorem yzd (T:Txt K mg a):wa P w K mg base CX0 3 a.Kz a.L0 ["thing","most"] (yn0 K):=by
 refine T.Jv.F.ok yzt (fun X H Q E h=>?_) (fun U A u s H X Q E Y h=>?_)
 ·left
 ·obtain ⟨x,n,m,rfl,I,h⟩:=h
  have J:(n≠"list"/\∀ d,yz H d->Q (.bl false) d)\/∃ p xs,x=.ref p/\H p=some (.lst xs)/\Typed K H xs/\xs.length <= 100000/\∀ d,yz H d->Q (.bl (decide ((xs.length:Int) <= m) && xs.all sgV)) d:=by
   rcases h with ⟨h | ⟨p,xs,e,c,t,j,L⟩,k⟩ | ⟨xs,⟨p,e,c,t,j,L⟩,k⟩
   ·exact .inl ⟨h,k⟩
   ·exact .inr ⟨p,xs,e,c,t,j,fun d S=>by rw [L]; exact k d S⟩
   ·exact .inr ⟨p,xs,e,c,t,j,fun d S=>by rw [L]; exact k d S⟩
  refine ⟨_,(yf (yv (zf (yr vy rfl T.A3 (by right) (ya (pv 0) (ya (uu (T:="list") rfl T.Ab (by right)) ye (yb rfl)) (yb rfl))) (zf (jo j7 (yr y9 rfl T.As (by right) (ya (pv 0) ye (yb rfl))) (pv 1) (vg _)) (ji (yr (jy rfl) rfl T.D9 (by right) (ya (wu (js:=[]) (ys:=[]) rfl (vz (pv 0)) (fun C s2 H2 fp=>(y6 (yyt T) (Y.mono (by decide)) rfl T.Ju.m T.Ju.F.kp T.Ju.B .nil y7 (ya (pv 0) ye (yb rfl)))) rfl rfl (hyc:=yw) (hrel:=yw)) ye (yb rfl)))))))),?_⟩
  exists 2,0
  rfl'
  refine yab I (yp4 I) ?_
  rfl'
  rcases J with ⟨N,k⟩ | ⟨p,xs,rfl,c,R,j,k⟩
  ·refine zw N ?_
   rfl'
   exact k _ (yz.refl _)
  ·have N:n="list":=by
    cases I with
    | lst e=>rfl
    | frz e=>rfl
    | tup e=>rw [c] at e; cases e
    | dK e=>rw [c] at e; cases e
    | dT e=>rw [c] at e; cases e
   refine yb1 N ?_
   rfl'
   refine j9 (SqL.of c) ?_
   rfl'
   refine zx (fun v=>?_) (fun v=>?_)
   ·rw [decide_eq_true v,Bool.true_and] at k
    rfl'
    refine ⟨p,rfl,⟨_,SqL.of c⟩,fun D G=>?_⟩
    have Z:p≠D:=yc c G
    refine x6 (K:=K) (a:=p) (xs:=xs) (fun i g=>g D=some (.lst (((xs.take i).map sgV).map V.bl))/\yz H g)
     ⟨yd,vd G⟩ (fun i g _ q=>SqL.of (q.2 _ _ c)) ?_ ?_
    ·rintro i y g O r ⟨f,l⟩
     rfl'
     obtain ⟨W,M⟩:=R y (List.mem_of_getElem? O)
     refine ⟨y,W,rfl,ud l M,?_⟩
     refine wb f (by rw [List.length_map,List.length_map,List.length_take]; exact yl2 (by omega)) r ⟨yd.trans ?_,fun b o e=>yi (fun z=>?_) (l _ _ e)⟩
     ·rw [List.take_succ,O]
      simp
     ·subst z
      rw [G] at e
      cases e
    ·rintro g ⟨f,l⟩
     rfl'
     refine ⟨D,_,rfl,SqL.of f,?_⟩
     rw [List.take_of_length_le (Nat.le_refl _),List.all_map]
     exact k _ l
   ·rw [decide_eq_false v,Bool.false_and] at k
    rfl'
    exact k _ (yz.refl _)
theorem yzg:yo ["thing"] ["thing"] (yh vai):=xc (by right)
theorem ylj (T:Txt K mg a):wa P w K mg base (CXe P w) 4 a.L1 a.L3 ["thing"] (ycr K a.Ae 1000):=by
 refine T.Bw.F.okE yzg (fun i H Q E h=>?_) (fun q A d s H i Q E l h=>?_)
 ·left
 ·obtain ⟨x,n,rfl,g,h⟩:=h
  refine ⟨_,(yj (v9 (xv (uc (y6 (yzd T) (l.mono (by decide)) rfl T.Jv.m T.Jv.F.kp T.Jv.B .nil y7 (ya (pv 0) (ya (v7 rfl T.Ec) ye (yb rfl)) (yb rfl))))) (yf (uf rfl T.Fc T.Fd (ya xh ye (yb rfl)))) y8) (yf (yv (vm vi rfl T.Ab (by right) (ya (pv 0) ye (yb rfl)))))),?_⟩
  exists 1,0
  rfl'
  refine ⟨x,n,_,rfl,g,?_⟩
  rcases h with ⟨j,k⟩ | ⟨e,f,k⟩
  ·refine .inl ⟨j,fun o c=>?_⟩
   rfl'
   exact ⟨by walk_at "len",k _ c⟩
  ·refine .inr ⟨e,f,fun o c=>?_⟩
   obtain ⟨p,rfl,t,_⟩:=f
   rfl'
   refine ⟨p,e,rfl,.inl (SqL.of (c _ _ t)),fun r b=>?_⟩
   exact k r _ (c.free b) yd (c.trans (vd b))
theorem yyo:yo ["thing"] ["thing"] (yh vab):=xc (by right)
inductive zk (K:W.Frag) (C:Addr) (vs:List V) (H:Hp) (Q:VK) (E:XK):Prop
 | mk (x n:_):(vs=[x])->(xp K H x (.type n))->((chV x=true->Q .non H))->((chV x=false->E (.ref C) none H))->zk K C vs H Q E
theorem yys (T:Txt K mg a):wa P w K mg base (CXe P w) 3 a.L6 a.L7 ["thing"] (zk K a.B7):=by
 refine T.Jw.F.okE yyo (fun d H Q E h=>?_) (fun i A b s H d Q E f h=>?_)
 ·left
 ·obtain ⟨x,n,rfl,c,e,g⟩:=h
  refine ⟨_,(yf (v9 (xv (uc (y6 (yy8 T) (f.mono (by decide)) rfl T.Jt.m T.Jt.F.kp T.Jt.B .nil y7 (ya (pv 0) ye (yb rfl))))) (yf (uf rfl T.Lq T.Ls (ya xh ye (yb rfl)))) y8)),?_⟩
  exists 1,0
  rfl'
  refine ⟨x,n,rfl,c,?_⟩
  rfl'
  cases hx:chV x with
  | false =>
   rfl'
   exact ⟨by walk_at "len",g hx⟩
  | true =>
   rfl'
   exact e hx
theorem yy4:yo ["thing"] ["thing"] (yh yz7):=xc (by right)
inductive yak (K:W.Frag) (C:Addr) (vs:List V) (H:Hp) (Q:VK) (E:XK):Prop
 | mk (x n:_):(vs=[x])->(xp K H x (.type n))->((yai x=true->Q .non H))->((yai x=false->E (.ref C) none H))->yak K C vs H Q E
theorem ygp (T:Txt K mg a):wa P w K mg base (CXe P w) 3 a.L8 a.L9 ["thing"] (yak K a.Ad):=by
 refine T.B9.F.okE yy4 (fun d H Q E h=>?_) (fun i A b s H d Q E f h=>?_)
 ·left
 ·obtain ⟨x,n,rfl,c,e,g⟩:=h
  refine ⟨_,(yf (v9 (xv (uc (y6 (yyd T) (f.mono (by decide)) rfl T.Js.m T.Js.F.kp T.Js.B .nil y7 (ya (pv 0) ye (yb rfl))))) (yf (uf rfl T.Lr T.Lt (ya xh ye (yb rfl)))) y8)),?_⟩
  exists 1,0
  rfl'
  refine ⟨x,n,rfl,c,?_⟩
  rfl'
  cases hx:yai x with
  | false =>
   rfl'
   exact ⟨by walk_at "len",g hx⟩
  | true =>
   rfl'
   exact e hx
theorem yzi:yo ["chance","bit"] ["chance","bit"] (yh yz3):=xc (by right)
inductive yg7 (K:W.Frag) (C D:Addr) (vs:List V) (H:Hp) (Q:VK) (E:XK):Prop
 | mk (x n y m:_):(vs=[x,y])->(xp K H x (.type n))->(xp K H y (.type m))->((chV x=false->E (.ref C) none H))->((chV x=true->yai y=false->E (.ref D) none H))->((∀ c b,x=.int c->y=.int b->chV x=true->yai y=true->Q (.int (gvv c b)) H))->yg7 K C D vs H Q E
theorem yxw (T:Txt K mg a):wa P w K mg base (CXe P w) 4 a.La a.Lb ["chance","bit"] (yg7 K a.B7 a.Ad):=by
 refine T.E5.F.okE yzi (fun l H Q E h=>?_) (fun o A e s H l Q E g h=>?_)
 ·left
 ·obtain ⟨x,n,y,m,rfl,t,j,p,q,r⟩:=h
  refine ⟨_,(yj (ve (vf (yys T) (g.mono (by decide)) rfl T.Jw.m T.Jw.F.kp T.Jw.B .nil wd (ya (pv 0) ye (yb rfl)))) (yj (ve (vf (ygp T) (g.mono (by decide)) rfl T.B9.m T.B9.F.kp T.B9.B .nil wd (ya (pv 1) ye (yb rfl)))) (yf (yv (ydm (yx ub (pv 1) yg (vg _)) (pv 0) (yu zv (v7 rfl T.Ci) (pv 0))))))),?_⟩
  exists 2,0
  rfl'
  refine ⟨x,n,rfl,t,fun f=>?_,p⟩
  rfl'
  refine ⟨y,m,rfl,j,fun i=>?_,q f⟩
  obtain ⟨c,rfl,z,C⟩:=ypz f
  obtain ⟨b,rfl,v,u⟩:=yl8 i
  rfl'
  have k:=r c b rfl rfl f i
  unfold gvv at k
  refine zx (fun d=>?_) (fun d=>?_)
  ·rw [if_pos d] at k
   rfl'
   exact k
  ·rw [if_neg d] at k
   rfl'
   exact k
theorem yul:yo ["sign"] ["sign"] (yh yr8):=xc (by right)
inductive yck (K:W.Frag) (vs:List V) (H:Hp) (Q:VK) (E':XK):Prop
 | mk (s:Int):(vs=[.int s])->(∀ r H',H r=none->H' r=some (.lst ((b8 s).map V.int))->yz H H'->Q (.ref r) H')->yck K vs H Q E'
theorem yw0 (T:Txt K mg a):wa P w K mg base CX0 1 a.Fj a.Fk ["sign"] (yck K):=by
 refine T.Dj.F.ok yul (fun m H Q E h=>?_) (fun n A d s H m Q E r h=>?_)
 ·left
 ·obtain ⟨p,rfl,k⟩:=h
  refine ⟨_,(yf (yv (wu (js:=[0]) (ys:=["sign"]) rfl (yk8 (xt rfl T.Kj)) (fun C t g u=>(yu wg (yu vh (pv 1) (pv 0)) yg)) rfl rfl (hyc:=(all_cons rfl yw)) (hrel:=(all_cons rfl yw))))),?_⟩
  exists 1,0
  rfl'
  refine ⟨a.Bo,rfl,⟨_,T.F9 H⟩,fun D f=>?_⟩
  refine yca (wV p) (T.F9 H) f (fun i y g l e b=>?_) (fun g e b=>?_)
  ·obtain ⟨c,q,rfl,o⟩:∃ c,0 < c/\y=V.int c/\c <= 128:=by
    have j:=List.mem_of_getElem? l
    simp only [List.mem_cons,List.not_mem_nil,or_false] at j
    rcases j with rfl | rfl | rfl | rfl | rfl | rfl | rfl | rfl <;> exact ⟨_,by decide,rfl,by decide⟩
   rfl'
   exact Mp.done f (by show 8 < sizeLine; decide) l e b rfl
  ·exact k D g f b e
theorem yky:yo ["text","bits","sign"] ["text"] (yh ysb):=xc (by right)
inductive ykb (K:W.Frag) (C:Addr) (g:List Int->List Int) (vs:List V) (H:Hp) (Q:VK) (E:XK):Prop
 | mk (x n:_):(vs=[x])->(xp K H x (.type n))->(((Bad K H x n 1000/\∀ H',yz H H'->E (.ref C) none H')\/∃ (t:Addr) (ns:List Int),x=.ref t/\H t=some (.lst (ns.map V.int))/\Sgs ns/\ns.length <= 1000/\∀ r H',H r=none->H' r=some (.lst ((g ns).map V.int))->yz H H'->Q (.ref r) H'))->ykb K C g vs H Q E
theorem ype (T:Txt K mg a):wa P w K mg base (CXe P w) 5 a.Fl a.Fm ["text"] (ykb K a.Ae dec):=by
 refine T.C5.F.okE yky (fun vs H Q E h=>?_) (fun a1 A M s H vs Q E W h=>?_)
 ·left
 ·obtain ⟨x,n,rfl,ty,hk⟩:=h
  refine ⟨_,(yj (vc (i:=1) yky.nd rfl (Or.inl rfl) (vq ye)) (yj (yqp rfl (vz (vf (ylj T) (W.mono (by decide)) rfl T.Bw.m T.Bw.F.kp T.Bw.B .nil wd (ya (pv 0) ye (yb rfl)))) (v6 (i:=2) yky.nd rfl (Or.inl rfl)) (yj (ve (yb4 PySem.F.plainAttrs_list PySem.F.slot_list_append PySem.F.type_list_append xg (pv 1) (ya yg ye (yb rfl)))) (yf (ve (yb4 PySem.F.plainAttrs_list PySem.F.slot_list_extend PySem.F.type_list_extend yjv (pv 1) (ya (y6 (yw0 T) (W.mono (by decide)) rfl T.Dj.m T.Dj.F.kp T.Dj.B .nil y7 (ya (pv 2) ye (yb rfl))) ye (yb rfl))))))) (yj (ve (yb4 PySem.F.plainAttrs_list PySem.F.slot_list_append PySem.F.type_list_append xg (pv 1) (ya yg ye (yb rfl)))) (yf (yv (pv 1)))))),?_⟩
  exists 1,2
  rfl'
  refine ⟨by walk_at "len",fun r hr0=>?_⟩
  with_reducible first | refine yk hr0 fun H1 S1 hr1=>?_ | refine yn hr0 fun H1 S1 hr1=>?_
  rfl'
  refine ⟨x,n,rfl,ud S1 ty,?_⟩
  rcases hk with ⟨hb,k⟩ | ⟨t,g,rfl,Y,hs,Z,k⟩
  ·exact .inl ⟨hb.same S1,fun H2 J=>k _ (S1.trans J)⟩
  refine .inr ⟨g.map V.int,ydr (S1 _ _ Y) hs Z,fun c H2 D j J=>?_⟩
  have S:=S1.trans J
  refine ⟨c,rfl,⟨_,SqL.of j⟩,uo (K:=K) (a:=c) (xs:=g.map V.int) (fun i σ2 G=>∃ v,σ2=[some (.ref t),some (.ref r),v]/\G r=some (.lst ((yfm (g.take i)).map V.int))/\G c=some (.lst (g.map V.int))/\yz H G)
   ⟨_,rfl,J _ _ hr1,j,S⟩ (by rintro i σ2 G _ ⟨_,_,_,z,_⟩; exact SqL.of z) ?_ ?_⟩
  ·rintro i y σ2 G hi ⟨v,rfl,d,p,L⟩
   obtain ⟨z,rfl,a2,R,a0⟩:=jg hi
   have u:c≠r:=fun e=>by rw [e,hr1] at D; cases D
   have C:(List.map V.int (yfm (g.take i))).length <= 9000:=by rw [List.length_map,jb,List.length_take]; omega
   rfl'
   refine yb2 d ?_
   rfl'
   refine ul d (vj (by omega)) ?_
   have I:yz H (upd G r (.lst (List.map V.int (yfm (g.take i))++[V.int 1]))):=fun b o e=>yi (yc e hr0) (L b o e)
   have l:upd G r (.lst (List.map V.int (yfm (g.take i))++[V.int 1])) c=some (.lst (g.map V.int)):=yi u p
   have f:upd G r (.lst (List.map V.int (yfm (g.take i))++[V.int 1])) r=some (.lst (List.map V.int (yfm (g.take i)++[1]))):=by rw [yd,List.map_append]; rfl
   generalize upd G r (.lst (List.map V.int (yfm (g.take i))++[V.int 1]))=G1 at I l f ⊢
   rfl'
   refine yb2 f ?_
   rfl'
   refine ⟨z,rfl,fun q G2 X U O=>?_⟩
   rfl'
   have N:=O _ _ f
   refine ⟨r,q,_,_,rfl,rfl,N,U,zt (by rw [List.length_map,List.length_map,List.length_append,yn9]; rw [List.length_map] at C; show _+1+8 <= _; omega),?_⟩
   rfl'
   refine ⟨_,rfl,?_,?_,fun b o e=>yi (yc e hr0) (O _ _ (I b o e))⟩
   ·rw [yd,yae R,yem,yma,List.append_assoc]
    rfl
   ·exact yi u (O _ _ l)
  ·rintro σ2 G ⟨v,rfl,d,p,L⟩
   rw [List.length_map,List.take_length] at d
   rfl'
   refine yb2 d ?_
   rfl'
   refine ul d (vj (by rw [List.length_map,jb]; omega)) ?_
   rfl'
   refine k r _ hr0 ?_ fun b o e=>yi (yc e hr0) (L b o e)
   rw [yd,ym6,List.map_append]
   rfl
theorem yvb:yo ["self"] ["self"] (yh ytm):=xc (by right)
theorem yoj (T:Txt K mg a):wa P w K mg base CX0 1 a.Eg a.Fn ["self"] (yaw a.A6 (ur (.int 0) (.int 0))):=by
 refine T.Cq.F.ok yvb (fun c H Q E h=>?_) (fun e A b s H c Q E f h=>?_)
 ·left
 ·obtain ⟨p,d,rfl,g,k⟩:=h
  refine ⟨_,(yj (vv (pv 0) yg rfl) (yf (vv (pv 0) yg rfl))),?_⟩
  exists 1,0
  rfl'
  exact k _ yd (But.upd.trans But.upd)
theorem yv8:yo ["self"] ["self"] (yh ytj):=xc (by right)
theorem yvt (T:Txt K mg a):wa P w K mg base CX0 1 a.Fo a.Fp ["self"] (xw (oS a) ytt):=by
 refine T.En.F.ok yv8 (fun f H Q E h=>?_) (fun j A b s H f Q E m h=>?_)
 ·left
 ·obtain ⟨p,d,g,rfl,c,i,e,k⟩:=h
  cases g with
  | ev n o =>
   obtain ⟨r,l,q⟩:=i
   have e:H p=some (.ins a.A6 d (ur (.int n) (.int o))):=e
   refine ⟨_,(yf (yv (yu vh (yu u4 (yu w6 (yu u4 yg (yy (pv 0) rfl)) yg) (v7 rfl T.Ci)) (yu w6 (yu u4 yg (yu w6 (yy (pv 0) rfl) (yy (pv 0) rfl))) yg)))),?_⟩
   exists 1,0
   rfl'
   exact k
  | qk _=>exact c.elim
  | rn _ _=>exact c.elim
theorem yw7:yo ["self","bit"] ["self","bit"] (yh yr5):=xc (by right)
theorem you (T:Txt K mg a):wa P w K mg base (CXe P w) 4 a.Fq a.Fr ["self","bit"] (u8 K (oS a) ytt a.Ad):=by
 refine T.Cr.F.okE yw7 (fun v H Q E h=>?_) (fun t A d s H v Q E y h=>?_)
 ·left
 ·obtain ⟨p,g,C,x,l,rfl,f,G,i,j,z,D⟩:=h
  cases C with
  | ev n o =>
   obtain ⟨J,I,L⟩:=G
   have i:H p=some (.ins a.A6 g (ur (.int n) (.int o))):=i
   refine ⟨_,(yj (ve (vf (ygp T) (y.mono (by decide)) rfl T.B9.m T.B9.F.kp T.B9.B .nil wd (ya (pv 1) ye (yb rfl)))) (yj (v9 (yx ub (pv 1) yg (vg _)) (yf (vv (pv 0) (yu w6 (yy (pv 0) rfl) yg) rfl)) (yf (vv (pv 0) (yu w6 (yy (pv 0) rfl) yg) rfl))) (yf (v9 (yx ynf (yu w6 (yy (pv 0) rfl) (yy (pv 0) rfl)) (v7 rfl T.C1) (vg _)) (yj (vv (pv 0) (yu vh (yu w6 (yy (pv 0) rfl) yg) yg) rfl) (yf (vv (pv 0) (yu vh (yu w6 (yy (pv 0) rfl) yg) yg) rfl))) y8)))),?_⟩
   exists 2,0
   rfl'
   refine ⟨x,l,rfl,j,fun u=>?_,D⟩
   obtain ⟨b,rfl,q,r⟩:=yhv u
   have k:=z b rfl q r
   unfold Slt.see at k
   dsimp only at k
   rfl'
   refine zx (fun e=>?_) (fun e=>?_)
   ·rw [if_pos e] at k
    unfold ygl at k
    rfl'
    refine zx (fun c=>?_) (fun c=>?_)
    ·rw [if_pos c] at k
     rfl'
     exact k _ yd ((But.upd.trans But.upd).trans But.upd)
    ·rw [if_neg c] at k
     rfl'
     exact k _ yd But.upd
   ·rw [if_neg e] at k
    unfold ygl at k
    rfl'
    refine zx (fun c=>?_) (fun c=>?_)
    ·rw [if_pos c] at k
     rfl'
     exact k _ yd ((But.upd.trans But.upd).trans But.upd)
    ·rw [if_neg c] at k
     rfl'
     exact k _ yd But.upd
  | qk _=>exact f.elim
  | rn _ _=>exact f.elim
theorem yox:yo ["self","made"] ["self"] (yh ysj):=xc (by right)
theorem yvc (T:Txt K mg a):wa P w K mg base CX0 3 a.Fs a.Ft ["self"] (za (oS a) ytt):=by
 refine T.Eo.F.ok yox (fun x H Q E h=>?_) (fun y A f s H x Q E z h=>?_)
 ·left
 ·obtain ⟨p,v,s,rfl,r,d,k⟩:=h
  cases s with
  | qk _=>exact r.elim
  | rn _ _=>exact r.elim
  | ev n o =>
  have d:H p=some (.ins a.A6 v (ur (.int n) (.int o))):=d
  refine ⟨_,(yj (vc (i:=1) yox.nd rfl (Or.inl rfl) (jc T.Kc (yoj T) (z.mono (by decide)) rfl T.Kb T.Cq.B .nil y7)) (yj (vv (pv 1) (yy (pv 0) rfl) rfl) (yj (vv (pv 1) (yy (pv 0) rfl) rfl) (yf (yv (pv 1)))))),?_⟩
  exists 1,1
  rfl'
  intro q m c j J
  refine ⟨q,m,rfl,yd,fun I G C=>⟨rfl,?_⟩⟩
  have t:=uy c j C
  have g:=t _ _ d
  have l:p≠q:=yc d c
  rfl'
  have D:=yi (o':=HO.ins a.A6 m (ur (.int n) (.int 0))) l g
  rfl'
  exact k q m _ c yd fun b u e=>yi (yc e c) (yi (yc e c) (t _ _ e))
theorem yu0:yo ["self"] ["self"] (yh yss):=xc (by right)
theorem yop (T:Txt K mg a):wa P w K mg base CX0 1 a.Eh a.Fu ["self"] (yaw a.A5 (ua (.int 8388608))):=by
 refine T.Ct.F.ok yu0 (fun c H Q E h=>?_) (fun e A b s H c Q E f h=>?_)
 ·left
 ·obtain ⟨p,d,rfl,g,k⟩:=h
  refine ⟨_,(yf (vv (pv 0) (yu vh (v7 rfl T.Ci) yg) rfl)),?_⟩
  exists 1,0
  rfl'
  exact k _ yd But.upd
theorem yv1:yo ["self"] ["self"] (yh ysn):=xc (by right)
theorem yuu (T:Txt K mg a):wa P w K mg base CX0 1 a.Fv a.Fw ["self"] (xw (oS a) ytu):=by
 refine T.Ep.F.ok yv1 (fun f H Q E h=>?_) (fun i A b s H f Q E j h=>?_)
 ·left
 ·obtain ⟨p,d,g,rfl,c,l,e,k⟩:=h
  cases g with
  | qk h0 =>
   have e:H p=some (.ins a.A5 d (ua (.int h0))):=e
   refine ⟨_,(yf (yv (yy (pv 0) rfl))),?_⟩
   exists 1,0
   rfl'
   exact k
  | ev _ _=>exact c.elim
  | rn _ _=>exact c.elim
theorem ylc:yo ["self","bit","moved"] ["self","bit"] (yh ysw):=xc (by right)
theorem yow (T:Txt K mg a):wa P w K mg base (CXe P w) 4 a.Fx a.Fz ["self","bit"] (u8 K (oS a) ytu a.Ad):=by
 refine T.Cu.F.okE ylc (fun u H Q E h=>?_) (fun r A c s H u Q E v h=>?_)
 ·left
 ·obtain ⟨p,f,z,x,l,rfl,e,D,g,j,y,C⟩:=h
  cases z with
  | qk h0 =>
   obtain ⟨I,G⟩:=D
   have g:H p=some (.ins a.A5 f (ua (.int h0))):=g
   refine ⟨_,(yj (ve (vf (ygp T) (v.mono (by decide)) rfl T.B9.m T.B9.F.kp T.B9.B .nil wd (ya (pv 1) ye (yb rfl)))) (yj (v9 (yx ub (pv 1) yg (vg _)) (yf (vc (i:=2) ylc.nd rfl (Or.inl rfl) (yu w6 (yy (pv 0) rfl) (yu vh (yu zv (v7 rfl T.Ci) (yy (pv 0) rfl)) yg)))) (yf (vc (i:=2) ylc.nd rfl (Or.inl rfl) (yu zv (yy (pv 0) rfl) (yu vh (yy (pv 0) rfl) yg))))) (yf (vv (pv 0) (yr (yey rfl) rfl T.Jq (by right) (ya (yr (yeo rfl) rfl T.Jr (by right) (ya (pv 2) (ya (v7 rfl T.Cm) ye (yb rfl)) (yb rfl))) (ya (yu zv (v7 rfl T.Ci) (v7 rfl T.Cm)) ye (yb rfl)) (yb rfl))) rfl)))),?_⟩
   exists 2,1
   rfl'
   refine ⟨x,l,rfl,j,fun t=>?_,C⟩
   obtain ⟨b,rfl,o,q⟩:=yhv t
   have k:=y b rfl o q
   unfold Slt.see at k
   dsimp only at k
   rfl'
   refine zx (fun d=>?_) (fun d=>?_)
   ·rw [if_pos d] at k
    rfl'
    refine ⟨_,_,rfl,?_⟩
    rfl'
    refine ⟨_,_,rfl,?_⟩
    rfl'
    exact k _ yd But.upd
   ·rw [if_neg d] at k
    rfl'
    refine ⟨_,_,rfl,?_⟩
    rfl'
    refine ⟨_,_,rfl,?_⟩
    rfl'
    exact k _ yd But.upd
  | ev _ _=>exact e.elim
  | rn _ _=>exact e.elim
theorem yn1:yo ["self","made"] ["self"] (yh yr2):=xc (by right)
theorem yvh (T:Txt K mg a):wa P w K mg base CX0 3 a.G0 a.G6 ["self"] (za (oS a) ytu):=by
 refine T.Er.F.ok yn1 (fun o H Q E h=>?_) (fun r A d s H o Q E t h=>?_)
 ·left
 ·obtain ⟨p,m,s,rfl,j,g,k⟩:=h
  cases s with
  | ev _ _=>exact j.elim
  | rn _ _=>exact j.elim
  | qk h0 =>
  have g:H p=some (.ins a.A5 m (ua (.int h0))):=g
  refine ⟨_,(yj (vc (i:=1) yn1.nd rfl (Or.inl rfl) (jc T.Jp (yop T) (t.mono (by decide)) rfl T.Jo T.Ct.B .nil y7)) (yj (vv (pv 1) (yy (pv 0) rfl) rfl) (yf (yv (pv 1))))),?_⟩
  exists 1,1
  rfl'
  intro q n c f C
  refine ⟨q,n,rfl,yd,fun z y x=>⟨rfl,?_⟩⟩
  have l:=uy c f x
  have v:=l _ _ g
  rfl'
  exact k q n _ c yd fun b u e=>yi (yc e c) (l _ _ e)
theorem yt7:yo ["self"] ["self"] (yh yry):=xc (by right)
theorem yod (T:Txt K mg a):wa P w K mg base CX0 1 a.Ei a.G7 ["self"] (yaw a.Aa (j8 (.int 1) (.int 0))):=by
 refine T.Cv.F.ok yt7 (fun c H Q E h=>?_) (fun e A b s H c Q E f h=>?_)
 ·left
 ·obtain ⟨p,d,rfl,g,k⟩:=h
  refine ⟨_,(yj (vv (pv 0) yg rfl) (yf (vv (pv 0) yg rfl))),?_⟩
  exists 1,0
  rfl'
  exact k _ yd (But.upd.trans But.upd)
theorem yoh:yo ["self","given"] ["self"] (yh ysm):=xc (by right)
theorem yvf (T:Txt K mg a):wa P w K mg base CX0 1 a.G8 a.G9 ["self"] (xw (oS a) ytq):=by
 refine T.Es.F.ok yoh (fun g H Q E h=>?_) (fun o A c s H g Q E r h=>?_)
 ·left
 ·obtain ⟨p,e,j,rfl,d,m,f,k⟩:=h
  cases j with
  | rn l n =>
   obtain ⟨v,q,u,t⟩:=m
   have f:H p=some (.ins a.Aa e (j8 (.int l) (.int n))):=f
   refine ⟨_,(yj (vc (i:=1) yoh.nd rfl (Or.inl rfl) (yu vh (yu u4 (yu w6 (yu u4 yg (yy (pv 0) rfl)) yg) (v7 rfl T.Ci)) (yu w6 (yu u4 yg (yy (pv 0) rfl)) yg))) (yf (yv (ydm (yx ub (yy (pv 0) rfl) yg (vg _)) (pv 1) (yu zv (v7 rfl T.Ci) (pv 1)))))),?_⟩
   exists 1,1
   rfl'
   have k:Q (.int (if l=1 then yal n else 16777216 - yal n)) H:=k
   refine zx (fun b=>?_) (fun b=>?_)
   ·rw [if_pos b] at k
    rfl'
    exact k
   ·rw [if_neg b] at k
    rfl'
    exact k
  | ev _ _=>exact d.elim
  | qk _=>exact d.elim
theorem yux:yo ["self","bit"] ["self","bit"] (yh ytf):=xc (by right)
theorem yoc (T:Txt K mg a):wa P w K mg base (CXe P w) 4 a.Ga a.Gb ["self","bit"] (u8 K (oS a) ytq a.Ad):=by
 refine T.Cw.F.okE yux (fun u H Q E h=>?_) (fun r A c s H u Q E v h=>?_)
 ·left
 ·obtain ⟨p,f,z,x,j,rfl,e,D,g,i,y,C⟩:=h
  cases z with
  | rn l n =>
   obtain ⟨I,G,L,J⟩:=D
   have g:H p=some (.ins a.Aa f (j8 (.int l) (.int n))):=g
   refine ⟨_,(yj (ve (vf (ygp T) (v.mono (by decide)) rfl T.B9.m T.B9.F.kp T.B9.B .nil wd (ya (pv 1) ye (yb rfl)))) (yf (v9 (yx ub (pv 1) (yy (pv 0) rfl) (vg _)) (yf (vv (pv 0) (yr (yey rfl) rfl T.Jq (by right) (ya (yu w6 (yy (pv 0) rfl) yg) (ya (v7 rfl T.C1) ye (yb rfl)) (yb rfl))) rfl)) (yj (vv (pv 0) (pv 1) rfl) (yf (vv (pv 0) yg rfl)))))),?_⟩
   exists 2,0
   rfl'
   refine ⟨x,j,rfl,i,fun t=>?_,C⟩
   obtain ⟨b,rfl,o,q⟩:=yhv t
   have k:=y b rfl o q
   unfold Slt.see at k
   dsimp only at k
   rfl'
   refine zx (fun d=>?_) (fun d=>?_)
   ·rw [if_pos d] at k
    rfl'
    refine ⟨_,_,rfl,?_⟩
    rfl'
    exact k _ yd But.upd
   ·rw [if_neg d] at k
    rfl'
    exact k _ yd (But.upd.trans But.upd)
  | ev _ _=>exact e.elim
  | qk _=>exact e.elim
theorem yn8:yo ["self","made"] ["self"] (yh ysz):=xc (by right)
theorem yu6 (T:Txt K mg a):wa P w K mg base CX0 3 a.Gc a.Gd ["self"] (za (oS a) ytq):=by
 refine T.Et.F.ok yn8 (fun x H Q E h=>?_) (fun y A f s H x Q E z h=>?_)
 ·left
 ·obtain ⟨p,v,s,rfl,r,d,k⟩:=h
  cases s with
  | ev _ _=>exact r.elim
  | qk _=>exact r.elim
  | rn l n =>
  have d:H p=some (.ins a.Aa v (j8 (.int l) (.int n))):=d
  refine ⟨_,(yj (vc (i:=1) yn8.nd rfl (Or.inl rfl) (jc T.Lp (yod T) (z.mono (by decide)) rfl T.Lo T.Cv.B .nil y7)) (yj (vv (pv 1) (yy (pv 0) rfl) rfl) (yj (vv (pv 1) (yy (pv 0) rfl) rfl) (yf (yv (pv 1)))))),?_⟩
  exists 1,1
  rfl'
  intro q o c j J
  refine ⟨q,o,rfl,yd,fun I G C=>⟨rfl,?_⟩⟩
  have t:=uy c j C
  have g:=t _ _ d
  have m:p≠q:=yc d c
  rfl'
  have D:=yi (o':=HO.ins a.Aa o (j8 (.int l) (.int 0))) m g
  rfl'
  exact k q o _ c yd fun b u e=>yi (yc e c) (yi (yc e c) (t _ _ e))
theorem yt8:yo ["kind"] ["kind"] (yh ytn):=xc (by right)
inductive yci (a:Ads) (vs:List V) (H:Hp) (Q:VK) (E':XK):Prop
 | mk (k:Fin 3):(vs=[.str (kdS k)])->(∀ p dx H',H p=none->H' p=some (oS a dx (kd0 k))->yz H H'->Q (.ref p) H')->yci a vs H Q E'
theorem ywf (T:Txt K mg a):wa P w K mg base CX0 3 a.Ge a.Gf ["kind"] (yci a):=by
 refine T.Dk.F.ok yt8 (fun q H Q E h=>?_) (fun r A m s H q Q E l h=>?_)
 ·left
 ·obtain ⟨t,rfl,k⟩:=h
  refine ⟨_,(yj (v9 (yx ub (pv 0) xh (vg _)) (yf (yv (jc T.Kc (yoj T) (l.mono (by decide)) rfl T.Kb T.Cq.B .nil y7))) y8) (yj (v9 (yx ub (pv 0) xh (vg _)) (yf (yv (jc T.Jp (yop T) (l.mono (by decide)) rfl T.Jo T.Ct.B .nil y7))) y8) (yj (v9 (yx ub (pv 0) xh (vg _)) (yf (yv (jc T.Lp (yod T) (l.mono (by decide)) rfl T.Lo T.Cv.B .nil y7))) y8) (yf ymo)))),?_⟩
  exists 1,0
  rfl'
  refine ⟨rfl,?_⟩
  match t with
  | 0 =>
   refine ⟨_,rfl,yb1 rfl ?_⟩
   rfl'
   intro p g f d n
   refine ⟨p,g,rfl,yd,fun j c i=>⟨rfl,?_⟩⟩
   exact k p g j f c fun b o e=>i b o (by rw [ym (yc e f),ym (yc e d)]; exact e) (yc e f)
  | 1 =>
   refine ⟨_,rfl,zw (by intro z; injection z with z; revert z; decide +kernel) ?_⟩
   rfl'
   refine ⟨rfl,?_⟩
   refine ⟨_,rfl,yb1 rfl ?_⟩
   rfl'
   intro p g f d n
   refine ⟨p,g,rfl,yd,fun j c i=>⟨rfl,?_⟩⟩
   exact k p g j f c fun b o e=>i b o (by rw [ym (yc e f),ym (yc e d)]; exact e) (yc e f)
  | 2 =>
   refine ⟨_,rfl,zw (by intro z; injection z with z; revert z; decide +kernel) ?_⟩
   rfl'
   refine ⟨rfl,?_⟩
   refine ⟨_,rfl,zw (by intro z; injection z with z; revert z; decide +kernel) ?_⟩
   rfl'
   refine ⟨rfl,?_⟩
   refine ⟨_,rfl,yb1 rfl ?_⟩
   rfl'
   intro p g f d n
   refine ⟨p,g,rfl,yd,fun j c i=>⟨rfl,?_⟩⟩
   exact k p g j f c fun b o e=>i b o (by rw [ym (yc e f),ym (yc e d)]; exact e) (yc e f)
theorem yu7:yo ["thing"] ["thing"] (yh ysh):=xc (by right)
inductive ycm (K:W.Frag) (vs:List V) (H:Hp) (Q:VK) (E':XK):Prop
 | mk (x n:_):(vs=[x])->(xp K H x (.type n))->(Q (.bl (ygm x)) H)->ycm K vs H Q E'
theorem ywd (T:Txt K mg a):wa P w K mg base CX0 1 a.Gg a.Gh ["thing"] (ycm K):=by
 refine T.Dl.F.ok yu7 (fun d H Q E h=>?_) (fun f A c s H d Q E g h=>?_)
 ·left
 ·obtain ⟨x,n,rfl,b,k⟩:=h
  refine ⟨_,(yf (yv (zf (yr vy rfl T.A3 (by right) (ya (pv 0) (ya (uu (T:="str") rfl T.Ki (by right)) ye (yb rfl)) (yb rfl))) (ji (jo yjr (pv 0) (xt rfl T.Lh) (by with_unfolding_all rfl)))))),?_⟩
  exists 1,0
  rfl'
  refine yab b (yl0 b) ?_
  rfl'
  by_cases hn:n="str"
  ·obtain ⟨s',rfl⟩:∃ s',x=.str s':=by
    cases b with
    | str s'=>exact ⟨s',rfl⟩
    | _=>exact absurd hn (by decide)
   rw [decide_eq_true hn]
   refine ynn ?_
   rfl'
   exact ⟨a.C2,_,rfl,.inr (T.Li H),rfl,rfl,k⟩
  ·have e:ygm x=false:=by
    cases b with
    | str s'=>exact absurd rfl hn
    | _=>rfl
   rw [decide_eq_false hn]
   rw [e] at k
   exact ylt k
theorem yxa:yo ["thing"] ["thing"] (yh ys5):=xc (by right)
inductive ybh (K:W.Frag) (vs:List V) (H:Hp) (Q:VK) (E':XK):Prop
 | mk (x n:_):(vs=[x])->(xp K H x (.type n))->(Q (.bl (plV x)) H)->ybh K vs H Q E'
theorem yug (T:Txt K mg a):wa P w K mg base CX0 2 a.Gi a.Gj ["thing"] (ybh K):=by
 refine T.Dm.F.ok yxa (fun f H Q E h=>?_) (fun j A b s H f Q E g h=>?_)
 ·left
 ·obtain ⟨x,n,rfl,d,k⟩:=h
  refine ⟨_,(yf (yv (zf (y6 (ynb T) (g.mono (by decide)) rfl T.C4.m T.C4.F.kp T.C4.B .nil y7 (ya (pv 0) ye (yb rfl))) (ji (ya6 j7 j7 yg (pv 0) (v7 rfl T.Ff)))))),?_⟩
  exists 1,0
  rfl'
  refine ⟨x,n,rfl,d,?_⟩
  rfl'
  cases hx:j0 x with
  | false =>
   have e:plV x=false:=by
    cases x <;> first | rfl | cases hx
   rw [e] at k
   exact ylt k
  | true =>
   obtain ⟨i,rfl⟩:=zz hx
   refine ynn ?_
   rfl'
   refine zx (fun c=>?_) (fun c=>?_)
   ·rfl'
    have e:plV (.int i)=decide (i <= 8):=by simp [plV,c]
    rw [e] at k
    exact k
   ·have e:plV (.int i)=false:=by simp [plV,c]
    rw [e] at k
    exact k
theorem ywc:yo ["thing"] ["thing"] (yh ys0):=xc (by right)
inductive jr (K:W.Frag) (vs:List V) (H:Hp) (Q:VK) (E':XK):Prop
 | mk (x b:_):(vs=[x])->(PlB K H x b)->(∀ H',yz H H'->Q (.bl b) H')->jr K vs H Q E'
theorem yuh (T:Txt K mg a):wa P w K mg base CX0 3 a.Gk a.Gm ["thing"] (jr K):=by
 refine T.Dn.F.ok ywc (fun vs H Q E h=>?_) (fun a0 A N s H vs Q E hr h=>?_)
 ·left
 ·obtain ⟨x,b,rfl,hb,k⟩:=h
  refine ⟨_,(yj (v9 (PW.pt (yd1 (xv (uc (yr vy rfl T.A3 (by right) (ya (pv 0) (ya (uu (T:="tuple") rfl T.Ba (by right)) ye (yb rfl)) (yb rfl))))) (yd1 (yx ynf (yr y9 rfl T.As (by right) (ya (pv 0) ye (yb rfl))) (v7 rfl T.Dh) (vg _)) (yfi (xv (uc (yr (jy rfl) rfl T.D9 (by right) (ya (wu (js:=[]) (ys:=[]) rfl (yk8 (pv 0)) (fun C Y J W=>(y6 (yug T) (hr.mono (by decide)) rfl T.Dm.m T.Dm.F.kp T.Dm.B .nil y7 (ya (pv 0) ye (yb rfl)))) rfl rfl (hyc:=yw) (hrel:=yw)) ye (yb rfl))))))))) (yf (yv xy)) y8) (yf (yv (yr (jy rfl) rfl T.D9 (by right) (ya (ya5 (js:=[]) (ys:=[]) (xs:=["near","far"]) (g:=ypf K 2 (xu (vn 0) (xu (vn 1) yi1))) rfl (yrj rfl T.F7 (ya (pv 0) (ya (jx (yt0.or yqi) (pv 0) (ybs yg) ybt) ye (yb rfl)) (yb rfl))) (fun C Y J W=>(jo ylk (pv 0) (pv 1) (vg _))) rfl (fun C Y J W=>yas rfl (we (v6 (i:=0) (show List.Nodup ((["near","far"]:List Str)++([]:List Str)) by right) rfl (Or.inl rfl)) (we (v6 (i:=1) (show List.Nodup ((["near","far"]:List Str)++([]:List Str)) by right) rfl (Or.inl rfl)) zq))) rfl (hyc:=yw) (hrel:=yw)) ye (yb rfl)))))),?_⟩
  exists 1,0
  rcases hb with ⟨n,X,hn,rfl⟩ | ⟨t,xs,rfl,I,hl,hy,rfl⟩
  ·rfl'
   refine yab X (ya1 X) ?_
   rfl'
   refine yso hn ?_
   rfl'
   exact k _ (yz.refl _)
  ·rfl'
   refine yab (.tup I) (ya1 (.tup I)) ?_
   rfl'
   refine ylm rfl ?_
   rfl'
   refine ypa (SqT.of I) ?_
   rfl'
   unfold uv at k
   refine zx (fun h4=>?_) (fun h4=>?_)
   ·rw [decide_eq_false (by omega),Bool.false_and,Bool.false_and] at k
    rfl'
    exact k _ (yz.refl _)
   ·rw [decide_eq_true (by omega),Bool.true_and] at k
    rfl'
    refine ⟨t,rfl,⟨_,SqT.of I⟩,fun D U=>?_⟩
    refine yj0 (xs:=xs) (fun v=>.bl (plV v)) (SqT.of I) U (fun i y J L p f=>?_) (fun J p f=>?_)
    ·obtain ⟨n,R⟩:=hy y (List.mem_of_getElem? L)
     rfl'
     refine ⟨y,n,rfl,ud p R,?_⟩
     exact Mp.done U (vj (by omega)) L p f rfl
    have e:xs.map (fun v=>V.bl (plV v))=(xs.map plV).map V.bl:=by rw [List.map_map]; rfl
    rw [e] at f
    rfl'
    refine ⟨D,_,rfl,SqL.of f,?_⟩
    rw [List.all_map]
    have ea:xs.all (id ∘ plV)=xs.all plV:=rfl
    rw [ea]
    have c:=p _ _ I
    cases hp:xs.all plV with
    | false =>
     rw [hp,Bool.false_and] at k
     rfl'
     exact k _ p
    | true =>
     rw [hp,Bool.true_and] at k
     have l:∀ y∈xs,∃ i:Int,y=.int i:=fun y Z=>by
      have:=List.all_eq_true.mp hp y Z
      cases y with
      | int i=>exact ⟨i,rfl⟩
      | _=>cases this
     rfl'
     by_cases hx0:xs=[]
     ·refine .inr ⟨t,xs,rfl,SqT.of c,?_,?_⟩
      ·subst hx0
       exact ⟨rfl,rfl⟩
      ·refine ⟨t,t,rfl,⟨_,_,SqT.of c,SqT.of c⟩,fun O d=>?_⟩
       refine ykq (xs:=xs) l (by omega) (SqT.of c) (by subst hx0; exact SqT.of c) d (fun i j σ' H' Q' h=>?_) (fun H4 S q=>?_)
       ·rfl'
        exact h
       ·rfl'
        exact ⟨O,_,rfl,SqL.of q,k _ (p.trans S)⟩
     ·refine .inl ⟨t,xs,rfl,SqT.of c,?_,fun u hu=>?_⟩
      ·rintro ⟨z,_⟩
       have e1:HT.sIx xs.length 0 (some 1)=min 1 xs.length:=by
        have:=HT.sIx_nat xs.length 0 1
        simpa using this
       rw [e1] at z
       cases xs with
       | nil=>exact hx0 rfl
       | cons x r=>simp at z
      ·rw [ypp]
       have M:=vd (o:=(HO.tup xs.tail)) hu
       have G:upd J u (HO.tup xs.tail) u=some (HO.tup xs.tail):=yd
       generalize upd J u (HO.tup xs.tail)=H3 at M G ⊢
       refine ⟨t,u,rfl,⟨_,_,SqT.of (M _ _ c),SqT.of G⟩,fun O d=>?_⟩
       refine ykq (xs:=xs) l (by omega) (SqT.of (M _ _ c)) (SqT.of G) d (fun i j σ' H' Q' h=>?_) (fun H4 S q=>?_)
       ·rfl'
        exact h
       ·rfl'
        exact ⟨O,_,rfl,SqL.of q,k _ (p.trans (M.trans S))⟩
theorem yu8:yo ["thing"] ["thing"] (yh yr9):=xc (by right)
inductive ycd (K:W.Frag) (vs:List V) (H:Hp) (Q:VK) (E':XK):Prop
 | mk (x b:_):(vs=[x])->(LkB K H x b)->(∀ H',yz H H'->Q (.bl b) H')->ycd K vs H Q E'
theorem ynt (T:Txt K mg a):wa P w K mg base CX0 4 a.Gn a.Gp ["thing"] (ycd K):=by
 refine T.C6.F.ok yu8 (fun l H Q E h=>?_) (fun q A f s H l Q E i h=>?_)
 ·left
 ·obtain ⟨x,b,rfl,d,k⟩:=h
  refine ⟨_,(yf (yv (zf (yr vy rfl T.A3 (by right) (ya (pv 0) (ya (uu (T:="tuple") rfl T.Ba (by right)) ye (yb rfl)) (yb rfl))) (zf (jo ub (yr y9 rfl T.As (by right) (ya (pv 0) ye (yb rfl))) yg (vg _)) (zf (y6 (ywd T) (i.mono (by decide)) rfl T.Dl.m T.Dl.F.kp T.Dl.B .nil y7 (ya (uj yh2 (pv 0) yg (fun _ _=>rfl)) ye (yb rfl))) (ji (y6 (yuh T) (i.mono (by decide)) rfl T.Dn.m T.Dn.F.kp T.Dn.B .nil y7 (ya (uj yh2 (pv 0) yg (fun _ _=>rfl)) ye (yb rfl))))))))),?_⟩
  exists 1,0
  rcases d with ⟨n,e,p,rfl⟩ | ⟨t,o,rfl,c,d⟩
  ·rfl'
   refine yab e (ya1 e) ?_
   rfl'
   rw [decide_eq_false p]
   exact ylt (k _ (yz.refl _))
  ·rfl'
   refine yab (.tup c) (ya1 (.tup c)) ?_
   rfl'
   refine yb1 rfl ?_
   rfl'
   refine ypa (SqT.of c) ?_
   rfl'
   rcases d with ⟨u,rfl⟩ | ⟨y,z,n,rfl,e,d⟩
   ·rw [decide_eq_false (show ¬ ((o.length:Int)=2) by omega)]
    exact ylt (k _ (yz.refl _))
   ·refine yb1 rfl ?_
    rfl'
    refine yng (SqT.of c) (xx (j:=0) rfl) ?_
    rfl'
    refine ⟨y,n,rfl,e,?_⟩
    rcases d with ⟨g,rfl⟩ | ⟨g,r⟩
    ·rw [g]
     rfl'
     exact k _ (yz.refl _)
    ·rw [g]
     rfl'
     refine yng (SqT.of c) (xx (j:=1) rfl) ?_
     rfl'
     exact ⟨z,b,rfl,r,k⟩
theorem yw3:yo ["thing"] ["thing"] (yh yse):=xc (by right)
def yji (K:W.Frag) (C:Addr):Sp:=fun vs H Q E=>(∃ x n,vs=[x]/\xp K H x (.type n)/\n≠"list"/\E (.ref C) none H) \/
 ∃ (l:Addr) (xs:List V) (bs:List Bool),vs=[.ref l]/\H l=some (.lst xs)/\xs.length <= 1000/\ygr K H xs bs /\
  ((1 <= xs.length/\xs.length <= 6/\bs.all id=true)->∀ r H',H r=none->H' r=some (.lst xs)->yz H H'->Q (.ref r) H') /\
  (¬ (1 <= xs.length/\xs.length <= 6/\bs.all id=true)->∀ H',yz H H'->E (.ref C) none H')
theorem yvd (T:Txt K mg a):wa P w K mg base (CXe P w) 5 a.Gq a.Gr ["thing"] (yji K a.Ah):=by
 refine T.Do.F.okE yw3 (fun X H Q E h=>?_) (fun S A o s H X Q E N h=>?_)
 ·rcases h with ⟨x,n,rfl,_⟩ | ⟨l,xs,f,rfl,_⟩
  ·rfl
  ·rfl
 ·rcases h with ⟨x,n,rfl,J,Z,k⟩ | ⟨l,xs,g,rfl,d,hz,q,Y,v⟩
  ·refine ⟨_,(yj (v9 (PW.pt (yd1 (xv (uc (yr vy rfl T.A3 (by right) (ya (pv 0) (ya (uu (T:="list") rfl T.Ab (by right)) ye (yb rfl)) (yb rfl))))) (yd1 (xv (yhn j7 j7 yg (yr y9 rfl T.As (by right) (ya (pv 0) ye (yb rfl))) (v7 rfl T.Cc))) (yfi (xv (uc (yr (jy rfl) rfl T.D9 (by right) (ya (wu (js:=[]) (ys:=[]) rfl (vz (pv 0)) (fun C U t O=>(y6 (ynt T) (N.mono (by decide)) rfl T.C6.m T.C6.F.kp T.C6.B .nil y7 (ya (pv 0) ye (yb rfl)))) rfl rfl (hyc:=yw) (hrel:=yw)) ye (yb rfl))))))))) (yf (uf rfl T.Le T.Lg (ya xh ye (yb rfl)))) y8) (yf (yv (vm vi rfl T.Ab (by right) (ya (pv 0) ye (yb rfl)))))),?_⟩
   refine yp (σ':=[some _]) rfl ?_
   rfl'
   refine yab J (ydj J) ?_
   rfl'
   refine yso Z ?_
   rfl'
   exact ⟨by walk_at "len",k⟩
  ·refine ⟨_,(yj (v9 (PW.pt (yd1 (xv (uc (yr vy rfl T.A3 (by right) (ya (pv 0) (ya (uu (T:="list") rfl T.Ab (by right)) ye (yb rfl)) (yb rfl))))) (yd1 (xv (yhn j7 j7 yg (yr y9 rfl T.As (by right) (ya (pv 0) ye (yb rfl))) (v7 rfl T.Cc))) (yfi (xv (uc (yr (jy rfl) rfl T.D9 (by right) (ya (wu (js:=[]) (ys:=[]) rfl (vz (pv 0)) (fun C U t O=>(y6 (ynt T) (N.mono (by decide)) rfl T.C6.m T.C6.F.kp T.C6.B .nil y7 (ya (pv 0) ye (yb rfl)))) rfl rfl (hyc:=yw) (hrel:=yw)) ye (yb rfl))))))))) (yf (uf rfl T.Le T.Lg (ya xh ye (yb rfl)))) y8) (yf (yv (vm vi rfl T.Ab (by right) (ya (pv 0) ye (yb rfl)))))),?_⟩
   refine yp (σ':=[some _]) rfl ?_
   rfl'
   refine yab (.lst d) (ydj (.lst d)) ?_
   rfl'
   refine ylm rfl ?_
   rfl'
   refine j9 (SqL.of d) ?_
   rfl'
   refine zx (fun W=>?_) (fun W=>?_)
   ·rfl'
    refine vbk (fun R=>?_) (fun R=>?_)
    ·rfl'
     refine ⟨l,rfl,⟨_,SqL.of d⟩,fun D I=>?_⟩
     refine x6 (K:=K) (xs:=xs) (Mp H D (fun i=>V.bl ((g[i]?).getD false))) (Mp.zero I) (fun _ _ _ p=>p.1.seq (SqL.of d)) (fun i y t u M p=>?_) (fun t p=>?_)
     ·obtain ⟨c,b⟩:=p
      have e:i < g.length:=by rw [<- q.1]; exact M
      rfl'
      refine ⟨y,g[i],rfl,(q.2 i y _ u (List.getElem?_eq_getElem e)).same c,fun H3 L=>?_⟩
      refine Mp.doneR I (vj (by omega)) M (c.trans L) (L _ _ b) ?_
      rw [List.getElem?_eq_getElem e]
      rfl
     obtain ⟨c,b⟩:=p
     rw [ymh g q.1] at b
     rfl'
     refine ⟨D,_,rfl,SqL.of b,?_⟩
     have G:=c _ _ d
     cases hp:g.all id with
     | false =>
      rfl'
      exact ⟨by walk_at "len",v (by rw [hp]; rintro ⟨_,_,z⟩; cases z) _ c⟩
     | true =>
      rfl'
      refine xk (SqL.of G) fun r j=>?_
      exact Y ⟨by omega,by omega,hp⟩ r _ (c.free j) yd (c.trans (vd j))
    ·rfl'
     exact ⟨by walk_at "len",v (by omega) _ (yz.refl _)⟩
   ·rfl'
    exact ⟨by walk_at "len",v (by omega) _ (yz.refl _)⟩
theorem yua:yo ["signs","place"] ["signs","place"] (yh yrz):=xc (by right)
inductive yhj (K:W.Frag) (vs:List V) (H:Hp) (Q:VK) (E':XK):Prop
 | mk (l:Addr) (sg:List Int) (p:Int):(vs=[.ref l,.int p])->(SqL K H l (sg.map V.int))->(1 <= p)->(Q (.int (yph sg p)) H)->yhj K vs H Q E'
theorem ywm (T:Txt K mg a):wa P w K mg base CX0 1 a.Gs a.Gt ["signs","place"] (yhj K):=by
 refine T.Dp.F.ok yua (fun g H Q E h=>?_) (fun j A d s H g Q E n h=>?_)
 ·left
 ·obtain ⟨l,i,p,rfl,e,m,k⟩:=h
  refine ⟨_,(yf (yv (ydm (yx j7 (pv 1) (yr y9 rfl T.As (by right) (ya (pv 0) ye (yb rfl))) (vg _)) (uj wy (pv 0) (yte yk9 (pv 1)) (fun _ _=>rfl)) (v7 rfl T.Jz)))),?_⟩
  exists 2,0
  rfl'
  refine j9 e ?_
  rw [List.length_map]
  rfl'
  unfold yph at k
  refine zx (fun b=>?_) (fun b=>?_)
  ·rw [if_pos b] at k
   obtain ⟨c,f,_⟩:=ymu m b
   rw [f] at k
   rfl'
   exact zh e (by rw [yq9,f]; rfl) k
  ·rw [if_neg b] at k
   rfl'
   exact k
theorem yvi:yo ["look","signs","node"] ["look","signs","node"] (yh ys7):=xc (by right)
def uz (K:W.Frag) (H:Hp) (k:Addr) (x:V) (ps:List Int):Prop:=∃ t,SqT K H k [x,.ref t]/\SqT K H t (ps.map V.int)/\(∀ p∈ps,1 <= p/\p <= 8)/\ps.length <= 4
theorem uz.same {H H':Hp} {k:Addr} {x:V} {ps:List Int} (S:yz H H') (h:uz K H k x ps):uz K H' k x ps:=by
 obtain ⟨t,d,b,a,c⟩:=h
 exact ⟨t,S.tup d,S.tup b,a,c⟩
def ctx (ps sg:List Int) (nd:Int):List Int:=ps.map (yph sg)++[nd]
def bkV (sg:List Int):V->V
 | .int p=>.int (yph sg p)
 | _=>.non
theorem yrs (sg ps:List Int):(ps.map V.int).map (bkV sg)=(ps.map (yph sg)).map V.int:=by
 rw [List.map_map,List.map_map]
 rfl
inductive ycg (K:W.Frag) (vs:List V) (H:Hp) (Q:VK) (E':XK):Prop
 | mk (k l:Addr) (x:V) (ps sg:List Int) (nd:Int):(vs=[.ref k,.ref l,.int nd])->(uz K H k x ps)->(SqL K H l (sg.map V.int))->(∀ r H',H r=none->H' r=some (.tup ((ctx ps sg nd).map V.int))->yz H H'->Q (.ref r) H')->ycg K vs H Q E'
theorem yxe (T:Txt K mg a):wa P w K mg base CX0 2 a.Gu a.Gv ["look","signs","node"] (ycg K):=by
 refine T.Dq.F.ok yvi (fun R H Q E h=>?_) (fun N A f s H R Q E U h=>?_)
 ·left
 ·obtain ⟨Y,l,x,g,q,L,rfl,⟨t,O,z,v,W⟩,M,k⟩:=h
  refine ⟨_,(yf (yv (vm xq rfl T.Ba (by right) (ya (yu yoz (wu (js:=[1]) (ys:=["signs"]) rfl (yk8 (uj yh2 (pv 0) yg (fun _ _=>rfl))) (fun C Z J X=>(y6 (ywm T) (U.mono (by decide)) rfl T.Dp.m T.Dp.F.kp T.Dp.B .nil y7 (ya (pv 1) (ya (pv 0) ye (yb rfl)) (yb rfl)))) rfl rfl (hyc:=(all_cons rfl yw)) (hrel:=(all_cons rfl yw))) (vq (ya (pv 2) ye (yb rfl)))) ye (yb rfl))))),?_⟩
  exists 3,0
  rfl'
  refine yng O (xx (j:=1) rfl) ?_
  refine ⟨t,rfl,⟨_,z⟩,fun D I=>?_⟩
  have u:(g.map V.int).length < sizeLine:=vj (by rw [List.length_map]; omega)
  refine yca (xs:=g.map V.int) (bkV q) z I (fun i y J G e b=>?_) (fun J e b=>?_)
  ·obtain ⟨p,rfl,o,_,_⟩:=jg G
   rfl'
   refine ⟨l,q,p,rfl,e.seq M,(v p o).1,?_⟩
   exact Mp.done I u G e b rfl
  ·rw [yrs] at b
   rfl'
   refine ⟨by walk_at "len",fun n hn=>?_⟩
   with_reducible first | refine yk hn fun H3 S3 hn3=>?_ | refine yn hn fun H3 S3 hn3=>?_
   refine ⟨D,n,_,_,rfl,rfl,S3 _ _ b,hn3,zt (by rw [List.length_map,List.length_map]; show _+1 <= _; omega),fun c hc=>?_⟩
   with_reducible first | refine yk hc fun H4 S4 hc4=>?_ | refine yn hc fun H4 S4 hc4=>?_
   refine ⟨c,_,rfl,.inl ⟨SqL.of hc4,fun r d=>?_⟩⟩
   have S:=e.trans (S3.trans S4)
   refine k r _ (S.free d) (yd.trans ?_) (S.trans (vd d))
   unfold ctx
   rw [List.map_append]
   rfl
theorem yv3:yo ["self","look"] ["self","look"] (yh ysl):=xc (by right)
inductive yel (a:Ads) (vs:List V) (H:Hp) (Q:VK) (E':XK):Prop
 | mk (p dx lk:Addr) (kd:Fin 3):(vs=[.ref p,.ref lk])->(H p=some (.ins a.A9 dx []))->(∀ d H',H d=none->jj a H' p dx lk d kd (fun _=>none) (fun b=>b=d) 0->But p H H'->Q .non H')->yel a vs H Q E'
theorem yom (T:Txt K mg a):wa P w K mg base CX0 1 a.Ej a.Gw ["self","look"] (yel a):=by
 refine T.Cy.F.ok yv3 (fun t H Q E h=>?_) (fun u A m s H t Q E C h=>?_)
 ·left
 ·obtain ⟨p,j,i,y,rfl,B,k⟩:=h
  refine ⟨_,(yj (vv (pv 0) (pv 1) rfl) (yf (vv (pv 0) ydi rfl))),?_⟩
  exists 2,0
  rfl'
  intro d l
  have c:H d=none:=by
   cases e:H d with
   | none=>rfl
   | some o =>
    by_cases z:d=p
    ·rw [z,yd] at l; cases l
    ·rw [ym z,e] at l; cases l
  have g:d≠p:=fun z=>by rw [z,B] at c; cases c
  have q:=ww (o':=HO.dT []) l (show upd H p (HO.ins a.A9 j ([("look",V.ref i)]:List (Str × V))) p=some (HO.ins a.A9 j ([("look",V.ref i)]:List (Str × V))) from yd)
  have f:upd (upd H p (HO.ins a.A9 j ([("look",V.ref i)]:List (Str × V)))) d (.dT []) d=some (.dT []):=yd
  have r:But p H (upd (upd H p (HO.ins a.A9 j ([("look",V.ref i)]:List (Str × V)))) d (.dT [])):=fun b o e n=>by rw [ym (yc e c),ym n]; exact e
  generalize upd (upd H p (HO.ins a.A9 j ([("look",V.ref i)]:List (Str × V)))) d (.dT [])=D at q f r ⊢
  rfl'
  refine k d _ c ⟨yd,fun b v=>⟨HO.dT [],by cases v; exact yi g f,rfl⟩,fun z=>g z.symm,rfl,fun x e=>(by cases (yi g f).symm.trans e; exact ⟨List.nodup_nil,fun _ z=>(nomatch z)⟩),[],fun _=>(0,0),yi g f,Nat.le_refl _,fun _ _=>rfl,fun _ _ z=>(nomatch z),fun _ _ _ _ z=>(nomatch z)⟩ (r.trans But.upd)
theorem ypc:yo ["self","signs","node","context"] ["self","signs","node"] (yh ysf):=xc (by right)
inductive yek (K:W.Frag) (a:Ads) (vs:List V) (H:Hp) (Q:VK) (E':XK):Prop
 | mk (p dx lk d sl:Addr) (kd:Fin 3) (f:List Int->Option Slt) (O:Addr->Prop) (m:Nat) (ps sg:List Int) (nd:Int):(vs=[.ref p,.ref sl,.int nd])->(jj a H p dx lk d kd f O m)->(m < 1000000)->(uz K H lk (.str (kdS kd)) ps)->(SqL K H sl (sg.map V.int))->(∀ (q:Addr) (O':Addr->Prop) (H':Hp),jj a H' p dx lk d kd (ya7 f (ctx ps sg nd) ((f (ctx ps sg nd)).getD (kd0 kd))) O' (m+1)->(∀ kvs,H' d=some (.dT kvs)->jf kvs (kI (ctx ps sg nd))=some (.ref q))->(∀ c,O' c->O c\/H c=none)->(∀ c,O c->O' c)->ylr O H H'->Q (.ref q) H')->yek K a vs H Q E'
theorem yud (T:Txt K mg a):wa P w K mg base CX0 4 a.Gx a.Gy ["self","signs","node"] (yek K a):=by
 refine T.Eu.F.ok ypc (fun vs H Q E h=>?_) (fun ab A a1 s H vs Q E hr h=>?_)
 ·left
 ·obtain ⟨p,dx,lk,d,sl,G,f,O,m,ps,sg,nd,rfl,hb,hm,hl,hs,k⟩:=h
  have aa:=hb.me
  refine ⟨_,(yj (vc (i:=3) ypc.nd rfl (Or.inl rfl) (y6 (yxe T) (hr.mono (by decide)) rfl T.Dq.m T.Dq.F.kp T.Dq.B .nil y7 (ya (yy (pv 0) rfl) (ya (pv 1) (ya (pv 2) ye (yb rfl)) (yb rfl)) (yb rfl)))) (yj (ybx (v9 (yuv (yjp (ynd hr) (pv 3) (yy (pv 0) rfl))) (yf (ykg (ynd hr) (yy (pv 0) rfl) (pv 3) (y6 (ywf T) (hr.mono (by decide)) rfl T.Dk.m T.Dk.F.kp T.Dk.B .nil y7 (ya (uj yh2 (yy (pv 0) rfl) yg (fun _ _=>rfl)) ye (yb rfl))) rfl)) y8)) (yf (yv (yqu (ynd hr) (yy (pv 0) rfl) (pv 3) (fun _ _=>rfl)))))),?_⟩
  exists 3,1
  rfl'
  refine ⟨lk,sl,_,ps,sg,nd,rfl,hl,hs,fun r H1 ad a7 Z=>?_⟩
  have l:H1 r=some (.tup ((kI (ctx ps sg nd)).map kV)):=by rw [yv6]; exact a7
  generalize ctx ps sg nd=b at l k
  have g:=hb.same Z
  have y:=g.me
  rfl'
  refine ygn (fun σ' H'=>σ'=[some (.ref p),some (.ref sl),some (.int nd),some (.ref r)]/\∃ O',jj a H' p dx lk d G (ya7 f b ((f b).getD (kd0 G))) O' (m+1)/\(∀ c,O' c->O c\/H c=none)/\(∀ c,O c->O' c)/\ylr O H H'/\H' r=some (.tup ((kI b).map kV))) ?_ ?_
  ·obtain ⟨J,n,I,h2,W,R,h5⟩:=g.tb
   rfl'
   refine ⟨d,_,rfl,yd3.t I l,?_⟩
   cases hf:f b with
   | none =>
    rw [W b hf]
    rfl'
    refine ynn ?_
    rfl'
    obtain ⟨t,a6,ac,_,_⟩:=hl
    refine yng (Z.tup a6) (xx (j:=0) rfl) ?_
    rfl'
    refine ⟨G,rfl,fun q dq H2 u a0 L=>?_⟩
    rfl'
    have N:=L _ _ y
    rfl'
    refine ⟨d,_,rfl,ynj.t (L _ _ I) (L _ _ l) (vj (by omega)),?_⟩
    have a5:=Z.trans L
    have X:q≠d:=fun z=>by rw [z,I] at u; cases u
    have a2:p≠d:=fun z=>g.np (z ▸ g.dO)
    rfl'
    refine ⟨rfl,fun c=>O c\/c=q,⟨yi a2 N,fun c v=>?_,fun z=>?_,.inl g.dO,yni.snoc (g.ky J I) (W b hf) yd,yc0 J (kI b) (.ref q),fun j=>if j=b then (q,dq) else n j,yd,?_,fun j M=>?_,fun j s' M=>?_,fun j1 j2 s1 s2 e1 Y x=>?_⟩,fun c v=>?_,fun c v=>.inl v,fun c o e no=>?_,yi (x9 (L _ _ l) (L _ _ I) (by intro z; cases z)) (L _ _ l)⟩
    ·rcases v with v | rfl
     ·obtain ⟨o,ho,hi⟩:=g.own c v
      by_cases z:c=d
      ·rw [z]
       exact ⟨_,yd,rfl⟩
      ·exact ⟨o,yi z (L _ _ ho),hi⟩
     ·obtain ⟨C,fs,eo⟩:=jz a dq (kd0 G)
      exact ⟨_,yi X a0,by rw [eo]; rfl⟩
    ·rcases z with z | z
     ·exact g.np z
     ·rw [z] at y
      rw [y] at u
      cases u
    ·rw [ydp _ (W b hf),List.length_append]
     show _+1 <= m+1
     omega
    ·unfold ya7 at M
     split at M
     ·cases M
     ·rename_i hne
      rw [jd,if_neg fun z=>hne (yfg z)]
      exact W j M
    ·unfold ya7 at M
     split at M
     ·rename_i he
      subst he
      cases M
      dsimp only
      rw [if_pos rfl,jd,if_pos rfl]
      exact ⟨rfl,yi X a0,ywg G,ymi G,.inr rfl⟩
     ·rename_i hne
      obtain ⟨U,D,q3,q4,q5⟩:=R j s' M
      dsimp only
      rw [if_neg hne,jd,if_neg fun z=>hne (yfg z)]
      have a8:(n j).1≠d:=by
       obtain ⟨C,fs,eo⟩:=jz a (n j).2 s'
       rw [eo] at D
       exact x9 D I (by intro z; cases z)
      exact ⟨U,yi a8 (L _ _ D),q3,q4,.inl q5⟩
    ·unfold ya7 at e1 Y
     dsimp only at x
     by_cases z1:j1=b
     ·by_cases z2:j2=b
      ·rw [z1,z2]
      ·rw [if_neg z2] at Y
       rw [if_pos z1,if_neg z2] at x
       obtain ⟨_,D,_⟩:=R j2 s2 Y
       have x:q=(n j2).1:=x
       rw [<- x,u] at D
       cases D
     ·rw [if_neg z1] at e1
      by_cases z2:j2=b
      ·rw [if_neg z1,if_pos z2] at x
       obtain ⟨_,D,_⟩:=R j1 s1 e1
       have x:(n j1).1=q:=x
       rw [x,u] at D
       cases D
      ·rw [if_neg z2] at Y
       rw [if_neg z1,if_neg z2] at x
       exact h5 j1 j2 s1 s2 e1 Y x
    ·rcases v with v | rfl
     ·exact .inl v
     ·exact .inr (Z.free u)
    ·exact yi (fun z=>no (z ▸ g.dO)) (a5 _ _ e)
   | some s' =>
    obtain ⟨U,D,q3,q4,q5⟩:=R b s' hf
    rw [U]
    rfl'
    refine ⟨rfl,O,?_,fun c v=>.inl v,fun c v=>v,fun c o e _=>Z _ _ e,l⟩
    have ef:ya7 f b ((some s').getD (kd0 G))=f:=by
     funext j
     unfold ya7
     split
     ·rename_i z
      rw [z,hf]
      rfl
     ·rfl
    rw [ef]
    exact ⟨g.me,g.own,g.np,g.dO,g.ky,J,n,I,Nat.le_succ_of_le h2,W,R,h5⟩
  ·rintro σ' H2 ⟨rfl,O',S,hO,hM,B2,a4⟩
   have N:=S.me
   obtain ⟨J,n,I,h2,W,R,h5⟩:=id S.tb
   have a3:ya7 f b ((f b).getD (kd0 G)) b=some ((f b).getD (kd0 G)):=by unfold ya7; rw [if_pos rfl]
   obtain ⟨U,D,q3,q4,q5⟩:=R b _ a3
   rfl'
   refine ⟨d,_,rfl,by rw [<- U]; exact yd3.t I a4,?_⟩
   exact k (n b).1 O' H2 S (fun a9 e=>by rw [I] at e; cases e; exact U) hO hM B2
structure ypg (a:Ads) (H:Hp) (d:Addr) (kd:Fin 3) (f:List Int->Option Slt) (O:Addr->Prop) (m:Nat):Prop where
 own:∀ b,O b->∃ o,H b=some o/\yno o=true
 dO:O d
 ky:yni H d
 tb:∃ (kvs:List (List Key × V)) (loc:List Int->Addr × Addr),H d=some (.dT kvs)/\kvs.length <= m/\(∀ k,f k=none->jf kvs (kI k)=none) /\
  (∀ k s,f k=some s->jf kvs (kI k)=some (.ref (loc k).1)/\H (loc k).1=some (oS a (loc k).2 s)/\s.ok/\s.kind=kd/\O (loc k).1)/\(∀ k j s t,f k=some s->f j=some t->(loc k).1=(loc j).1->k=j)
theorem ypg.same {H H':Hp} {kd:Fin 3} {f:List Int->Option Slt} {O:Addr->Prop} {m:Nat} (h:ypg a H d kd f O m) (S:yz H H'):ypg a H' d kd f O m:=by
 obtain ⟨c,e,g,i,n,l,q⟩:=h.tb
 refine ⟨fun b j=>?_,h.dO,h.ky.mv g (S _ _ g),c,e,S _ _ g,i,n,fun k s w=>?_,q⟩
 ·obtain ⟨o,u,r⟩:=h.own b j
  exact ⟨o,S _ _ u,r⟩
 ·obtain ⟨p,t,v⟩:=l k s w
  exact ⟨p,S _ _ t,v⟩
theorem ypg.put {H H2:Hp} {kd:Fin 3} {f:List Int->Option Slt} {O:Addr->Prop} {m:Nat} {key:List Int} {s:Slt} (h:ypg a H d kd f O m) (S:yz H H2) (nq:H q=none) (hq:H2 q=some (oS a dq s)) (ok:s.ok) (hk:s.kind=kd) (hf:f key=none) {kvs:List (List Key × V)} (hd:H2 d=some (.dT kvs)) :
  ypg a (upd H2 d (.dT (yc0 kvs (kI key) (.ref q)))) d kd (ya7 f key s) (fun c=>O c\/c=q) (m+1):=by
 obtain ⟨D,g,t,R,B,A,J⟩:=h.tb
 have e:=S _ _ t
 rw [hd] at e
 cases e
 have l:q≠d:=fun z=>by rw [z,t] at nq; cases nq
 have w:=h.ky kvs t
 refine ⟨fun c v=>?_,.inl h.dO,yni.snoc w (B key hf) yd,yc0 kvs (kI key) (.ref q),fun j=>if j=key then (q,dq) else g j,yd,?_,fun j i=>?_,fun j F i=>?_,fun u p G E r n b=>?_⟩
 ·rcases v with v | rfl
  ·obtain ⟨o,M,N⟩:=h.own c v
   by_cases z:c=d
   ·rw [z]
    exact ⟨_,yd,rfl⟩
   ·exact ⟨o,yi z (S _ _ M),N⟩
  ·obtain ⟨C,K,x⟩:=jz a dq s
   exact ⟨_,yi l hq,by rw [x]; rfl⟩
 ·rw [ydp _ (B key hf),List.length_append]
  show _+1 <= m+1
  omega
 ·unfold ya7 at i
  split at i
  ·cases i
  ·rename_i hne
   rw [jd,if_neg fun z=>hne (yfg z)]
   exact B j i
 ·unfold ya7 at i
  split at i
  ·rename_i he
   subst he
   cases i
   dsimp only
   rw [if_pos rfl,jd,if_pos rfl]
   exact ⟨rfl,yi l hq,ok,hk,.inr rfl⟩
  ·rename_i hne
   obtain ⟨L,k,Q,P,I⟩:=A j F i
   dsimp only
   rw [if_neg hne,jd,if_neg fun z=>hne (yfg z)]
   have y:(g j).1≠d:=by
    obtain ⟨C,K,x⟩:=jz a (g j).2 F
    rw [x] at k
    exact x9 k t (by intro z; cases z)
   exact ⟨L,yi y (S _ _ k),Q,P,.inl I⟩
 ·unfold ya7 at r n
  dsimp only at b
  by_cases z1:u=key
  ·by_cases z2:p=key
   ·rw [z1,z2]
   ·rw [if_neg z2] at n
    rw [if_pos z1,if_neg z2] at b
    obtain ⟨_,k,_⟩:=A p E n
    have b:q=(g p).1:=b
    rw [<- b,nq] at k
    cases k
  ·rw [if_neg z1] at r
   by_cases z2:p=key
   ·rw [if_neg z1,if_pos z2] at b
    obtain ⟨_,k,_⟩:=A u G r
    have b:(g u).1=q:=b
    rw [b,nq] at k
    cases k
   ·rw [if_neg z2] at n
    rw [if_neg z1,if_neg z2] at b
    exact J u p G E r n b
theorem yl5 {kvs:List (List Key × V)} {k:List Key} {v:V} (h:(kvs.map (·.1)).Nodup) (hm:(k,v)∈kvs):jf kvs k=some v:=by
 induction kvs with
 | nil=>cases hm
 | cons p r ih =>
  rw [List.map_cons,List.nodup_cons] at h
  rcases List.mem_cons.mp hm with e | hm
  ·subst e
   exact xl (p:=(k,v)) rfl
  ·have a:¬ p.1=k:=fun z=>h.1 (by rw [z]; exact List.mem_map.mpr ⟨_,hm,rfl⟩)
   rw [xm a]
   exact ih h.2 hm
theorem ydl {kvs:List (List Key × V)} {k j:List Key} {v:V} (h:kvs[i]?=some (k,v)):j∈(kvs.take (i+1)).map (·.1) ↔ (j=k\/j∈(kvs.take i).map (·.1)):=by
 rw [List.take_add_one,h,List.map_append,List.mem_append]
 show _\/j∈[k] ↔ _
 rw [List.mem_singleton,or_comm]
theorem yq0 {kvs:List (List Key × V)} {k:List Key} {v:V} (hn:(kvs.map (·.1)).Nodup) (h:kvs[i]?=some (k,v)):k∉(kvs.take i).map (·.1):=fun m=>by
 have a:i < kvs.length:=(List.getElem?_eq_some_iff.mp h).1
 rw [<- List.take_append_drop i kvs,List.map_append,List.nodup_append] at hn
 refine hn.2.2 _ m k ?_ rfl
 rw [List.drop_eq_getElem_cons a,List.map_cons,(List.getElem?_eq_some_iff.mp h).2]
 exact List.mem_cons_self
theorem yfd:yo ["self","slots","context","slot","made"] ["self"] (yh ys1):=xc (by right)
inductive yet (a:Ads) (vs:List V) (H:Hp) (Q:VK) (E':XK):Prop
 | mk (p dx lk d:Addr) (kd:Fin 3) (f:List Int->Option Slt) (O:Addr->Prop) (m:Nat):(vs=[.ref p])->(jj a H p dx lk d kd f O m)->(m < 1000000)->(∀ q dq d' O' H',H q=none->jj a H' q dq lk d' kd f O' m->(∀ c,O' c->H c=none)->yz H H'->Q (.ref q) H')->yet a vs H Q E'
theorem yv9 (T:Txt K mg a):wa P w K mg base CX0 4 a.Gz a.Hs ["self"] (yet a):=by
 refine T.Ev.F.ok yfd (fun vs H Q E h=>?_) (fun aq A ad s H vs Q E hr h=>?_)
 ·left
 ·obtain ⟨p,dx,lk,d,kd,f,O,m,rfl,hb,hm,k⟩:=h
  have a6:=hb.me
  obtain ⟨g,L,h1,h2,h3,h4,h5⟩:=hb.tb
  obtain ⟨a4,ab⟩:=hb.ky g h1
  refine yq (vc (i:=1) yfd.nd rfl (Or.inl rfl) ydi) ?_
  refine yq (yqk (j6 PassesOwn.never rfl (yly (yy (pv 0) rfl)) (yas rfl (we (v6 (i:=2) yfd.nd rfl (Or.inl rfl)) (we (v6 (i:=3) yfd.nd rfl (Or.inl rfl)) zq))) (yf (ykg (ynd hr) (pv 1) (pv 2) (yam (vk (pv 3) T.Az T.Eo.m (yvc T) (hr.mono (by decide)) T.Eo.B .nil y7) (yam (vk (pv 3) T.Bf T.Er.m (yvh T) (hr.mono (by decide)) T.Er.B .nil y7) (vk (pv 3) T.Bn T.Et.m (yu6 T) (hr.mono (by decide)) T.Et.B .nil y7))) rfl)))) ?_
  refine yq (vc (i:=4) yfd.nd rfl (Or.inl rfl) (ydx T.Ke (yom T) (hr.mono (by decide)) rfl T.Kd T.Cy.B .nil y7 (ya (yy (pv 0) rfl) ye (yb rfl)))) ?_
  refine yq (vv (pv 4) (pv 1) rfl) ?_
  refine ⟨_,(yf (yv (pv 4))),?_⟩
  exists 1,4
  rfl'
  intro e ge
  have S1:=vd (o:=(HO.dT [])) ge
  have W:upd H e (HO.dT []) e=some (HO.dT []):=yd
  generalize upd H e (HO.dT [])=H1 at S1 W ⊢
  have an:=S1 _ _ a6
  have aa:=S1 _ _ h1
  have ap:p≠d:=fun z=>hb.np (z ▸ hb.dO)
  have M:e≠d:=fun z=>by rw [z,h1] at ge; cases ge
  rfl'
  refine ⟨d,g,rfl,aa,fun ob=>?_⟩
  have a8:upd H1 d (.frz ob (.dT g)) d=some (.frz ob (.dT g)):=yd
  have BF:But d H1 (upd H1 d (.frz ob (.dT g))):=But.upd
  generalize upd H1 d (.frz ob (.dT g))=HF at a8 BF ⊢
  refine yjl (fun i σ2 G=>∃ (v2 v3:Option V) (Y:List Int->Option Slt) (Oi:Addr->Prop),σ2=[some (.ref p),some (.ref e),v2,v3,none]/\ypg a G e kd Y Oi i/\(∀ j,(kI j∈(g.take i).map (·.1)->Y j=f j)/\(kI j∉(g.take i).map (·.1)->Y j=none))/\(∀ c,Oi c->H c=none)/\G d=some (.frz ob (.dT g))/\But d H G)
   ⟨none,none,fun _=>none,fun c=>c=e,rfl,⟨fun b x=>⟨.dT [],by cases x; exact BF _ _ W M,rfl⟩,rfl,fun l n=>(by cases (BF _ _ W M).symm.trans n; exact ⟨List.nodup_nil,fun _ z=>(nomatch z)⟩),[],fun _=>(0,0),BF _ _ W M,Nat.zero_le _,fun _ _=>rfl,fun _ _ z=>(nomatch z),fun _ _ _ _ z=>(nomatch z)⟩,fun j=>⟨fun z=>(by rw [List.take_zero] at z; cases z),fun _=>rfl⟩,fun c z=>by cases z; exact ge,a8,fun b o n ne=>BF _ _ (S1 _ _ n) ne⟩
   (by rintro i σ2 G _ ⟨_,_,_,_,_,_,_,_,w,_⟩; exact w) ?_ ?_
  ·rintro i ah v σ2 G t kt r ⟨v2,v3,Y,Oi,rfl,gT,gf,gO,gd,gB⟩ gt ai
   obtain ⟨D,a0⟩:=ab _ (List.mem_of_getElem? r)
   have a0:ah=kI D:=a0
   subst a0
   have R:=yl5 a4 (List.mem_of_getElem? r)
   obtain ⟨s',a7⟩:∃ s',f D=some s':=by
    cases z:f D with
    | none=>rw [h3 D z] at R; cases R
    | some s'=>exact ⟨s',rfl⟩
   obtain ⟨S,q2,q3,q4,q5⟩:=h4 D s' a7
   rw [R] at S
   injection S with S
   subst S
   have ac:(L D).1≠d:=by
    obtain ⟨C,fs,eo⟩:=jz a (L D).2 s'
    rw [eo] at q2
    exact x9 q2 h1 (by intro z; cases z)
   have T1:=vd (o:=(HO.tup [V.ref kt,V.ref (L D).1])) gt
   have a9:upd G t (HO.tup [V.ref kt,V.ref (L D).1]) t=some (HO.tup [V.ref kt,V.ref (L D).1]):=yd
   generalize upd G t (HO.tup [V.ref kt,V.ref (L D).1])=G1 at T1 a9 ⊢
   refine yat (SqT.of a9) rfl ?_
   rfl'
   refine yqo (fun Q' h=>yth rfl h) (T1 _ _ (gB _ _ q2 ac)) fun q dq G2 J a5 T2=>?_
   have S2:=T1.trans T2
   obtain ⟨l,I,U,w2,w3,w4,w5⟩:=id gT.tb
   have a3:Y D=none:=(gf D).2 (yq0 a4 r)
   have af:=S2 _ _ gd
   rfl'
   refine ⟨e,_,rfl,ynj.t (S2 _ _ U) (S2 _ _ ai) (vj (by have:=(List.getElem?_eq_some_iff.mp r).1; omega)),?_⟩
   rfl'
   refine ⟨_,_,_,_,rfl,gT.put S2 (T1.free J) a5 q3 q4 a3 (S2 _ _ U),fun j=>?_,fun c hc=>?_,yi M.symm af,fun b o n ne=>yi (yc n ge) (S2 _ _ (gB _ _ n ne))⟩
   ·unfold ya7
    by_cases z:j=D
    ·rw [if_pos z,z]
     exact ⟨fun _=>a7.symm,fun w=>absurd ((ydl r).mpr (.inl rfl)) w⟩
    ·rw [if_neg z]
     exact ⟨fun w=>(gf j).1 (((ydl r).mp w).resolve_left fun y=>z (yfg y)),fun w=>(gf j).2 fun y=>w ((ydl r).mpr (.inr y))⟩
   ·rcases hc with hc | rfl
    ·exact gO c hc
    ·cases z:H c with
     | none=>rfl
     | some o =>
      by_cases y:c=d
      ·rw [y] at J
       rw [T1 _ _ gd] at J
       cases J
      ·rw [T1 _ _ (gB _ _ z y)] at J
       cases J
  ·rintro σ2 G ⟨v2,v3,Y,Oi,rfl,gT,gf,gO,gd,gB⟩
   have ak:Y=f:=by
    funext j
    have gj:=gf j
    rw [List.take_length] at gj
    by_cases w:kI j∈g.map (·.1)
    ·exact gj.1 w
    ·rw [gj.2 w]
     cases z:f j with
     | none=>rfl
     | some s' =>
      have S:=(h4 j s' z).1
      have a1:=u9 (kI j) g
      rw [S] at a1
      obtain ⟨pr,ae,n⟩:=List.any_eq_true.mp a1
      exact absurd (List.mem_map.mpr ⟨pr,ae,of_decide_eq_true n⟩) w
   subst ak
   refine ⟨d,ob,.dT g,fun o u z=>(by rw [aa] at z; cases z),gd,?_⟩
   have ST:yz H (upd G d (.dT g)):=fun b o n=>by
    by_cases y:b=d
    ·rw [y,yd]
     rw [y,h1] at n
     exact n
    ·rw [ym y]
     exact gB _ _ n y
   have a2:ypg a (upd G d (.dT g)) e kd Y Oi g.length:=by
    obtain ⟨l,I,U,w2,w3,w4,w5⟩:=gT.tb
    have nO:∀ c,Oi c->c≠d:=fun c hc z=>by
     have:=gO c hc
     rw [z,h1] at this
     cases this
    refine ⟨fun b x=>?_,gT.dO,gT.ky.mv U (yi M U),l,I,yi M U,w2,w3,fun k s hk=>?_,w5⟩
    ·obtain ⟨o,ho,hi⟩:=gT.own b x
     exact ⟨o,yi (nO b x) ho,hi⟩
    ·obtain ⟨S,q2,q3,q4,q5⟩:=w4 k s hk
     exact ⟨S,yi (nO _ q5) q2,q3,q4,q5⟩
   generalize upd G d (.dT g)=GT at ST a2 ⊢
   have am:=ST _ _ a6
   rfl'
   intro q dq nq ag ao
   refine ⟨q,dq,lk,kd,rfl,yd,fun d2 G2 al aj B2=>⟨rfl,?_⟩⟩
   have S3:=uy nq ag B2
   have a5:=aj.me
   have N:=a2.same S3
   rfl'
   have X:¬ Oi q:=fun w=>by
    obtain ⟨o,ho,_⟩:=a2.own q w
    rw [nq] at ho
    cases ho
   obtain ⟨l,I,U,w2,w3,w4,w5⟩:=N.tb
   have Z:e≠q:=fun z=>X (z ▸ N.dO)
   refine k q dq e Oi _ (ST.free nq) ⟨yd,fun b x=>?_,X,N.dO,N.ky.mv U (yi Z U),l,I,yi Z U,by omega,w3,fun k s hk=>?_,w5⟩ gO (fun b o n=>yi (fun z=>by rw [z] at n; rw [ST _ _ n] at nq; cases nq) (S3 _ _ (ST _ _ n)))
   ·obtain ⟨o,ho,hi⟩:=N.own b x
    exact ⟨o,yi (fun z=>X (z ▸ x)) ho,hi⟩
   ·obtain ⟨S,q2,q3,q4,q5⟩:=w4 k s hk
    exact ⟨S,yi (fun z=>X (z ▸ q5)) q2,q3,q4,q5⟩
theorem yu4:yo ["self","many"] ["self","many"] (yh yrv):=xc (by right)
theorem yo3 (T:Txt K mg a):wa P w K mg base CX0 1 a.Ek a.Ht ["self","many"] (ygy a):=by
 refine T.Cz.F.ok yu4 (fun f H Q E h=>?_) (fun j A d s H f Q E m h=>?_)
 ·left
 ·obtain ⟨p,i,n,rfl,o,q,e,k⟩:=h
  refine ⟨_,(yf (vv (pv 0) (yu yfb (vq (ya (v7 rfl T.Da) ye (yb rfl))) (pv 1)) rfl)),?_⟩
  exists 2,0
  rfl'
  refine ⟨by walk_at "len",fun r hr0=>?_⟩
  with_reducible first | refine yk hr0 fun H1 S1 e1=>?_ | refine yn hr0 fun H1 S1 e1=>?_
  rfl'
  refine ⟨r,n,_,rfl,rfl,e1,by omega,by omega,zt (by show 1 * (n:Int).toNat <= 16000000; omega),fun l hl=>?_⟩
  rw [ye9]
  with_reducible first | refine yk hl fun H2 S2 e2=>?_ | refine yn hl fun H2 S2 e2=>?_
  have b:=S1.trans S2
  have g:=b _ _ e
  rfl'
  have c:l≠p:=fun z=>by rw [z,S1 _ _ e] at hl; cases hl
  exact k l _ (S1.free hl) ⟨yd,yi c e2⟩ ((But.of b).trans But.upd)
theorem yxg:yo ["self"] ["self"] (yh ys4):=xc (by right)
theorem ywu (T:Txt K mg a):wa P w K mg base CX0 1 a.Hu a.Hv ["self"] (ybn a):=by
 refine T.Ew.F.ok yxg (fun d H Q E h=>?_) (fun i A c s H d Q E j h=>?_)
 ·left
 ·obtain ⟨p,g,l,e,rfl,⟨m,f⟩,k⟩:=h
  refine ⟨_,(yf (yv (vm vi rfl T.Ab (by right) (ya (yy (pv 0) rfl) ye (yb rfl))))),?_⟩
  exists 1,0
  rfl'
  refine xk (SqL.of f) fun r b=>?_
  exact k r _ b yd (vd b)
theorem yws:yo ["self","chances"] ["self","chances"] (yh yr3):=xc (by right)
theorem yuc (T:Txt K mg a):wa P w K mg base CX0 1 a.Hw a.Hx ["self","chances"] (yev K a):=by
 refine T.Ey.F.ok yws (fun vs H Q E h=>?_) (fun a2 A v s H vs Q E hr h=>?_)
 ·left
 ·obtain ⟨p,dx,l,c,B,z,n,rfl,S,n6,e,hc,⟨hp,I⟩,O,k⟩:=h
  refine ⟨_,(yf (yv (yu vh (yr (ya4 rfl) rfl T.Dz (by right) (ya (ya5 (js:=[]) (ys:=[]) (xs:=["weight","chance"]) (g:=ypf K 2 (xu (vn 0) (xu (vn 1) yi1))) rfl (yoa rfl T.F7 (ya (yy (pv 0) rfl) (ya (pv 1) ye (yb rfl)) (yb rfl))) (fun C s2 r X=>(yu u4 (pv 0) (pv 1))) rfl (fun C s2 r X=>yas rfl (we (v6 (i:=0) (show List.Nodup ((["weight","chance"]:List Str)++([]:List Str)) by right) rfl (Or.inl rfl)) (we (v6 (i:=1) (show List.Nodup ((["weight","chance"]:List Str)++([]:List Str)) by right) rfl (Or.inl rfl)) zq))) rfl (hyc:=yw) (hrel:=yw)) ye (yb rfl))) (yr (ya4 rfl) rfl T.Dz (by right) (ya (yy (pv 0) rfl) ye (yb rfl)))))),?_⟩
  exists 2,0
  have d:z.length=B.length:=by rw [e.len,hc.len]
  rfl'
  refine ⟨l,c,rfl,⟨_,_,SqL.of I,O⟩,fun D L=>?_⟩
  refine ycs (fun i=>V.int ((B[i]?).getD 0 * (z[i]?).getD 0)) (SqL.of I) O (by rw [List.length_map,List.length_map,d]) L (fun i x y r G a0 hx W j b q m=>?_) (fun r j b=>?_)
  ·obtain ⟨U,v2,rfl⟩:=ykx m
   obtain ⟨w,rfl,M,Y,R⟩:=jg hx
   obtain ⟨u,rfl,um,Z,_⟩:=jg W
   have w1:=e.one w M
   have w2:=e.top w M
   have N:=j.trans (vd (o:=HO.tup [V.int w,V.int u]) q)
   have t:=ww (o':=HO.tup [V.int w,V.int u]) q b
   have f:upd r G (HO.tup [V.int w,V.int u]) G=some (.tup [V.int w,V.int u]):=yd
   generalize upd r G (HO.tup [V.int w,V.int u])=H3 at N t f
   refine yat (SqT.of f) rfl ?_
   show xu (vn 0) (xu (vn 1) yi1) [V.int w,V.int u] (U :: v2 :: wo [] [some (V.ref p),some (V.ref c)]) H3 _
   rfl'
   refine ⟨⟨[some (.int w),some (.int u)],rfl,rfl⟩,?_⟩
   rfl'
   refine Mp.doneR L (vj (by rw [List.length_map,e.len]; omega)) (by rw [List.length_map]; exact R) N t ?_
   rw [Y,Z]
   rfl
  ·have b:=ygs b (yol (g:=fun w c=>w * c) d)
   have a1:=j _ _ hp
   have J:=j _ _ I
   have p1:=e.pos S
   have p2:=e.small n6
   rfl'
   refine ⟨D,_,rfl,SqL.of b,?_⟩
   rfl'
   refine ⟨l,_,rfl,SqL.of J,?_⟩
   rfl'
   exact k _ j
theorem ycx:yo ["self","chances","bit","shares","whole","own","grown","dropped"] ["self","chances","bit"] (yh yst):=xc (by right)
theorem ynu (T:Txt K mg a):wa P w K mg base (CXe P w) 5 a.Hy a.Hz ["self","chances","bit"] (yep K a a.Ad):=by
 refine T.D0.F.okE ycx (fun vs H Q E h=>?_) (fun aa A a3 s H vs Q E hr h=>?_)
 ·left
 ·obtain ⟨p,dx,l,c,I,r,n,x,m,rfl,n1,n6,S,hc,⟨hp,hl⟩,hq,ty,k1,k2⟩:=h
  refine yq (ve (vf (ygp T) (hr.mono (by decide)) rfl T.B9.m T.B9.F.kp T.B9.B .nil wd (ya (pv 2) ye (yb rfl)))) ?_
  refine yq (ymf (i:=3) (js:=[2]) (ys:=["bit"]) (xs:=["weight","chance"]) (g:=ypf K 2 (xu (vn 0) (xu (vn 1) yi1))) ycx.nd rfl rfl rfl (yoa rfl T.F7 (ya (yy (pv 0) rfl) (ya (pv 1) ye (yb rfl)) (yb rfl))) (fun C s2 N fp=>(yu u4 (pv 0) (vf (yxw T) (hr.mono (by decide)) rfl T.E5.m T.E5.F.kp T.E5.B .nil wf (ya (pv 1) (ya (pv 2) ye (yb rfl)) (yb rfl))))) rfl (fun C s2 N fp=>yas rfl (we (v6 (i:=0) (show List.Nodup ((["weight","chance"]:List Str)++(["bit"]:List Str)) by right) rfl (Or.inl rfl)) (we (v6 (i:=1) (show List.Nodup ((["weight","chance"]:List Str)++(["bit"]:List Str)) by right) rfl (Or.inl rfl)) zq))) rfl (hyc:=(all_cons rfl yw)) (hrel:=(all_cons rfl yw))) ?_
  refine yq (vc (i:=4) ycx.nd rfl (Or.inr rfl) (yr (ya4 rfl) rfl T.Dz (by right) (ya (pv 3) ye (yb rfl)))) ?_
  refine yq (vc (i:=5) ycx.nd rfl (Or.inr rfl) (yu u4 (v7 rfl T.F8) (yr y9 rfl T.As (by right) (ya (pv 3) ye (yb rfl))))) ?_
  refine yq (yhg (i:=6) (js:=[4,5]) (ys:=["whole","own"]) ycx.nd rfl rfl rfl (vz (pv 3)) (fun C s2 N fp=>(yu w6 (yu u4 (pv 2) (pv 0)) (pv 1))) rfl rfl (hyc:=(all_cons rfl (all_cons rfl yw))) (hrel:=(all_cons rfl (all_cons rfl yw)))) ?_
  refine yq (vc (i:=7) ycx.nd rfl (Or.inr rfl) (yr (yeo rfl) rfl T.Jr (by right) (ya (yu zv (yn6 PySem.F.plainAttrs_int PySem.F.slot_int_bit_length PySem.F.type_int_bit_length yke (yr (ya4 rfl) rfl T.Dz (by right) (ya (pv 6) ye (yb rfl)))) (v7 rfl T.Db)) (ya yg ye (yb rfl)) (yb rfl)))) ?_
  refine ⟨_,(yf (vv (pv 0) (wu (js:=[7]) (ys:=["dropped"]) rfl (vz (pv 6)) (fun C s2 N fp=>(yu yny (pv 0) (pv 1))) rfl rfl (hyc:=(all_cons rfl yw)) (hrel:=(all_cons rfl yw))) rfl)),?_⟩
  exists 3,5
  have q:r.length=I.length:=by rw [S.len,hc.len]
  rfl'
  refine ⟨x,m,rfl,ty,fun hx=>?_,k2⟩
  obtain ⟨b,rfl,b0,b1⟩:=yhv hx
  have k:=k1 b rfl b0 b1
  rfl'
  refine ⟨l,c,rfl,⟨_,_,SqL.of hl,hq⟩,fun D hD=>?_⟩
  refine ycs (fun i=>V.int ((I[i]?).getD 0 * giv ((r[i]?).getD 0) b)) (SqL.of hl) hq (by rw [List.length_map,List.length_map,q]) hD (fun i x y N tt a8 hx O W d Y X=>?_) (fun N W d=>?_)
  ·obtain ⟨v1,v2,rfl⟩:=ykx X
   obtain ⟨w,rfl,wm,wi,il⟩:=jg hx
   obtain ⟨u,rfl,um,ui,_⟩:=jg O
   have w1:=S.one w wm
   have w2:=S.top w wm
   have a6:=yn7 (yuz hc um)
   have a7:=yj8 b0 b1
   have L:=W.trans (vd (o:=HO.tup [V.int w,V.int u]) Y)
   have a2:=ww (o':=HO.tup [V.int w,V.int u]) Y d
   have U:upd N tt (HO.tup [V.int w,V.int u]) tt=some (.tup [V.int w,V.int u]):=yd
   generalize upd N tt (HO.tup [V.int w,V.int u])=H3 at L a2 U
   refine yat (SqT.of U) rfl ?_
   show xu (vn 0) (xu (vn 1) yi1) [V.int w,V.int u] (v1 :: v2 :: wo [2] [some (V.ref p),some (V.ref c),some (V.int b),none,none,none,none,none]) H3 _
   rfl'
   refine ⟨⟨[some (.int w),some (.int u)],rfl,rfl⟩,?_⟩
   rfl'
   refine ⟨.int u,_,.int b,_,rfl,.int u,.int b,fun z=>(by rw [a6] at z; cases z),fun _ z=>(by rw [a7] at z; cases z),fun c' b' ec eb _ _=>?_⟩
   cases ec
   cases eb
   rfl'
   refine Mp.doneR hD (vj (by rw [List.length_map,S.len]; omega)) (by rw [List.length_map]; exact il) L a2 ?_
   rw [wi,ui]
   rfl
  ·have d:N D=some (.lst ((shL I r b).map V.int)):=ygs d (yol (g:=fun w c=>w * giv c b) q)
   have j:(shL I r b).length=n:=by rw [ygj q.symm,S.len]
   have a5:=W _ _ hp
   have ek:lrn I r b=(grL (shL I r b)).map fun v=>v / 2 ^ tOf (grL (shL I r b)).sum:=rfl
   rw [ek] at k
   generalize shL I r b=M at d j k
   have eg:grL M=M.map fun s=>31 * (n:Int) * s+M.sum:=by rw [<- j]; rfl
   rfl'
   refine ⟨D,_,rfl,SqL.of d,?_⟩
   rfl'
   refine j9 (SqL.of d) ?_
   rw [List.length_map,j]
   rfl'
   refine ⟨D,rfl,⟨_,SqL.of d⟩,fun G hG=>?_⟩
   refine ybo (onI fun s=>31 * (n:Int) * s+M.sum) (SqL.of d) hG (fun i y H3 O L f=>?_) (fun H3 L f=>?_)
   ·obtain ⟨s',rfl,_,_,il⟩:=jg O
    show tOp _ _ _ (some (V.int s') :: wo [4,5] [some (V.ref p),some (V.ref c),some (V.int b),some (V.ref D),some (V.int M.sum),some (V.int (31 * (n:Int))),none,none]) H3 _
    rfl'
    exact Mp.done hG (vj (by rw [List.length_map,j]; omega)) O L f rfl
   ·rw [ykr,<- eg] at f
    have a0:(grL M).length=n:=by rw [yj7,j]
    generalize grL M=R at f k a0
    have a1:=L _ _ a5
    rfl'
    refine ⟨G,_,rfl,SqL.of f,?_⟩
    rfl'
    refine ⟨_,_,rfl,?_⟩
    have et:(if (0:Int) > ((Builtin.Int.intBits R.sum:Nat):Int) - 48 then (0:Int) else ((Builtin.Int.intBits R.sum:Nat):Int) - 48)=((tOf R.sum:Nat):Int):=by
     show _=(((ym8 R.sum) - 48:Nat):Int)
     have e:Builtin.Int.intBits R.sum=ym8 R.sum:=rfl
     rw [e]
     split <;> omega
    rw [et]
    generalize tOf R.sum=t at k
    rfl'
    refine ⟨G,rfl,⟨_,SqL.of f⟩,fun Z hZ=>?_⟩
    refine ybo (onI fun v=>v / 2 ^ t) (SqL.of f) hZ (fun i y H4 O S4 J=>?_) (fun H4 S4 J=>?_)
    ·obtain ⟨s',rfl,_,_,il⟩:=jg O
     show tOp _ _ _ (some (V.int s') :: wo [7] [some (V.ref p),some (V.ref c),some (V.int b),some (V.ref D),some (V.int M.sum),some (V.int (31 * (n:Int))),some (V.ref G),some (V.int (t:Int))]) H4 _
     rfl'
     refine i_I (Int.natCast_nonneg t) ?_
     exact Mp.done hZ (vj (by rw [List.length_map,a0]; omega)) O S4 J rfl
    ·rw [ykr] at J
     have a9:=S4 _ _ a1
     rfl'
     have nz:Z≠p:=fun z=>by rw [z,a1] at hZ; cases hZ
     have a4:=W.trans (L.trans S4)
     exact k Z _ ((W.trans L).free hZ) ⟨yd,yi nz J⟩ ((But.of a4).trans But.upd)
theorem yo2:yo ["self","made"] ["self"] (yh ysy):=xc (by right)
inductive ygv (a:Ads) (vs:List V) (H:Hp) (Q:VK) (E':XK):Prop
 | mk (p dx l:Addr) (ws:List Int):(vs=[.ref p])->(ygq a p dx l ws H)->(1 <= ws.length)->(ws.length <= 6)->(∀ q dq l' H',H q=none->H l'=none->ygq a q dq l' ws H'->yz H H'->Q (.ref q) H')->ygv a vs H Q E'
theorem yvp (T:Txt K mg a):wa P w K mg base CX0 3 a.I0 a.I1 ["self"] (ygv a):=by
 refine T.Ez.F.ok yo2 (fun I H Q E h=>?_) (fun G A g s H I Q E J h=>?_)
 ·left
 ·obtain ⟨p,D,l,n,rfl,⟨O,u⟩,y,N,k⟩:=h
  refine ⟨_,(yj (vc (i:=1) yo2.nd rfl (Or.inl rfl) (ydx T.M6 (yo3 T) (J.mono (by decide)) rfl T.M5 T.Cz.B .nil y7 (ya (yr y9 rfl T.As (by right) (ya (yy (pv 0) rfl) ye (yb rfl))) ye (yb rfl)))) (yj (vv (pv 1) (vm vi rfl T.Ab (by right) (ya (yy (pv 0) rfl) ye (yb rfl))) rfl) (yf (yv (pv 1))))),?_⟩
  exists 1,1
  rfl'
  refine j9 (SqL.of u) ?_
  rw [List.length_map]
  rfl'
  intro q t f m C
  refine ⟨q,t,n.length,rfl,y,N,yd,fun S R v M1 M=>⟨rfl,?_⟩⟩
  have d:=uy f m M
  have c:=M1.o
  have x:=d _ _ O
  rfl'
  refine xk (SqL.of (d _ _ u)) fun r hr0=>?_
  with_reducible first | refine yk hr0 fun H2 S2 er=>?_ | refine yn hr0 fun H2 S2 er=>?_
  have L:=S2 _ _ c
  rfl'
  have j:r≠q:=fun z=>by rw [z,c] at hr0; cases hr0
  exact k q t r _ f (d.free hr0) ⟨yd,yi j er⟩ fun b o e=>yi (yc e f) (S2 _ _ (d _ _ e))
theorem yu2:yo ["self"] ["self"] (yh ytc):=xc (by right)
theorem jj.sqt {H H':Hp} {dx lk:Addr} {kd:Fin 3} {f:List Int->Option Slt} {O:Addr->Prop} {m:Nat} (h:jj a H p dx lk d kd f O m) (B:ylr O H H') {t:Addr} {xs:List V} (e:SqT K H t xs):SqT K H' t xs:=by
 have g:∀ o:HO,H t=some o->yno o=false->H' t=some o:=fun o i j=>B _ _ i fun z=>by
  obtain ⟨k,b,c⟩:=h.own t z
  rw [i] at b
  cases b
  rw [j] at c
  cases c
 rcases e with (e | ⟨o,e⟩) | e
 ·exact .inl (.inl (g _ e rfl))
 ·exact .inl (.inr ⟨o,g _ e rfl⟩)
 ·exact .inr e
theorem jj.up {H:Hp} {dx lk:Addr} {kd:Fin 3} {f:List Int->Option Slt} {O:Addr->Prop} {m:Nat} (h:jj a H p dx lk d kd f O m) (hm:m <= m'):jj a H p dx lk d kd f O m':=by
 obtain ⟨b,c,i,e,g⟩:=h.tb
 exact ⟨h.me,h.own,h.np,h.dO,h.ky,b,c,i,Nat.le_trans e hm,g⟩
theorem uz.mvT {H H':Hp} {k:Addr} {x:V} {ps:List Int} (h:uz K H k x ps) (h1:∀ t xs,SqT K H t xs->SqT K H' t xs):uz K H' k x ps:=by
 obtain ⟨t,b,a,d,c⟩:=h
 exact ⟨t,h1 _ _ b,h1 _ _ a,d,c⟩
def refs (g:Nat->Addr) (n:Nat):List V:=(List.range n).map fun i=>V.ref (g i)
theorem yt (g:Nat->Addr) (n:Nat):(refs g n).length=n:=by unfold refs; rw [List.length_map,List.length_range]
theorem wt {g:Nat->Addr} {n:Nat} {x:V} (h:(refs g n)[i]?=some x):x=.ref (g i)/\i < n:=by
 have a:i < n:=by
  have:=(List.getElem?_eq_some_iff.mp h).1
  rw [yt] at this
  exact this
 unfold refs at h
 rw [List.getElem?_map,List.getElem?_range a] at h
 exact ⟨(Option.some.inj h).symm,a⟩
theorem w9 (g:Nat->Addr) (n:Nat):refs g (n+1)=refs g n++[.ref (g n)]:=by
 unfold refs
 rw [List.range_succ,List.map_append]
 rfl
theorem wx {g h:Nat->Addr} {n:Nat} (e:∀ i,i < n->g i=h i):refs g n=refs h n:=by
 unfold refs
 exact List.map_congr_left fun i a=>by rw [e i (List.mem_range.mp a)]
structure Bks (K:W.Frag) (a:Ads) (H:Hp) (n:Nat) (bk dx lk dd:Nat->Addr) (kd:Nat->Fin 3) (ps:Nat->List Int) (f:Nat->List Int->Option Slt) (O:Nat->Addr->Prop) (m:Nat):Prop where
 look:∀ i,i < n->uz K H (lk i) (.str (kdS (kd i))) (ps i)
 b:∀ i,i < n->jj a H (bk i) (dx i) (lk i) (dd i) (kd i) (f i) (O i) m
 dj:∀ i j c,i < n->j < n->i≠j->O i c->¬ O j c
 nb:∀ i j,i < n->j < n->¬ O i (bk j)
def AtS (H:Hp) (d:Addr) (k:List Int) (q:Addr):Prop:=∀ kvs,H d=some (.dT kvs)->jf kvs (kI k)=some (.ref q)
theorem jj.slot {H:Hp} {dx lk:Addr} {kd:Fin 3} {f:List Int->Option Slt} {O:Addr->Prop} {m:Nat} {k:List Int} {s:Slt} (h:jj a H p dx lk d kd f O m) (hf:f k=some s) (hq:AtS H d k q):∃ dq,H q=some (oS a dq s)/\s.ok/\s.kind=kd/\O q:=by
 obtain ⟨b,j,l,t,u,c,v⟩:=h.tb
 obtain ⟨i,n,o,r,g⟩:=c k s hf
 have e:=hq b l
 rw [i] at e
 injection e with e
 injection e with e
 subst e
 exact ⟨_,n,o,r,g⟩
theorem jj.told {H H':Hp} {dx lk:Addr} {kd:Fin 3} {f:List Int->Option Slt} {O:Addr->Prop} {m:Nat} {k:List Int} {s:Slt} {b:Int} (h:jj a H p dx lk d kd f O m) (hf:f k=some s) (hq:AtS H d k q) (b0:0 <= b) (b1:b <= 1)
  (h3:H' q=some (oS a dq (s.see b))) (B:But q H H'):jj a H' p dx lk d kd (ya7 f k (s.see b)) O m:=by
 have y:=h.me
 obtain ⟨r,l,u,P,A,K,I⟩:=id h.tb
 obtain ⟨J,L,q3,q4,G⟩:=K k s hf
 have e:=hq r u
 rw [J] at e
 injection e with e
 injection e with e
 have x:p≠q:=fun z=>h.np (by rw [z,<- e]; exact G)
 have v:d≠q:=fun z=>by
  obtain ⟨C,M,E⟩:=jz a (l k).2 s
  rw [e,<- z,u,E] at L
  cases L
 refine ⟨B _ _ y x,fun c U=>?_,h.np,h.dO,h.ky.mv u (B _ _ u v),r,fun j=>if j=k then (q,dq) else l j,B _ _ u v,P,fun j i=>?_,fun j n i=>?_,fun D F s1 s2 Y S X=>?_⟩
 ·obtain ⟨o,W,hi⟩:=h.own c U
  by_cases z:c=q
  ·rw [z]
   obtain ⟨C,M,E⟩:=jz a dq (s.see b)
   exact ⟨_,h3,by rw [E]; rfl⟩
  ·exact ⟨o,B _ _ W z,hi⟩
 ·refine A j ?_
  unfold ya7 at i
  split at i
  ·cases i
  ·exact i
 ·unfold ya7 at i
  by_cases z:j=k
  ·rw [if_pos z] at i
   cases i
   subst z
   dsimp only
   rw [if_pos rfl]
   exact ⟨by rw [J,e],h3,Slt.see_ok q3 b0 b1,(ymx s b).trans q4,e ▸ G⟩
  ·rw [if_neg z] at i
   obtain ⟨p1,Z,T,p4,R⟩:=K j n i
   dsimp only
   rw [if_neg z]
   exact ⟨p1,B _ _ Z (fun w=>z (I j k n s i hf (w.trans e.symm))),T,p4,R⟩
 ·have g:∀ j n,ya7 f k (s.see b) j=some n->∃ t,f j=some t:=fun j n h=>by
   unfold ya7 at h
   by_cases z:j=k
   ·exact ⟨s,by rw [z]; exact hf⟩
   ·rw [if_neg z] at h
    exact ⟨n,h⟩
  obtain ⟨t1,f1⟩:=g D s1 Y
  obtain ⟨Q,N⟩:=g F s2 S
  refine I D F t1 Q f1 N ?_
  have yph:∀ j,(if j=k then ((q,dq):Addr × Addr) else l j).1=(l j).1:=fun j=>by
   by_cases z:j=k
   ·rw [if_pos z,z]
    exact e.symm
   ·rw [if_neg z]
  rw [<- yph D,<- yph F]
  exact X
theorem AtS.told {H H':Hp} {dx lk:Addr} {kd:Fin 3} {f:List Int->Option Slt} {O:Addr->Prop} {m:Nat} {k:List Int} (h:jj a H p dx lk d kd f O m) {r:Addr} (hd:d≠r) (B:But r H H') (hq:AtS H d k q):AtS H' d k q:=fun g e=>by
 obtain ⟨b,i,c,_⟩:=h.tb
 rw [B _ _ c hd] at e
 cases e
 exact hq _ c
section
variable {H H':Hp} {n m:Nat} {bk dx lk dd:Nat->Addr} {kd:Nat->Fin 3} {ps:Nat->List Int} {f:Nat->List Int->Option Slt}
theorem Bks.frame (h:Bks K a H n bk dx lk dd kd ps f O m) (B:ylr O2 H H') (dj:∀ i b,i < n->O i b->¬ O2 b) (hp:∀ i,i < n->¬ O2 (bk i)) (ht:∀ t xs,SqT K H t xs->SqT K H' t xs):Bks K a H' n bk dx lk dd kd ps f O m :=
 ⟨fun i c=>(h.look i c).mvT ht,fun i c=>(h.b i c).frame B (fun b d=>dj i b c d) (hp i c),h.dj,h.nb⟩
theorem Bks.same (h:Bks K a H n bk dx lk dd kd ps f O m) (S:yz H H'):Bks K a H' n bk dx lk dd kd ps f O m :=
 h.frame (O2:=fun _=>False) (fun b o e _=>S b o e) (fun _ _ _ _ z=>z) (fun _ _ z=>z) fun _ _ e=>S.tup e
theorem Bks.move (h:Bks K a H n bk dx lk dd kd ps f O m) (hj:j < n) {f':List Int->Option Slt} {O':Addr->Prop} (hm:m <= m') (hb:jj a H' (bk j) (dx j) (lk j) (dd j) (kd j) f' O' m') (hO:∀ c,O' c->O j c\/H c=none) (B:ylr (O j) H H') :
  Bks K a H' n bk dx lk dd kd ps (fun i=>if i=j then f' else f i) (fun i=>if i=j then O' else O i) m':=by
 have y:=h.b j hj
 have g:∀ q c,q < n->q≠j->O q c->¬ O' c:=fun q c C A w E=>by
  rcases hO c E with v | v
  ·exact h.dj q j c C hj A w v
  ·obtain ⟨o,D,_⟩:=(h.b q C).own c w
   rw [v] at D
   cases D
 refine ⟨fun i d=>(h.look i d).mvT fun t F e=>y.sqt B e,fun i d=>?_,fun i l c d r u p k=>?_,fun i l d r e=>?_⟩
 ·try dsimp only
  by_cases z:i=j
  ·subst z
   rw [if_pos rfl,if_pos rfl]
   exact hb
  ·rw [if_neg z,if_neg z]
   exact ((h.b i d).frame B (fun b x=>h.dj i j b d hj z x) (h.nb j i hj d)).up hm
 ·try dsimp only at p k
  by_cases z1:i=j
  ·rw [if_pos z1] at p
   have s:l≠j:=fun w=>u (z1.trans w.symm)
   rw [if_neg s] at k
   exact g l c r s k p
  ·rw [if_neg z1] at p
   by_cases s:l=j
   ·rw [if_pos s] at k
    exact g i c d z1 p k
   ·rw [if_neg s] at k
    exact h.dj i l c d r u p k
 ·try dsimp only at e
  by_cases z:i=j
  ·rw [if_pos z] at e
   rcases hO _ e with v | v
   ·exact h.nb j l hj r v
   ·rw [(h.b l r).me] at v
    cases v
  ·rw [if_neg z] at e
   exact h.nb i l d r e
theorem AtS.move (h:Bks K a H n bk dx lk dd kd ps f O m) (hi:i < n) (hj:j < n) (hij:i≠j) (B:ylr (O j) H H') {k:List Int} (hq:AtS H (dd i) k q):AtS H' (dd i) k q:=fun g e=>by
 obtain ⟨c,l,d,_⟩:=(h.b i hi).tb
 rw [B _ _ d (h.dj i j _ hi hj hij (h.b i hi).dO)] at e
 cases e
 exact hq _ d
theorem Bks.nlst (h:Bks K a H n bk dx lk dd kd ps f O m) {l:Addr} {xs:List V} (hl:H l=some (.lst xs)):∀ i,i < n->¬ O i l:=fun i e z=>by
 obtain ⟨o,d,c⟩:=(h.b i e).own l z
 rw [hl] at d
 cases d
 cases c
end
def ylv (n:Nat) (kd:Nat->Fin 3) (f:Nat->List Int->Option Slt) (g:Nat->List Int->Slt):Prop:=∀ i,i < n->∀ k,(f i k).getD (kd0 (kd i))=g i k
theorem ylv.put {n:Nat} {kd:Nat->Fin 3} {f:Nat->List Int->Option Slt} {g:Nat->List Int->Slt} (h:ylv n kd f g) (j:Nat) (hj:j < n) (k:List Int):ylv n kd (fun i=>if i=j then ya7 (f j) k ((f j k).getD (kd0 (kd j))) else f i) g:=fun i b a=>by
 dsimp only
 by_cases z:i=j
 ·subst z
  rw [if_pos rfl]
  unfold ya7
  by_cases w:a=k
  ·rw [if_pos w,w]
   exact h i b k
  ·rw [if_neg w]
   exact h i b a
 ·rw [if_neg z]
  exact h i b a
inductive ycb (K:W.Frag) (a:Ads) (vs:List V) (H:Hp) (Q:VK) (E':XK):Prop
 | mk (p dp ll bl mp el pl0:Addr) (nd:Int) (sg:List Int) (n m:Nat) (bk dx lk dd:Nat->Addr) (kd:Nat->Fin 3) (ps:Nat->List Int) (f:Nat->List Int->Option Slt) (O:Nat->Addr->Prop) (g:Nat->List Int->Slt):(vs=[.ref p])->(H p=some (.ins a.A0 dp (ux (.ref ll) (.ref bl) (.ref mp) (.ref el) (.int nd) (.ref pl0))))->(H bl=some (.lst (refs bk n)))->(H el=some (.lst (sg.map V.int)))->(Bks K a H n bk dx lk dd kd ps f O m)->(ylv n kd f g)->(n <= 6)->(m+10 < 1000000)->((∀ i,i < n->¬ O i p))->(∀ (pl:Addr) (sl:Nat->Addr) (f':Nat->List Int->Option Slt) (O':Nat->Addr->Prop) (H':Hp),H' p=some (.ins a.A0 dp (ux (.ref ll) (.ref bl) (.ref mp) (.ref el) (.int nd) (.ref pl)))->H' pl=some (.lst (refs sl n))->H pl=none ->
  Bks K a H' n bk dx lk dd kd ps f' O' (m+n)->ylv n kd f' g->(∀ j,j < n->(∃ s,f' j (ctx (ps j) sg nd)=some s)/\AtS H' (dd j) (ctx (ps j) sg nd) (sl j))->(∀ j c,j < n->O' j c->O j c\/H c=none) ->
  (∀ c o,H c=some o->c≠p->(∀ j,j < n->¬ O j c)->H' c=some o)->(∀ c o,H c=some o->∃ o',H' c=some o')->Q .non H')->ycb K a vs H Q E'
theorem yh0 (T:Txt K mg a):wa P w K mg base CX0 5 a.I3 a.I4 ["self"] (ycb K a):=by
 refine T.Bz.F.ok yu2 (fun vs H Q E h=>?_) (fun ai A ac s H vs Q E hr h=>?_)
 ·left
 ·obtain ⟨p,dp,ll,bl,mp,el,ae,L,W,n,m,Z,dx,lk,Y,kd,N,f,O,g,rfl,hp,X,a0,hB,hA,n6,hm,np,k⟩:=h
  refine ⟨_,(yf (vv (pv 0) (wu (js:=[0]) (ys:=["self"]) rfl (vz (yy (pv 0) rfl)) (fun C s2 H2 fp=>(ybv (pv 0) T.Bl T.Eu.m (yud T) (hr.mono (by decide)) T.Eu.B .nil y7 (ya (yks (K:=K) rfl (pv 1) rfl) (ya (yks (K:=K) rfl (pv 1) rfl) ye (yb rfl)) (yb rfl)))) rfl rfl (hyc:=(all_cons rfl yw)) (hrel:=(all_cons rfl yw))) rfl)),?_⟩
  exists 1,0
  rfl'
  refine ⟨bl,rfl,⟨_,SqL.of X⟩,fun D M=>?_⟩
  have ab:=hB.nlst X
  have a9:=hB.nlst a0
  refine zy (K:=K) (xs:=refs Z n) (fun i G=>∃ (u:Nat->Addr) (R:Nat->List Int->Option Slt) (I:Nat->Addr->Prop),G D=some (.lst (refs u i))/\Bks K a G n Z dx lk Y kd N R I (m+i)/\ylv n kd R g/\(∀ j,j < i->(∃ s,R j (ctx (N j) W L)=some s)/\AtS G (Y j) (ctx (N j) W L) (u j)) /\
   (∀ j c,j < n->I j c->O j c\/H c=none)/\(∀ c o,H c=some o->(∀ j,j < n->¬ O j c)->G c=some o)/\(∀ c o,H c=some o->∃ o',G c=some o'))
   ⟨fun _=>0,f,O,yd,hB.same (vd M),hA,fun j d=>absurd d (Nat.not_lt_zero j),fun j c _ z=>.inl z,fun c o e _=>ww M e,fun c o e=>⟨o,ww M e⟩⟩ (fun i G _ z=>?_) (fun i x G hx hi z=>?_) (fun G z=>?_)
  ·obtain ⟨_,_,_,_,_,_,_,_,w,_⟩:=z
   exact SqL.of (w _ _ X ab)
  ·obtain ⟨u,R,I,gD,r,gA,gS,gO,gF,gL⟩:=z
   obtain ⟨rfl,l⟩:=wt hx
   have J:=gF _ _ hp np
   have a6:=gF _ _ a0 a9
   have ah:=(r.b i l).me
   show yb5 _ _ _ _ _ _ _ (some (V.ref (Z i)) :: wo [0] [some (V.ref p)]) G _
   rfl'
   refine ⟨Z i,dx i,lk i,Y i,el,kd i,R i,I i,m+i,N i,W,L,rfl,r.b i l,by omega,r.look i l,SqL.of a6,fun q O2 G2 a7 hv a2 aa B2=>?_⟩
   have nD:=r.nlst gD
   have y:G2 D=some (.lst (refs u i)):=B2 _ _ gD (nD i l)
   refine wb (n:=(refs Z n).length) y (vj (by rw [yt]; omega)) hi ?_
   have M2:=r.move l (Nat.le_succ (m+i)) a7 a2 B2
   have a3:=M2.nlst y
   have S:∀ c o,G2 c=some o->c≠D->upd G2 D (.lst (refs u i++[V.ref q])) c=some o:=fun c o e U=>yi U e
   have M3:=M2.frame (O2:=fun c=>c=D) (fun c o e U=>S c o e U) (fun j c d w z=>a3 j d (z ▸ w)) (fun j d z=>by
    have:=(M2.b j d).me
    rw [z,y] at this
    cases this) (fun t xs e=>by
    rcases e with (e | ⟨o,e⟩) | e
    ·exact .inl (.inl (S _ _ e (fun z=>by rw [z,y] at e; cases e)))
    ·exact .inl (.inr ⟨o,S _ _ e (fun z=>by rw [z,y] at e; cases e)⟩)
    ·exact .inr e)
   have up:∀ j,j < n->AtS G2 (Y j) (ctx (N j) W L) (if j=i then q else u j)->AtS (upd G2 D (.lst (refs u i++[V.ref q]))) (Y j) (ctx (N j) W L) (if j=i then q else u j):=fun j d h =>
    h.told (M2.b j d) (fun z=>a3 j d (by rw [<- z]; exact (M2.b j d).dO)) (fun c o e U=>S c o e U)
   refine ⟨fun j=>if j=i then q else u j,_,_,?_,M3,gA.put i l _,fun j d=>?_,fun j c d w=>?_,fun c o e no=>?_,fun c o e=>?_⟩
   ·rw [yd,w9,if_pos rfl]
    congr 3
    exact wx fun j d=>(if_neg (by omega)).symm
   ·by_cases z:j=i
    ·subst z
     refine ⟨⟨(R j (ctx (N j) W L)).getD (kd0 (kd j)),?_⟩,up j l ?_⟩
     ·try dsimp only
      rw [if_pos rfl]
      unfold ya7
      rw [if_pos rfl]
     ·rw [if_pos rfl]
      exact hv
    ·have a5:j < n:=by omega
     obtain ⟨⟨s',ad⟩,ag⟩:=gS j (by omega)
     refine ⟨⟨s',?_⟩,up j a5 ?_⟩
     ·try dsimp only
      rw [if_neg z]
      exact ad
     ·rw [if_neg z]
      exact ag.move r a5 l z B2
   ·try dsimp only at w
    by_cases z:j=i
    ·subst z
     rw [if_pos rfl] at w
     rcases a2 c w with v | v
     ·exact gO j c d v
     ·refine .inr ?_
      cases e:H c with
      | none=>rfl
      | some o =>
       obtain ⟨o',w'⟩:=gL c o e
       rw [w'] at v
       cases v
    ·rw [if_neg z] at w
     exact gO j c d w
   ·have hG:=gF c o e no
    have nc:¬ I i c:=fun w=>by
     rcases gO i c l w with v | v
     ·exact no i l v
     ·rw [e] at v
      cases v
    refine S _ _ (B2 _ _ hG nc) (fun z=>?_)
    rw [z,M] at e
    cases e
   ·obtain ⟨o1,w1⟩:=gL c o e
    have a1:c≠D:=fun z=>by rw [z,M] at e; cases e
    by_cases w2:I i c
    ·obtain ⟨o2,af,_⟩:=a7.own c (aa c w2)
     exact ⟨o2,S _ _ af a1⟩
    ·exact ⟨o1,S _ _ (B2 _ _ w1 w2) a1⟩
  ·obtain ⟨u,R,I,gD,r,gA,gS,gO,gF,gL⟩:=z
   rw [yt] at gD r gS
   have J:=gF _ _ hp np
   rfl'
   have a8:D≠p:=fun z=>by rw [z,hp] at M; cases M
   have BP:But p G (upd G p (.ins a.A0 dp (ux (.ref ll) (.ref bl) (.ref mp) (.ref el) (.int L) (.ref D)))):=But.upd
   have a4:∀ i,i < n->¬ I i p:=fun i hi w=>by
    rcases gO i p hi w with v | v
    ·exact np i hi v
    ·rw [hp] at v; cases v
   have M3:=r.frame (O2:=fun c=>c=p) (fun c o e U=>BP c o e U) (fun j c d w z=>a4 j d (z ▸ w)) (fun j d z=>by
    have:=(r.b j d).me
    rw [z,J] at this
    injection this with this
    injection this with _ _ e
    exact absurd (congrArg List.length e) (show ¬ (6=2) by decide)) (fun t xs e=>by
    rcases e with (e | ⟨o,e⟩) | e
    ·exact .inl (.inl (BP _ _ e (fun z=>by rw [z,J] at e; cases e)))
    ·exact .inl (.inr ⟨o,BP _ _ e (fun z=>by rw [z,J] at e; cases e)⟩)
    ·exact .inr e)
   refine k D u R I _ yd (yi a8 gD) M M3 gA (fun j d=>⟨(gS j d).1,(gS j d).2.told (r.b j d) (fun z=>a4 j d (by rw [<- z]; exact (r.b j d).dO)) BP⟩) gO (fun c o e nc no=>BP _ _ (gF c o e no) nc) fun c o e=>?_
   by_cases zc:c=p
   ·rw [zc]
    exact ⟨_,yd⟩
   ·obtain ⟨o1,w1⟩:=gL c o e
    exact ⟨o1,BP _ _ w1 zc⟩
structure FA where
 dp:Addr
 ll:Addr
 bl:Addr
 mp:Addr
 mx:Addr
 ml:Addr
 el:Addr
 pl:Addr
 n:Nat
 bk:Nat->Addr
 dx:Nat->Addr
 lk:Nat->Addr
 dd:Nat->Addr
 sl:Nat->Addr
 kd:Nat->Fin 3
 ps:Nat->List Int
structure FX where
 g:Nat->List Int->Slt
 ws:List Int
 sg:List Int
 nd:Int
def FX.key (X:FX) (A:FA) (i:Nat):List Int:=ctx (A.ps i) X.sg X.nd
def FX.cs (X:FX) (A:FA):List Int:=(List.range A.n).map fun i=>(X.g i (X.key A i)).due
def ndN (nd b:Int):Int:=if 0 < nd then (if 256 <= 2 * nd+b then 0 else 2 * nd+b) else if b=1 then 1 else nd
def sgN (sg:List Int) (nd b:Int):List Int:=if 0 < nd then (if 256 <= 2 * nd+b then sg++[2 * nd+b - 256] else sg) else if b=1 then sg else []
def FX.see (X:FX) (A:FA) (b:Int):FX:={ g:=fun i k=>if k=X.key A i then (X.g i k).see b else X.g i k,ws:=lrn X.ws (X.cs A) b,sg:=sgN X.sg X.nd b,nd:=ndN X.nd b }
structure u7 (K:W.Frag) (a:Ads) (H:Hp) (p:Addr) (A:FA) (X:FX) (f:Nat->List Int->Option Slt) (O:Nat->Addr->Prop) (m:Nat):Prop where
 me:H p=some (.ins a.A0 A.dp (ux (.ref A.ll) (.ref A.bl) (.ref A.mp) (.ref A.el) (.int X.nd) (.ref A.pl)))
 bl:H A.bl=some (.lst (refs A.bk A.n))
 el:H A.el=some (.lst (X.sg.map V.int))
 mx:ygq a A.mp A.mx A.ml X.ws H
 wok:WOk A.n X.ws
 pl:H A.pl=some (.lst (refs A.sl A.n))
 B:Bks K a H A.n A.bk A.dx A.lk A.dd A.kd A.ps f O m
 ag:ylv A.n A.kd f X.g
 at':∀ j,j < A.n->(∃ s,f j (X.key A j)=some s)/\AtS H (A.dd j) (X.key A j) (A.sl j)
 np:∀ i,i < A.n->¬ O i p
 nm:∀ i,i < A.n->¬ O i A.mp
 n1:1 <= A.n
 n6:A.n <= 6
theorem u7.same {H H':Hp} {A:FA} {X:FX} {f:Nat->List Int->Option Slt} {m:Nat} (h:u7 K a H p A X f O m) (S:yz H H'):u7 K a H' p A X f O m :=
 ⟨S _ _ h.me,S _ _ h.bl,S _ _ h.el,h.mx.same S,h.wok,S _ _ h.pl,h.B.same S,h.ag,fun j c=>⟨(h.at' j c).1,fun i e=>by
  obtain ⟨g,k,d,_⟩:=(h.B.b j c).tb
  rw [S _ _ d] at e
  cases e
  exact (h.at' j c).2 _ d⟩,h.np,h.nm,h.n1,h.n6⟩
theorem u7.slot {H:Hp} {A:FA} {X:FX} {f:Nat->List Int->Option Slt} {m:Nat} (h:u7 K a H p A X f O m) (hj:j < A.n) :
  f j (X.key A j)=some (X.g j (X.key A j))/\(∃ dq,H (A.sl j)=some (oS a dq (X.g j (X.key A j))))/\(X.g j (X.key A j)).ok/\O j (A.sl j):=by
 obtain ⟨⟨s,d⟩,c⟩:=h.at' j hj
 have e:=h.ag j hj (X.key A j)
 rw [d] at e
 have e:s=X.g j (X.key A j):=e
 rw [<- e]
 obtain ⟨dq,l,i,o,k⟩:=(h.B.b j hj).slot d c
 exact ⟨d,⟨dq,l⟩,i,k⟩
theorem u7.cok {H:Hp} {A:FA} {X:FX} {f:Nat->List Int->Option Slt} {m:Nat} (h:u7 K a H p A X f O m):COk A.n (X.cs A):=by
 refine ⟨by unfold FX.cs; rw [List.length_map,List.length_range],fun c b=>?_,fun c b=>?_⟩
 ·obtain ⟨j,d,rfl⟩:=List.mem_map.mp b
  exact (ynw (h.slot (List.mem_range.mp d)).2.2.1).1
 ·obtain ⟨j,d,rfl⟩:=List.mem_map.mp b
  exact (ynw (h.slot (List.mem_range.mp d)).2.2.1).2
theorem LkG.at' {H:Hp} {lk tp:Addr} {kd:Fin 3} {ps:List Int} (h:LkG H (.ref lk) kd tp ps):uz K H lk (.str (kdS kd)) ps:=by
 obtain ⟨c,e,d,b,a⟩:=h
 cases e
 have a:=a
 unfold uv at a
 rw [Bool.and_eq_true,Bool.and_eq_true,List.all_eq_true] at a
 refine ⟨tp,SqT.of d,SqT.of b,fun p f=>?_,by have:=of_decide_eq_true a.1.1; rw [List.length_map] at this; exact this⟩
 have w:=a.1.2 (.int p) (List.mem_map.mpr ⟨p,f,rfl⟩)
 have w:(decide (1 <= p) && decide (p <= 8))=true:=w
 rw [Bool.and_eq_true] at w
 exact ⟨of_decide_eq_true w.1,of_decide_eq_true w.2⟩
theorem Bks.snoc {H:Hp} {n m:Nat} {bk dx lk dd:Nat->Addr} {kd:Nat->Fin 3} {ps:Nat->List Int} {f:Nat->List Int->Option Slt} (h:Bks K a H n bk dx lk dd kd ps f O m)
  (hl:uz K H (lk n) (.str (kdS (kd n))) (ps n)) {q dq d:Addr} {f':List Int->Option Slt} {O':Addr->Prop} (hb:jj a H q dq (lk n) d (kd n) f' O' m) (dj:∀ j c,j < n->O j c->¬ O' c) (n1:∀ j,j < n->¬ O j q) (n2:∀ j,j < n->¬ O' (bk j)) :
  Bks K a H (n+1) (upN bk n q) (upN dx n dq) lk (upN dd n d) kd ps (upN f n f') (upN O n O') m:=by
 refine ⟨fun i p=>?_,fun i p=>?_,fun i j c p s r o l=>?_,fun i j p s e=>?_⟩
 ·by_cases z:i=n
  ·rw [z]
   exact hl
  ·exact h.look i (by omega)
 ·by_cases z:i=n
  ·subst z
   rw [vw,vw,vw,vw,vw]
   exact hb
  ·have g:i < n:=by omega
   rw [vp g,vp g,vp g,vp g,vp g]
   exact h.b i g
 ·by_cases z:i=n
  ·subst z
   have k:j < i:=by omega
   rw [vw] at o
   rw [vp k] at l
   exact dj j c k l o
  ·have g:i < n:=by omega
   rw [vp g] at o
   by_cases w:j=n
   ·subst w
    rw [vw] at l
    exact dj i c g o l
   ·have k:j < n:=by omega
    rw [vp k] at l
    exact h.dj i j c g k r o l
 ·by_cases z:i=n
  ·subst z
   rw [vw] at e
   by_cases w:j=i
   ·subst w
    rw [vw] at e
    exact hb.np e
   ·have k:j < i:=by omega
    rw [vp k] at e
    exact n2 j k e
  ·have g:i < n:=by omega
   rw [vp g] at e
   by_cases w:j=n
   ·subst w
    rw [vw] at e
    exact n1 i g e
   ·have k:j < n:=by omega
    rw [vp k] at e
    exact h.nb i j g k e
def ynl (K:W.Frag) (a:Ads) (H G:Hp) (n:Nat) (bk dx lk dd:Nat->Addr) (kd:Nat->Fin 3) (ps:Nat->List Int) (f:Nat->List Int->Option Slt) (O:Nat->Addr->Prop):Prop :=
 Bks K a G n bk dx lk dd kd ps f O 0/\(∀ j k,j < n->f j k=none)/\(∀ j c,j < n->O j c->H c=none)/\(∀ j,j < n->H (bk j)=none)
theorem ynl.zero {H G:Hp} {bk dx lk dd:Nat->Addr} {kd:Nat->Fin 3} {ps:Nat->List Int} {f:Nat->List Int->Option Slt} :ynl K a H G 0 bk dx lk dd kd ps f O :=
 ⟨⟨fun i b=>absurd b (Nat.not_lt_zero i),fun i b=>absurd b (Nat.not_lt_zero i),fun i _ _ b=>absurd b (Nat.not_lt_zero i),fun i _ b=>absurd b (Nat.not_lt_zero i)⟩,fun i _ b=>absurd b (Nat.not_lt_zero i),fun i _ b=>absurd b (Nat.not_lt_zero i),fun i b=>absurd b (Nat.not_lt_zero i)⟩
theorem ynl.next {H G G2:Hp} {n:Nat} {bk dx lk dd:Nat->Addr} {kd:Nat->Fin 3} {ps:Nat->List Int} {f:Nat->List Int->Option Slt} (h:ynl K a H G n bk dx lk dd kd ps f O) (hl:uz K G (lk n) (.str (kdS (kd n))) (ps n))
  (S:yz H G) {q dq d D:Addr} {xs ys:List V} (hq:G q=none) (hd:G d=none) (S2:yz G G2) (hb:jj a G2 q dq (lk n) d (kd n) (fun _=>none) (fun b=>b=d) 0) (hD:G D=some (.lst xs)) :
  ynl K a H (upd G2 D (.lst ys)) (n+1) (upN bk n q) (upN dx n dq) lk (upN dd n d) kd ps (upN f n fun _=>none) (upN O n fun b=>b=d):=by
 obtain ⟨p,y,u,v⟩:=h
 have l:∀ j c,j < n->O j c->∃ o,G c=some o:=fun j c g w=>let ⟨o,m,_⟩:=(p.b j g).own c w; ⟨o,m⟩
 have M:=(p.same S2).snoc (hl.same S2) hb (fun j c g w z=>by
  obtain ⟨o,m⟩:=l j c g w
  rw [show c=d from z,hd] at m
  cases m) (fun j g w=>by
  obtain ⟨o,m⟩:=l j q g w
  rw [hq] at m
  cases m) (fun j g z=>by
  have e:=(p.b j g).me
  rw [show bk j=d from z,hd] at e
  cases e)
 have i:=S2 _ _ hD
 have x:=M.nlst i
 have r:∀ c o,G2 c=some o->c≠D->upd G2 D (.lst ys) c=some o:=fun c o e s=>yi s e
 refine ⟨M.frame (O2:=fun c=>c=D) (fun c o e s=>r c o e s) (fun j c g w z=>x j g (z ▸ w)) (fun j g z=>?_) (fun t xs e=>?_),fun j k g=>?_,fun j c g w=>?_,fun j g=>?_⟩
 ·have e:=(M.b j g).me
  rw [z,i] at e
  cases e
 ·rcases e with (e | ⟨o,e⟩) | e
  ·exact .inl (.inl (r _ _ e (fun z=>by rw [z,i] at e; cases e)))
  ·exact .inl (.inr ⟨o,r _ _ e (fun z=>by rw [z,i] at e; cases e)⟩)
  ·exact .inr e
 ·by_cases z:j=n
  ·rw [z,vw]
  ·rw [vp (by omega)]
   exact y j k (by omega)
 ·by_cases z:j=n
  ·rw [z,vw] at w
   rw [show c=d from w]
   exact S.free hd
  ·rw [vp (by omega)] at w
   exact u j c (by omega) w
 ·by_cases z:j=n
  ·rw [z,vw]
   exact S.free hq
  ·rw [vp (by omega)]
   exact v j (by omega)
theorem ynl.ag {H G:Hp} {n:Nat} {bk dx lk dd:Nat->Addr} {kd:Nat->Fin 3} {ps:Nat->List Int} {f:Nat->List Int->Option Slt} (h:ynl K a H G n bk dx lk dd kd ps f O):ylv n kd f (fun i _=>kd0 (kd i)):=fun i b k=>by
 rw [h.2.1 i k b]
 rfl
def FX0 (n:Nat) (kd:Nat->Fin 3):FX:={ g:=fun i _=>kd0 (kd i),ws:=List.replicate n 1099511627776,sg:=[],nd:=0 }
theorem yg6 {g:Nat->Addr} {n:Nat} {x:V} (h:x∈refs g n):∃ i,i < n/\x=.ref (g i):=by
 unfold refs at h
 obtain ⟨i,a,e⟩:=List.mem_map.mp h
 exact ⟨i,List.mem_range.mp a,e.symm⟩
theorem zg.lks {H:Hp} {n:Nat} {lk:Nat->Addr} {kd:Nat->Fin 3} {ps:Nat->List Int} (h:zg H n lk kd tp ps):Lks H (refs lk n):=fun y a=>by
 obtain ⟨i,b,rfl⟩:=yg6 a
 exact ⟨_,_,_,h i b⟩
theorem u7.frame {H H':Hp} {A:FA} {X:FX} {f:Nat->List Int->Option Slt} {m:Nat} (h:u7 K a H p A X f O m) (B:ylr O2 H H') (hp:¬ O2 p) (hm:¬ O2 A.mp) (hb:∀ i,i < A.n->¬ O2 (A.bk i))
  (dj:∀ i c,i < A.n->O i c->¬ O2 c) (hl:∀ l xs,(l=A.bl\/l=A.el\/l=A.ml\/l=A.pl)->H l=some (.lst xs)->H' l=some (.lst xs)) (ht:∀ t xs,SqT K H t xs->SqT K H' t xs):u7 K a H' p A X f O m :=
 ⟨B _ _ h.me hp,hl _ _ (.inl rfl) h.bl,hl _ _ (.inr (.inl rfl)) h.el,⟨B _ _ h.mx.o hm,hl _ _ (.inr (.inr (.inl rfl))) h.mx.l⟩,h.wok,hl _ _ (.inr (.inr (.inr rfl))) h.pl,h.B.frame B (fun i c q w=>dj i c q w) hb ht,h.ag,fun j d=>⟨(h.at' j d).1,fun r e=>by
  obtain ⟨k,s,g,_⟩:=(h.B.b j d).tb
  rw [B _ _ g (dj j _ d (h.B.b j d).dO)] at e
  cases e
  exact (h.at' j d).2 _ g⟩,h.np,h.nm,h.n1,h.n6⟩
theorem ypt {G:Hp} {t c:Addr} {xs ys zs:List V} (hc:G c=some (.lst ys)) (e:SqT K G t xs):SqT K (upd G c (.lst zs)) t xs:=by
 rcases e with (e | ⟨o,e⟩) | e
 ·exact .inl (.inl (yi (x9 e hc (by intro z; cases z)) e))
 ·exact .inl (.inr ⟨o,yi (x9 e hc (by intro z; cases z)) e⟩)
 ·exact .inr e
theorem u7.app {H:Hp} {R:Addr} {A:FA} {X:FX} {f:Nat->List Int->Option Slt} {m:Nat} {xs ys:List V} (h:u7 K a H p A X f O m) (hR:H R=some (.lst xs)) (hq:∀ q,(q=A.bl\/q=A.el\/q=A.ml\/q=A.pl)->q≠R):u7 K a (upd H R (.lst ys)) p A X f O m:=by
 refine h.frame (O2:=fun c=>c=R) (fun c o e g=>yi g e) (fun z=>?_) (fun z=>?_) (fun i d z=>?_) (fun i c d w z=>h.B.nlst hR i d (z ▸ w)) (fun l xs w e=>yi (hq l w) e) (fun t xs e=>ypt hR e)
 ·have e:=h.me
  rw [z,hR] at e
  cases e
 ·have e:=h.mx.o
  rw [z,hR] at e
  cases e
 ·have e:=(h.B.b i d).me
  rw [z,hR] at e
  cases e
theorem yzh (n:Nat) (n1:1 <= n) (n6:n <= 6):WOk n (List.replicate n 1099511627776):=by
 refine ⟨List.length_replicate,fun w h=>?_,fun w h=>?_⟩ <;> (rw [List.eq_of_mem_replicate h]; decide)
theorem ywh:yo ["self","looks"] ["self","looks"] (yh yr0):=xc (by right)
structure vaa (K:W.Frag) (a:Ads) (H H':Hp) (p:Addr) (n:Nat) (lk:Nat->Addr) (kd:Nat->Fin 3) (ps:Nat->List Int) (A:FA) (f:Nat->List Int->Option Slt) (O:Nat->Addr->Prop):Prop where
 ft:u7 K a H' p A (FX0 n kd) f O 6
 en:A.n=n
 elk:A.lk=lk
 ekd:A.kd=kd
 eps:A.ps=ps
 oO:∀ j c,j < n->O j c->H c=none
 oB:∀ j,j < n->H (A.bk j)=none
 oM:H A.mp=none
 oL:∀ l,(l=A.bl\/l=A.el\/l=A.ml\/l=A.pl)->H l=none
 lo:H' A.ll=some (.lst (refs lk n))/\A.ll≠A.el/\H A.ll=none
inductive ydk (K:W.Frag) (a:Ads) (vs:List V) (H:Hp) (Q:VK) (E:XK):Prop
 | mk (p dp:Addr) (x:V):(vs=[.ref p,x])->(H p=some (.ins a.A0 dp []))->(((ynp K H x/\∀ H',yz H H'->E (.ref a.Ah) none H')\/∃ (l:Addr) (n:Nat) (lk:Nat->Addr) (kd:Nat->Fin 3) (tp:Nat->Addr) (ps:Nat->List Int),x=.ref l/\H l=some (.lst (refs lk n))/\1 <= n/\n <= 6/\zg H n lk kd tp ps /\
  ∀ A f O H',vaa K a H H' p n lk kd ps A f O->But p H H'->Q .non H'))->ydk K a vs H Q E
theorem yhz (T:Txt K mg a):wa P w K mg base (CXe P w) 6 a.El a.I2 ["self","looks"] (ydk K a):=by
 refine T.C7.F.okE ywh (fun vs H Q E h=>?_) (fun b1 A aM s H vs Q E hr h=>?_)
 ·left
 ·obtain ⟨p,f,x,rfl,hp,h⟩:=h
  refine yq (vv (pv 0) (vf (yvd T) (hr.mono (by decide)) rfl T.Do.m T.Do.F.kp T.Do.B .nil wd (ya (pv 1) ye (yb rfl))) rfl) ?_
  refine yq (vv (pv 0) (wu (js:=[]) (ys:=[]) rfl (vz (yy (pv 0) rfl)) (fun C s2 H2 fp=>(ydx T.Ke (yom T) (hr.mono (by decide)) rfl T.Kd T.Cy.B .nil y7 (ya (pv 0) ye (yb rfl)))) rfl rfl (hyc:=yw) (hrel:=yw)) rfl) ?_
  refine yq (vv (pv 0) (ydx T.M6 (yo3 T) (hr.mono (by decide)) rfl T.M5 T.Cz.B .nil y7 (ya (yr y9 rfl T.As (by right) (ya (yy (pv 0) rfl) ye (yb rfl))) ye (yb rfl))) rfl) ?_
  refine yq (vv (pv 0) (vq ye) rfl) ?_
  refine yq (vv (pv 0) yg rfl) ?_
  refine yq (vv (pv 0) (vq ye) rfl) ?_
  refine ⟨_,(yf (ve (vk (pv 0) T.A8 T.Bz.m (yh0 T) (hr.mono (by decide)) T.Bz.B .nil y7))),?_⟩
  exists 2,0
  rfl'
  rcases h with ⟨hb,k⟩ | ⟨l,n,lk,kd,tp,ps,rfl,hl,n1,n6,an,k⟩
  ·rcases hb with ⟨nm,ty,hn⟩ | ⟨l,xs,bs,rfl,hl,hz,aH,no⟩
   ·exact .inl ⟨x,nm,rfl,ty,hn,k _ (yz.refl _)⟩
   ·exact .inr ⟨l,xs,bs,rfl,hl,hz,aH,fun z=>absurd z no,fun _ H' S=>k _ S⟩
  ·refine .inr ⟨l,refs lk n,List.replicate (refs lk n).length true,rfl,hl,by rw [yt]; omega,an.lks.bs,fun _ g H1 ai av S1=>?_,fun no=>absurd ⟨by rw [yt]; exact n1,by rw [yt]; exact n6,yp6 _⟩ no⟩
   have aZ:=S1 _ _ hp
   have aW:=an.same S1
   rfl'
   have W:upd H1 p (HO.ins a.A0 f ([("looks",V.ref g)]:List (Str × V))) p=some (HO.ins a.A0 f ([("looks",V.ref g)]:List (Str × V))):=yd
   have BA:But p H1 (upd H1 p (HO.ins a.A0 f ([("looks",V.ref g)]:List (Str × V)))):=But.upd
   have a3:g≠p:=(yc hp ai).symm
   have I:upd H1 p (HO.ins a.A0 f ([("looks",V.ref g)]:List (Str × V))) g=some (.lst (refs lk n)):=yi a3 av
   generalize upd H1 p (HO.ins a.A0 f ([("looks",V.ref g)]:List (Str × V)))=HA at W BA I ⊢
   have a8:But p H HA:=(But.of S1).trans BA
   have aL:zg HA n lk kd tp ps:=fun i hi=>by
    obtain ⟨q,e,h1,h2,h3⟩:=an i hi
    exact ⟨q,e,a8 _ _ h1 (x9 h1 hp (by intro z; cases z)),a8 _ _ h2 (x9 h2 hp (by intro z; cases z)),h3⟩
   refine ⟨p,_,f,_,_,rfl,W,T.A8,T.Am,rfl,?_⟩
   refine ⟨g,rfl,⟨_,SqL.of I⟩,fun u a1=>?_⟩
   refine x6 (K:=K) (xs:=refs lk n) (fun i G=>∃ (bk dx dd:Nat->Addr) (f2:Nat->List Int->Option Slt) (O2:Nat->Addr->Prop),G u=some (.lst (refs bk i))/\ynl K a HA G i bk dx lk dd kd ps f2 O2/\yz HA G)
    ⟨fun _=>0,fun _=>0,fun _=>0,fun _ _=>none,fun _ _=>False,yd,ynl.zero,vd a1⟩ (fun i G _ z=>?_) (fun i y G hy hi z=>?_) (fun G z=>?_)
   ·obtain ⟨_,_,_,_,_,_,_,SG⟩:=z
    exact SqL.of (SG _ _ I)
   ·obtain ⟨bk,dx,dd,f2,O2,aa,gN,SG⟩:=z
    obtain ⟨rfl,aO⟩:=wt hy
    rfl'
    intro q dq nq aP aX
    have SQ:yz G (upd (upd G dq (.own q)) q (.ins a.A9 dq [])):=fun b o e=>by rw [ym (yc e nq),ym (yc e aP)]; exact e
    refine ⟨q,dq,lk i,kd i,rfl,yd,fun d G2 aR aV B2=>⟨rfl,?_⟩⟩
    have ap:yz G G2:=fun b o e=>B2 b o (SQ b o e) (yc e nq)
    refine wb (n:=(refs lk n).length) (ap _ _ aa) (vj (by rw [yt]; omega)) hi ?_
    refine ⟨_,_,_,_,_,?_,gN.next ((aL i aO).same SG).at' SG nq (SQ.free aR) ap aV aa,fun b o e=>yi (yc e a1) (ap _ _ (SG b o e))⟩
    rw [yd,w9,vw]
    congr 3
    exact wx fun j r=>(vp r).symm
   obtain ⟨bk,dx,dd,f2,O2,aa,gN,SG⟩:=z
   rw [yt] at aa gN
   have az:=SG _ _ W
   rfl'
   have ay:∀ c o,HA c=some o->c≠p->upd G p (HO.ins a.A0 f ([("looks",V.ref g),("books",V.ref u)]:List (Str × V))) c=some o:=fun c o e J=>yi J (SG _ _ e)
   have a5:upd G p (HO.ins a.A0 f ([("looks",V.ref g),("books",V.ref u)]:List (Str × V))) p=some (HO.ins a.A0 f ([("looks",V.ref g),("books",V.ref u)]:List (Str × V))):=yd
   have ae:u≠p:=(yc W a1).symm
   have aj:upd G p (HO.ins a.A0 f ([("looks",V.ref g),("books",V.ref u)]:List (Str × V))) u=some (.lst (refs bk n)):=yi ae aa
   have BP:∀ {fs:List (Str × V)},But p G (upd G p (HO.ins a.A0 f fs)):=But.upd
   have ac:∀ j,j < n->¬ O2 j p:=fun j r w=>by
    have e:=gN.2.2.1 j p r w
    rw [W] at e
    cases e
   have aF:∀ {G':Hp},But p G G'->Bks K a G' n bk dx lk dd kd ps f2 O2 0:=fun {G'} B=>gN.1.frame (O2:=fun c=>c=p) (fun c o e J=>B c o e J) (fun j c r w z=>ac j r (z ▸ w)) (fun j r z=>by
    have e:=gN.2.2.2 j r
    rw [z,W] at e
    cases e) (fun t xs e=>by
    rcases e with (e | ⟨o,e⟩) | e
    ·exact .inl (.inl (B _ _ e (fun z=>by rw [z,az] at e; cases e)))
    ·exact .inl (.inr ⟨o,B _ _ e (fun z=>by rw [z,az] at e; cases e)⟩)
    ·exact .inr e)
   have BB:But p G (upd G p (HO.ins a.A0 f ([("looks",V.ref g),("books",V.ref u)]:List (Str × V)))):=But.upd
   generalize upd G p (HO.ins a.A0 f ([("looks",V.ref g),("books",V.ref u)]:List (Str × V)))=HB at ay a5 aj BB ⊢
   refine ⟨p,_,f,_,_,rfl,a5,T.A8,T.Am,rfl,?_⟩
   refine j9 (SqL.of (ay _ _ I a3)) ?_
   rw [yt]
   rfl'
   intro D mx a9 aS aY
   have SM:yz HB (upd (upd HB mx (.own D)) D (.ins a.B6 mx [])):=fun b o e=>by rw [ym (yc e a9),ym (yc e aS)]; exact e
   refine ⟨D,mx,n,rfl,n1,n6,yd,fun ml HC aD MC BC=>⟨rfl,?_⟩⟩
   have SC:yz HB HC:=fun b o e=>BC b o (SM b o e) (yc e a9)
   have b0:=SC _ _ a5
   have aE:=SC _ _ aj
   have a4:HB ml=none:=SM.free aD
   have N:D≠p:=(yc a5 a9).symm
   have Y:ml≠p:=(yc a5 a4).symm
   rfl'
   refine ⟨by walk_at "len",fun M a0=>?_⟩
   have U:M≠p:=fun z=>by rw [z,yd] at a0; cases a0
   have X:HC M=none:=by rw [ym U] at a0; exact a0
   have aU:upd (upd HC p (HO.ins a.A0 f ([("looks",V.ref g),("books",V.ref u),("mixer",V.ref D)]:List (Str × V)))) M (.lst []) p=some (HO.ins a.A0 f ([("looks",V.ref g),("books",V.ref u),("mixer",V.ref D)]:List (Str × V))):=yi U.symm yd
   have ak:upd (upd HC p (HO.ins a.A0 f ([("looks",V.ref g),("books",V.ref u),("mixer",V.ref D)]:List (Str × V)))) M (.lst []) M=some (.lst []):=yd
   have BD:But p HC (upd (upd HC p (HO.ins a.A0 f ([("looks",V.ref g),("books",V.ref u),("mixer",V.ref D)]:List (Str × V)))) M (.lst [])):=fun b o e J=>yi (yc e X) (yi J e)
   generalize upd (upd HC p (HO.ins a.A0 f ([("looks",V.ref g),("books",V.ref u),("mixer",V.ref D)]:List (Str × V)))) M (.lst [])=HD at aU ak BD ⊢
   rfl'
   refine ⟨by walk_at "len",fun L Z=>?_⟩
   have ao:L≠p:=fun z=>by rw [z,yd] at Z; cases Z
   have ar:HD L=none:=by rw [ym ao,ym ao] at Z; exact Z
   have aN:upd (upd (upd HD p (HO.ins a.A0 f ([("looks",V.ref g),("books",V.ref u),("mixer",V.ref D),("ended",V.ref M)]:List (Str × V)))) p (HO.ins a.A0 f ([("looks",V.ref g),("books",V.ref u),("mixer",V.ref D),("ended",V.ref M),("place",V.int 0)]:List (Str × V)))) L (.lst []) p=some (HO.ins a.A0 f ([("looks",V.ref g),("books",V.ref u),("mixer",V.ref D),("ended",V.ref M),("place",V.int 0)]:List (Str × V))):=yi ao.symm yd
   have BE:But p HD (upd (upd (upd HD p (HO.ins a.A0 f ([("looks",V.ref g),("books",V.ref u),("mixer",V.ref D),("ended",V.ref M)]:List (Str × V)))) p (HO.ins a.A0 f ([("looks",V.ref g),("books",V.ref u),("mixer",V.ref D),("ended",V.ref M),("place",V.int 0)]:List (Str × V)))) L (.lst [])):=fun b o e J=>yi (yc e ar) (yi J (yi J e))
   generalize upd (upd (upd HD p (HO.ins a.A0 f ([("looks",V.ref g),("books",V.ref u),("mixer",V.ref D),("ended",V.ref M)]:List (Str × V)))) p (HO.ins a.A0 f ([("looks",V.ref g),("books",V.ref u),("mixer",V.ref D),("ended",V.ref M),("place",V.int 0)]:List (Str × V)))) L (.lst [])=HE at aN BE ⊢
   rfl'
   have BF:But p HE (upd HE p (.ins a.A0 f (ux (.ref g) (.ref u) (.ref D) (.ref M) (.int 0) (.ref L)))):=But.upd
   have a6:upd HE p (.ins a.A0 f (ux (.ref g) (.ref u) (.ref D) (.ref M) (.int 0) (.ref L))) p=some (.ins a.A0 f (ux (.ref g) (.ref u) (.ref D) (.ref M) (.int 0) (.ref L))):=yd
   generalize upd HE p (.ins a.A0 f (ux (.ref g) (.ref u) (.ref D) (.ref M) (.int 0) (.ref L)))=HF at a6 BF ⊢
   have ad:But p HC HF:=(BD.trans BE).trans BF
   have a2:But p G HF:=fun b o e J=>ad b o (SC _ _ (BB b o e J)) J
   have aG:=ad _ _ MC.o N
   have aB:=ad _ _ MC.l Y
   have aq:=ad _ _ aE ae
   have au:=BF _ _ (BE _ _ ak U) U
   refine ⟨p,f,g,u,D,M,L,0,[],n,0,bk,dx,lk,dd,kd,ps,f2,O2,fun i _=>kd0 (kd i),rfl,a6,aq,au,aF a2,gN.ag,n6,by omega,ac,fun pl sl f' O' H' aI aK al B' aT aQ af F' L'=>?_⟩
   have a7:∀ {c:Addr},c≠p->HF c=none->G c=none:=fun {c} J h=>by
    cases e:G c with
    | none=>rfl
    | some o=>rw [a2 _ _ e J] at h; cases h
   have am:∀ j c,j < n->O2 j c->∃ o,G c=some o:=fun j c r w=>let ⟨o,ho,_⟩:=(gN.1.b j r).own c w; ⟨o,ho⟩
   have nO:∀ {c:Addr} {o:HO},HF c=some o->yno o=false->∀ j,j < n->¬ O2 j c:=fun {c o} e hi j r w=>by
    obtain ⟨o',aC,aw⟩:=((aF a2).b j r).own c w
    rw [e] at aC
    cases aC
    rw [hi] at aw
    cases aw
   have aA:∀ j,j < n->¬ O2 j D:=fun j r w=>by
    obtain ⟨o,ho⟩:=am j D r w
    have e:=BB _ _ ho N
    rw [a9] at e
    cases e
   have O:∀ {c:Addr},c≠p->HA c=none->H c=none:=fun {c} J h=>by
    cases e:H c with
    | none=>rfl
    | some o=>rw [a8 _ _ e J] at h; cases h
   have R:∀ {c:Addr},G c=none->HA c=none:=fun {c} h=>SG.free h
   have ab:∀ {c:Addr},c≠p->HB c=none->G c=none:=fun {c} J h=>by
    cases e:G c with
    | none=>rfl
    | some o=>rw [BB _ _ e J] at h; cases h
   have ax:∀ {c:Addr},HC c=none->HB c=none:=fun {c} h=>SC.free h
   refine k ⟨f,g,u,D,mx,ml,M,pl,n,bk,dx,lk,dd,sl,kd,ps⟩ f' O' H' ⟨⟨aI,F' _ _ aq ae (nO aq rfl),F' _ _ au U (nO au rfl),⟨F' _ _ aG N aA,F' _ _ aB Y (nO aB rfl)⟩,?_,aK,⟨B'.look,fun i hi=>(B'.b i hi).up (by omega),B'.dj,B'.nb⟩,aT,aQ,fun j r w=>?_,fun j r w=>?_,n1,n6⟩,rfl,rfl,rfl,rfl,fun j c r w=>?_,fun j r=>?_,?_,fun c hc=>?_,F' _ _ (a2 _ _ (SG _ _ I) a3) a3 (nO (a2 _ _ (SG _ _ I) a3) rfl),yc (SC _ _ (BB _ _ (SG _ _ I) a3)) X,ai⟩ ?_
   ·exact yzh n n1 n6
   ·rcases af j p r w with v | v
    ·exact ac j r v
    ·rw [a6] at v; cases v
   ·rcases af j D r w with v | v
    ·exact aA j r v
    ·rw [aG] at v; cases v
   ·have as:c≠p:=fun z=>by
     rw [z] at w
     rcases af j p r w with v | v
     ·exact ac j r v
     ·rw [a6] at v; cases v
    rcases af j c r w with v | v
    ·exact O as (gN.2.2.1 j c r v)
    ·exact O as (R (a7 as v))
   ·have aJ:bk j≠p:=fun z=>by
     have e:=gN.2.2.2 j r
     rw [z,W] at e
     cases e
    exact O aJ (gN.2.2.2 j r)
   ·exact O N (R (ab N a9))
   ·rcases hc with z | z | z | z
    ·rw [z]
     exact O ae a1
    ·rw [z]
     exact O U (R (ab U (ax X)))
    ·rw [z]
     exact O Y (R (ab Y a4))
    ·rw [z]
     have ah:pl≠p:=(yc a6 al).symm
     exact O ah (R (a7 ah al))
   ·intro c o e J
    refine F' c o (a2 _ _ (SG _ _ (a8 c o e J)) J) J fun j r w=>?_
    have e2:=gN.2.2.1 j c r w
    rw [a8 c o e J] at e2
    cases e2
theorem ygh:∀ (ts:List Int) (q j:Nat) (s:Int),ts[q]?=some s->j <= 8->(dec ts)[9 * q+j]?=(1 :: b8 s)[j]?
 | [],_,_,_,h,_=>by simp at h
 | t :: r,0,j,s,h,hj=>by
  have e:t=s:=by simpa using h
  subst e
  show ((1 :: b8 t)++dec r)[9 * 0+j]?=_
  rw [Nat.mul_zero,Nat.zero_add,List.getElem?_append_left (by rw [List.length_cons,yn9]; omega)]
 | t :: r,q+1,j,s,h,hj=>by
  have b:r[q]?=some s:=by simpa using h
  show ((1 :: b8 t)++dec r)[9 * (q+1)+j]?=_
  have a:(1 :: b8 t).length=9:=rfl
  rw [List.getElem?_append_right (by rw [a]; omega),a,show 9 * (q+1)+j - 9=9 * q+j by omega]
  exact ygh r q j s b hj
theorem yru (ts:List Int):(dec ts)[9 * ts.length]?=some 0:=by
 rw [ym6,List.getElem?_append_right (by rw [jb]; exact Nat.le_refl _),jb,Nat.sub_self]
 rfl
def yfk (ts:List Int) (k:Nat) (sg:List Int) (nd:Int):Prop:=∃ q j:Nat,k=9 * q+j/\j <= 8/\sg=ts.take q/\((j=0/\nd=0/\q <= ts.length)\/(1 <= j/\∃ s,ts[q]?=some s/\nd=(256+s) / 2 ^ (9 - j)))
theorem yzz {s P c:Int} (h:0 <= s/\s <= 255) (hP:2 <= P) (hc:P * (2 * c)=256) (c1:1 <= c/\c <= 64):0 < (256+s) / (2 * P)/\2 * ((256+s) / (2 * P))+s / P % 2 < 256/\2 * ((256+s) / (2 * P))+s / P % 2=(256+s) / P:=by
 have a:(256+s) / P=s / P+2 * c:=by rw [<- hc,Int.add_comm,Int.add_mul_ediv_left _ _ (by omega)]
 have b:(256+s) / (2 * P)=(s / P+2 * c) / 2:=by rw [<- a,Int.ediv_ediv_of_nonneg (show 0 <= P by omega),Int.mul_comm]
 have d:=Int.ediv_nonneg h.1 (show 0 <= P by omega)
 have e:=Int.ediv_lt_of_lt_mul (show 0 < P by omega) (show s < 128 * P by omega)
 rw [a,b]
 generalize s / P=y at d e
 clear hc a b hP h
 omega
theorem nd9 {s:Int} (h:0 <= s/\s <= 255) (h1:1 <= j) (hj:j <= 8):0 < (256+s) / 2 ^ (9 - j)/\(256+s) / 2 ^ (9 - j) < 256:=by
 have a:∀ j,j < 9->1 <= j->(2:Int) <= 2 ^ (9 - j)/\(2:Int) ^ (9 - j) <= 256:=by decide
 obtain ⟨b,c⟩:=a j (Nat.lt_succ_of_le hj) h1
 generalize (2:Int) ^ (9 - j)=K at b c
 exact ⟨Int.le_ediv_of_mul_le (by omega) (by omega),Int.ediv_lt_of_lt_mul (by omega) (by omega)⟩
theorem yfk.zero (ts:List Int):yfk ts 0 [] 0:=⟨0,0,rfl,by omega,by simp,.inl ⟨rfl,rfl,Nat.zero_le _⟩⟩
theorem yfk.nd {k:Nat} {sg:List Int} {nd:Int} (h:yfk ts k sg nd) (hs:Sgs ts):0 <= nd/\nd < 256:=by
 obtain ⟨q,j,_,d,_,h⟩:=h
 rcases h with ⟨_,h,_⟩ | ⟨e,s,c,h⟩
 ·omega
 ·obtain ⟨a,b⟩:=nd9 (hs s (List.mem_of_getElem? c)) e d
  rw [h]
  exact ⟨Int.le_of_lt a,b⟩
theorem yfk.sg {k:Nat} {sg:List Int} {nd:Int} (h:yfk ts k sg nd) (hs:Sgs ts):sg=ts.take ((((k:Int)+8) / 9 - (if 0 < nd then 1 else 0)).toNat):=by
 obtain ⟨q,j,i,f,b,h⟩:=h
 rw [b]
 congr 1
 rcases h with ⟨g,d,_⟩ | ⟨e,s,c,d⟩
 ·rw [if_neg (by omega)]
  omega
 ·have a:0 < nd:=by rw [d]; exact (nd9 (hs s (List.mem_of_getElem? c)) e f).1
  rw [if_pos a]
  omega
theorem yfk.len {k:Nat} {sg:List Int} {nd:Int} (h:yfk ts k sg nd):sg.length <= ts.length:=by
 obtain ⟨q,j,_,_,a,_⟩:=h
 rw [a,List.length_take]
 omega
theorem yfk.next {k:Nat} {sg:List Int} {nd b:Int} (h:yfk ts k sg nd) (hs:Sgs ts) (hb:(dec ts)[k]?=some b) :
  (k < 9 * ts.length/\yfk ts (k+1) (sgN sg nd b) (ndN nd b))\/(k=9 * ts.length/\sgN sg nd b=[]/\ndN nd b=0):=by
 obtain ⟨q,j,r,v,g,h⟩:=h
 rcases h with ⟨u,d,C⟩ | ⟨B,s,a,d⟩
 ·subst u
  rcases Nat.lt_or_ge q ts.length with m | m
  ·refine .inl ⟨by omega,?_⟩
   have e:=ygh ts q 0 ts[q] (List.getElem?_eq_getElem m) (by omega)
   rw [<- r,hb] at e
   have e:b=1:=by simpa using e
   have:=hs ts[q] (List.getElem_mem m)
   unfold sgN ndN
   rw [if_neg (by omega),if_pos e,if_neg (by omega),if_pos e]
   refine ⟨q,1,by omega,by omega,g,.inr ⟨by omega,ts[q],List.getElem?_eq_getElem m,?_⟩⟩
   simp only [Nat.reduceSub,Int.reducePow]
   omega
  ·have p:q=ts.length:=by omega
   have e:=yru ts
   rw [<- p,show 9 * q=k by omega,hb] at e
   have e:b=0:=by simpa using e
   refine .inr ⟨by omega,?_,?_⟩
   ·unfold sgN
    rw [if_neg (by omega),if_neg (by omega)]
   ·unfold ndN
    rw [if_neg (by omega),if_neg (by omega)]
    exact d
 ·have n:=hs s (List.mem_of_getElem? a)
  have m:q < ts.length:=(List.getElem?_eq_some_iff.mp a).1
  have e:=ygh ts q j s a v
  rw [<- r,hb] at e
  have l:some b=(b8 s)[j - 1]?:=by
   obtain ⟨i,rfl⟩:∃ i,j=i+1:=⟨j - 1,by omega⟩
   simpa using e
  refine .inl ⟨by omega,?_⟩
  by_cases h8:j=8
  ·subst h8
   have l:b=s / 1 % 2:=Option.some.inj l
   simp only [Nat.reduceSub,Int.reducePow] at d
   have D:2 * nd+b=256+s:=by omega
   unfold sgN ndN
   rw [if_pos (by omega),if_pos (by omega),if_pos (by omega),if_pos (by omega)]
   refine ⟨q+1,0,by omega,by omega,?_,.inl ⟨rfl,rfl,by omega⟩⟩
   rw [g,show 2 * nd+b - 256=s by omega,yae a]
  ·have o:0 < nd/\2 * nd+b < 256/\2 * nd+b=(256+s) / 2 ^ (9 - (j+1)):=by
    have k:∀ P c:Int,2 <= P->P * (2 * c)=256->1 <= c/\c <= 64->nd=(256+s) / (2 * P)->b=s / P % 2->0 < nd/\2 * nd+b < 256/\2 * nd+b=(256+s) / P:=fun P c x y z e f=>by
     rw [e,f]
     exact yzz n x y z
    clear r hb e g m hs
    obtain rfl | rfl | rfl | rfl | rfl | rfl | rfl:j=1\/j=2\/j=3\/j=4\/j=5\/j=6\/j=7:=by omega
    ·exact k 128 1 (by decide) rfl (by decide) d (Option.some.inj l)
    ·exact k 64 2 (by decide) rfl (by decide) d (Option.some.inj l)
    ·exact k 32 4 (by decide) rfl (by decide) d (Option.some.inj l)
    ·exact k 16 8 (by decide) rfl (by decide) d (Option.some.inj l)
    ·exact k 8 16 (by decide) rfl (by decide) d (Option.some.inj l)
    ·exact k 4 32 (by decide) rfl (by decide) d (Option.some.inj l)
    ·exact k 2 64 (by decide) rfl (by decide) d (Option.some.inj l)
   obtain ⟨t,A,w⟩:=o
   unfold sgN ndN
   rw [if_pos t,if_neg (by omega),if_pos t,if_neg (by omega)]
   exact ⟨q,j+1,by omega,by omega,g,.inr ⟨by omega,s,a,w⟩⟩
theorem u7.up {H:Hp} {A:FA} {X:FX} {f:Nat->List Int->Option Slt} {m:Nat} (h:u7 K a H p A X f O m) (hm:m <= m'):u7 K a H p A X f O m' :=
 ⟨h.me,h.bl,h.el,h.mx,h.wok,h.pl,⟨h.B.look,fun i c=>(h.B.b i c).up hm,h.B.dj,h.B.nb⟩,h.ag,h.at',h.np,h.nm,h.n1,h.n6⟩
theorem Bks.up {H:Hp} {n m:Nat} {bk dx lk dd:Nat->Addr} {kd:Nat->Fin 3} {ps:Nat->List Int} {f:Nat->List Int->Option Slt} (h:Bks K a H n bk dx lk dd kd ps f O m) (hm:m <= m'):Bks K a H n bk dx lk dd kd ps f O m' :=
 ⟨h.look,fun i c=>(h.b i c).up hm,h.dj,h.nb⟩
def Kpt (e:Addr) (H H':Hp):Prop:=∀ c o,H c=some o->yno o=false->c≠e->H' c=some o
theorem Kpt.sqt {H H':Hp} (h:Kpt e H H') {xs:List V} (he:H e=some (.lst xs)) {t:Addr} {ys:List V} (ht:SqT K H t ys):SqT K H' t ys:=by
 rcases ht with (q | ⟨o,q⟩) | q
 ·exact .inl (.inl (h _ _ q rfl (fun z=>by rw [z,he] at q; cases q)))
 ·exact .inl (.inr ⟨o,h _ _ q rfl (fun z=>by rw [z,he] at q; cases q)⟩)
 ·exact .inr q
structure Lw (K:W.Frag) (a:Ads) (H:Hp) (p:Addr) (A:FA) (X:FX) (f:Nat->List Int->Option Slt) (O:Nat->Addr->Prop) (m:Nat) (bk dx dd:Nat->Addr) (f2:Nat->List Int->Option Slt) (O2:Nat->Addr->Prop) (mp mx ml:Addr) (ws:List Int):Prop where
 ft:u7 K a H p A X f O m
 bs:Bks K a H A.n bk dx A.lk dd A.kd A.ps f2 O2 m
 mx:ygq a mp mx ml ws H
 dj:∀ i j c,i < A.n->j < A.n->O i c->¬ O2 j c
 n1:∀ i j,i < A.n->j < A.n->¬ O i (bk j)
 n2:∀ i j,i < A.n->j < A.n->¬ O2 i (A.bk j)
 n3:∀ i,i < A.n->¬ O2 i p/\¬ O2 i A.mp/\¬ O2 i mp/\¬ O i mp
 n4:mp≠A.mp
 n5:ml≠A.el
section
variable {H H':Hp} {A:FA} {X:FX} {f:Nat->List Int->Option Slt} {m:Nat} {bk dx dd:Nat->Addr} {f2:Nat->List Int->Option Slt} {O2:Nat->Addr->Prop} {mp mx ml:Addr} {ws:List Int}
theorem Lw.same (h:Lw K a H p A X f O m bk dx dd f2 O2 mp mx ml ws) (S:yz H H'):Lw K a H' p A X f O m bk dx dd f2 O2 mp mx ml ws :=
 ⟨h.ft.same S,h.bs.same S,h.mx.same S,h.dj,h.n1,h.n2,h.n3,h.n4,h.n5⟩
theorem Lw.up (h:Lw K a H p A X f O m bk dx dd f2 O2 mp mx ml ws) (hm:m <= m'):Lw K a H p A X f O m' bk dx dd f2 O2 mp mx ml ws :=
 ⟨h.ft.up hm,h.bs.up hm,h.mx,h.dj,h.n1,h.n2,h.n3,h.n4,h.n5⟩
end
def Due (H:Hp) (A:FA) (X:FX) (q:Int) (v:V):Prop:=(q=0/\∃ d,v=.ref d/\H d=some (.lst ((X.cs A).map V.int)))\/(q=1/\∃ d,v=.ref d/\H d=some (.lst (X.ws.map V.int)))\/(q=2/\∃ d,v=.ref d/\H d=some (.lst (X.sg.map V.int)))\/(q=3/\v=.int (ylw X.ws (X.cs A)))\/(q=4/\v=.int X.nd)
theorem Due.same {H H':Hp} {A:FA} {X:FX} {q:Int} {v:V} (h:Due H A X q v) (S:yz H H'):Due H' A X q v:=by
 rcases h with ⟨e,d,a,h⟩ | ⟨e,d,a,h⟩ | ⟨e,d,a,h⟩ | h | h
 ·exact .inl ⟨e,d,a,S _ _ h⟩
 ·exact .inr (.inl ⟨e,d,a,S _ _ h⟩)
 ·exact .inr (.inr (.inl ⟨e,d,a,S _ _ h⟩))
 ·exact .inr (.inr (.inr (.inl h)))
 ·exact .inr (.inr (.inr (.inr h)))
def KpA (B G:Hp) (e0 e:Addr):Prop:=∀ c o,B c=some o->yno o=false->c≠e0->c≠e/\G c=some o
theorem KpA.refl {B:Hp} :KpA B B e e:=fun _ _ h _ a=>⟨a,h⟩
theorem KpA.same {B G G':Hp} (h:KpA B G e0 e) (S:yz G G'):KpA B G' e0 e:=fun c o a b d=>⟨(h c o a b d).1,S _ _ (h c o a b d).2⟩
theorem KpA.step {B G G':Hp} {e':Addr} (h:KpA B G e0 e) (k:Kpt e G G') (he:e'=e\/G e'=none):KpA B G' e0 e':=fun c o f b g=>by
 obtain ⟨d,a⟩:=h c o f b g
 refine ⟨?_,k c o a b d⟩
 rcases he with z | z
 ·rw [z]
  exact d
 ·exact yc a z
theorem KpA.trans {B G G':Hp} {e':Addr} (h:KpA B G e0 e) (k:KpA G G' e e'):KpA B G' e0 e':=fun c o b a d=>k c o (h c o b a d).2 a (h c o b a d).1
theorem KpA.lst {B G:Hp} {c:Addr} {xs:List V} (h:KpA B G e0 e) (hc:B c=some (.lst xs)) (ne:c≠e0):G c=some (.lst xs):=(h c _ hc rfl ne).2
def TxE (ts:List Int) (k:Nat) (sg:List Int) (nd:Int):Prop:=(k <= 9 * ts.length/\yfk ts k sg nd)\/(k=9 * ts.length+1/\sg=[]/\nd=0)
theorem TxE.next {k:Nat} {sg:List Int} {nd b:Int} (h:TxE ts k sg nd) (hs:Sgs ts) (hb:(dec ts)[k]?=some b):yfk ts k sg nd/\TxE ts (k+1) (sgN sg nd b) (ndN nd b):=by
 rcases h with ⟨c,h⟩ | ⟨c,_⟩
 ·refine ⟨h,?_⟩
  rcases h.next hs hb with ⟨e,a⟩ | ⟨e,a,d⟩
  ·exact .inl ⟨by omega,a⟩
  ·exact .inr ⟨by omega,a,d⟩
 ·rw [c,List.getElem?_eq_none (by rw [jn]; exact Nat.le_refl _)] at hb
  cases hb
theorem ywe:yo ["self"] ["self"] (yh ytb):=xc (by right)
inductive ybf (K:W.Frag) (a:Ads) (vs:List V) (H:Hp) (Q:VK) (E':XK):Prop
 | mk (p:Addr) (A:FA) (X:FX) (f:Nat->List Int->Option Slt) (O:Nat->Addr->Prop) (m:Nat):(vs=[.ref p])->(u7 K a H p A X f O m)->(∀ r H',H r=none->H' r=some (.lst ((X.cs A).map V.int))->yz H H'->Q (.ref r) H')->ybf K a vs H Q E'
theorem ycz (T:Txt K mg a):wa P w K mg base CX0 2 a.I5 a.I6 ["self"] (ybf K a):=by
 refine T.Be.F.ok ywe (fun z H Q E h=>?_) (fun x A e s H z Q E o h=>?_)
 ·left
 ·obtain ⟨p,d,X,f,O,m,rfl,h,k⟩:=h
  have R:=h.me
  have N:=h.n6
  refine ⟨_,(yf (yv (wu (js:=[]) (ys:=[]) rfl (vz (yy (pv 0) rfl)) (fun C M r J=>(yam (vk (pv 0) T.Az T.En.m (yvt T) (o.mono (by decide)) T.En.B .nil y7) (yam (vk (pv 0) T.Bf T.Ep.m (yuu T) (o.mono (by decide)) T.Ep.B .nil y7) (vk (pv 0) T.Bn T.Es.m (yvf T) (o.mono (by decide)) T.Es.B .nil y7)))) rfl rfl (hyc:=yw) (hrel:=yw)))),?_⟩
  exists 1,0
  rfl'
  refine ⟨d.pl,rfl,⟨_,SqL.of h.pl⟩,fun D j=>?_⟩
  refine x6 (K:=K) (xs:=refs d.sl d.n) (Mp H D (fun i=>V.int (X.g i (X.key d i)).due)) (Mp.zero j) (fun _ _ _ q=>q.1.seq (SqL.of h.pl)) (fun i y r u v q=>?_) (fun r q=>?_)
  ·obtain ⟨c,b⟩:=q
   obtain ⟨rfl,l⟩:=wt u
   obtain ⟨_,⟨I,G⟩,t,_⟩:=h.slot l
   refine yi5 (fun L h=>yth rfl h) (c _ _ G) t ?_
   exact Mp.doneR j (vj (by rw [yt]; omega)) v c b rfl
  ·obtain ⟨c,b⟩:=q
   rw [yt] at b
   refine k D _ j ?_ c
   rw [b]
   unfold FX.cs
   rw [List.map_map]
   rfl
theorem yuq:yo ["self"] ["self"] (yh ys8):=xc (by right)
inductive yb7 (K:W.Frag) (a:Ads) (vs:List V) (H:Hp) (Q:VK) (E':XK):Prop
 | mk (p:Addr) (A:FA) (X:FX) (f:Nat->List Int->Option Slt) (O:Nat->Addr->Prop) (m:Nat):(vs=[.ref p])->(u7 K a H p A X f O m)->(∀ H',yz H H'->Q (.int (ylw X.ws (X.cs A))) H')->yb7 K a vs H Q E'
theorem yt9 (T:Txt K mg a):wa P w K mg base CX0 3 a.I7 a.I8 ["self"] (yb7 K a):=by
 refine T.F0.F.ok yuq (fun i H Q E h=>?_) (fun j A c s H i Q E e h=>?_)
 ·left
 ·obtain ⟨p,b,X,f,O,m,rfl,h,k⟩:=h
  have x:=h.me
  have l:=h.mx.o
  refine ⟨_,(yf (yv (ybv (yy (pv 0) rfl) T.Cg T.Ey.m (yuc T) (e.mono (by decide)) T.Ey.B .nil y7 (ya (vk (pv 0) T.A8 T.Be.m (ycz T) (e.mono (by decide)) T.Be.B .nil y7) ye (yb rfl))))),?_⟩
  exists 1,0
  rfl'
  refine ⟨p,b,X,f,O,m,rfl,h,fun r u q d g=>?_⟩
  rfl'
  exact ⟨b.mp,b.mx,b.ml,r,X.ws,X.cs b,b.n,rfl,h.n1,h.n6,h.wok,h.cok,h.mx.same g,SqL.of d,fun v t=>k _ (g.trans t)⟩
theorem ywk:yo ["self"] ["self"] (yh ysi):=xc (by right)
inductive ybm (K:W.Frag) (a:Ads) (vs:List V) (H:Hp) (Q:VK) (E':XK):Prop
 | mk (p:Addr) (A:FA) (X:FX) (f:Nat->List Int->Option Slt) (O:Nat->Addr->Prop) (m:Nat):(vs=[.ref p])->(u7 K a H p A X f O m)->(∀ r H',H r=none->H' r=some (.lst (X.ws.map V.int))->yz H H'->Q (.ref r) H')->ybm K a vs H Q E'
theorem yov (T:Txt K mg a):wa P w K mg base CX0 2 a.I9 a.Ia ["self"] (ybm K a):=by
 refine T.D1.F.ok ywk (fun d H Q E h=>?_) (fun i A b s H d Q E g h=>?_)
 ·left
 ·obtain ⟨p,c,X,f,O,m,rfl,h,k⟩:=h
  have j:=h.me
  have e:=h.mx.o
  refine ⟨_,(yf (yv (vk (yy (pv 0) rfl) T.Cg T.Ew.m (ywu T) (g.mono (by decide)) T.Ew.B .nil y7))),?_⟩
  exists 1,0
  rfl'
  exact ⟨c.mp,c.mx,c.ml,X.ws,rfl,h.mx,k⟩
theorem yw5:yo ["self"] ["self"] (yh ytl):=xc (by right)
inductive ygx (K:W.Frag) (a:Ads) (vs:List V) (H:Hp) (Q:VK) (E':XK):Prop
 | mk (p:Addr) (A:FA) (X:FX) (f:Nat->List Int->Option Slt) (O:Nat->Addr->Prop) (m:Nat):(vs=[.ref p])->(u7 K a H p A X f O m)->(Q (.int X.nd) H)->ygx K a vs H Q E'
theorem yn3 (T:Txt K mg a):wa P w K mg base CX0 1 a.Ib a.Ic ["self"] (ygx K a):=by
 refine T.D2.F.ok yw5 (fun c H Q E h=>?_) (fun d A b s H c Q E e h=>?_)
 ·left
 ·obtain ⟨p,g,X,f,O,m,rfl,h,k⟩:=h
  have i:=h.me
  refine ⟨_,(yf (yv (yy (pv 0) rfl))),?_⟩
  exists 1,0
  rfl'
  exact k
theorem yur:yo ["self","bit"] ["self","bit"] (yh ysa):=xc (by right)
inductive ykc (a:Ads) (vs:List V) (H:Hp) (Q:VK) (E':XK):Prop
 | mk (p dp ll bl mp el pl:Addr) (nd b:Int) (sg:List Int):(vs=[.ref p,.int b])->(H p=some (.ins a.A0 dp (ux (.ref ll) (.ref bl) (.ref mp) (.ref el) (.int nd) (.ref pl))))->(H el=some (.lst (sg.map V.int)))->(sg.length <= 100000)->(0 < nd)->(∀ H',H' p=some (.ins a.A0 dp (ux (.ref ll) (.ref bl) (.ref mp) (.ref el) (.int (ndN nd b)) (.ref pl)))->H' el=some (.lst ((sgN sg nd b).map V.int))->(∀ c o,H c=some o->c≠p->c≠el->H' c=some o)->Q .non H')->ykc a vs H Q E'
theorem yut (T:Txt K mg a):wa P w K mg base CX0 1 a.Ii a.Ij ["self","bit"] (ykc a):=by
 refine T.F1.F.ok yur (fun J H Q E h=>?_) (fun I A v s H J Q E O h=>?_)
 ·left
 ·obtain ⟨p,m,r,q,n,i,l,g,b,D,rfl,L,y,N,C,k⟩:=h
  refine ⟨_,(yj (vv (pv 0) (yu w6 (yu u4 yg (yy (pv 0) rfl)) (pv 1)) rfl) (yf (v9 (yx yyw (yy (pv 0) rfl) (v7 rfl T.Cj) (vg _)) (yj (ve (yb4 PySem.F.plainAttrs_list PySem.F.slot_list_append PySem.F.type_list_append xg (yy (pv 0) rfl) (ya (yu zv (yy (pv 0) rfl) (v7 rfl T.Cj)) ye (yb rfl)))) (yf (vv (pv 0) yg rfl))) y8))),?_⟩
  exists 2,0
  unfold ndN sgN at k
  rw [if_pos C,if_pos C] at k
  have j:i≠p:=x9 y L (by intro z; cases z)
  rfl'
  have f:upd H p (.ins a.A0 m (ux (.ref r) (.ref q) (.ref n) (.ref i) (.int (2 * g+b)) (.ref l))) p=some (.ins a.A0 m (ux (.ref r) (.ref q) (.ref n) (.ref i) (.int (2 * g+b)) (.ref l))):=yd
  have d:=yi (o':=HO.ins a.A0 m (ux (.ref r) (.ref q) (.ref n) (.ref i) (.int (2 * g+b)) (.ref l))) j y
  have x:But p H (upd H p (.ins a.A0 m (ux (.ref r) (.ref q) (.ref n) (.ref i) (.int (2 * g+b)) (.ref l)))):=But.upd
  generalize upd H p (.ins a.A0 m (ux (.ref r) (.ref q) (.ref n) (.ref i) (.int (2 * g+b)) (.ref l)))=M at f d x ⊢
  rfl'
  refine zx (fun t=>?_) (fun t=>?_)
  ·rw [if_pos t,if_pos t] at k
   rfl'
   refine yb2 d ?_
   rfl'
   refine ul d (vj (by rw [List.length_map]; omega)) ?_
   have G:=yi (o':=HO.lst (List.map V.int D++[V.int (2 * g+b - 256)])) (Ne.symm j) f
   rfl'
   refine k _ yd ?_ fun c o e u B=>yi u (yi B (x _ _ e u))
   rw [ym j,yd,List.map_append]
   rfl
  ·rw [if_neg t,if_neg t] at k
   rfl'
   exact k _ f d fun c o e u B=>x _ _ e u
theorem yub:yo ["self","bit"] ["self","bit"] (yh ytk):=xc (by right)
inductive yhb (a:Ads) (vs:List V) (H:Hp) (Q:VK) (E':XK):Prop
 | mk (p dp ll bl mp el pl:Addr) (nd b:Int) (sg:List Int):(vs=[.ref p,.int b])->(H p=some (.ins a.A0 dp (ux (.ref ll) (.ref bl) (.ref mp) (.ref el) (.int nd) (.ref pl))))->(H el=some (.lst (sg.map V.int)))->(sg.length <= 100000)->(0 <= nd)->(∀ (el':Addr) H',(el'=el\/H el'=none)->H' p=some (.ins a.A0 dp (ux (.ref ll) (.ref bl) (.ref mp) (.ref el') (.int (ndN nd b)) (.ref pl)))->H' el'=some (.lst ((sgN sg nd b).map V.int))->(∀ c o,H c=some o->c≠p->c≠el->H' c=some o)->(∃ o,H' el=some o)->Q .non H')->yhb a vs H Q E'
theorem yoo (T:Txt K mg a):wa P w K mg base CX0 2 a.Ig a.Ih ["self","bit"] (yhb a):=by
 refine T.D3.F.ok yub (fun R H Q E h=>?_) (fun N A n s H R Q E S h=>?_)
 ·left
 ·obtain ⟨p,x,I,G,D,g,u,y,b,C,rfl,l,f,L,W,k⟩:=h
  refine ⟨_,(yf (v9 (yx ynf (yy (pv 0) rfl) yg (vg _)) (yf (ve (ybv (pv 0) T.A8 T.F1.m (yut T) (S.mono (by decide)) T.F1.B .nil y7 (ya (pv 1) ye (yb rfl))))) (yf (v9 (yx ub (pv 1) yg (vg _)) (yf (vv (pv 0) yg rfl)) (yf (vv (pv 0) (vq ye) rfl)))))),?_⟩
  exists 2,0
  have d:g≠p:=x9 f l (by intro z; cases z)
  rfl'
  refine zx (fun j=>?_) (fun j=>?_)
  ·rfl'
   exact ⟨p,x,I,G,D,g,u,y,b,C,rfl,l,f,L,j,fun M O v U=>k g M (.inl rfl) O v U ⟨_,v⟩⟩
  ·unfold ndN sgN at k
   rw [if_neg j,if_neg j] at k
   rfl'
   refine zx (fun i=>?_) (fun i=>?_)
   ·rw [if_pos i,if_pos i] at k
    rfl'
    exact k g _ (.inl rfl) yd (yi d f) (fun c o e q _=>yi q e) ⟨_,yi d f⟩
   ·rw [if_neg i,if_neg i] at k
    rfl'
    refine ⟨by walk_at "len",fun r hr0=>?_⟩
    with_reducible first | refine yk hr0 fun H1 S1 e1=>?_ | refine yn hr0 fun H1 S1 e1=>?_
    have J:=S1 _ _ l
    rfl'
    have t:r≠p:=fun z=>by rw [z,l] at hr0; cases hr0
    exact k r _ (.inr hr0) yd (yi t e1) (fun c o e q _=>yi q (S1 _ _ e)) ⟨_,yi d (S1 _ _ f)⟩
abbrev FA.re (A:FA) (ml el pl:Addr) (sl:Nat->Addr):FA:={ A with ml:=ml,el:=el,pl:=pl,sl:=sl }
def FX.run (A:FA) (X:FX):List Int->FX
 | []=>X
 | b :: r=>FX.run A (X.see A b) r
theorem ygi (A:FA):∀ (bs cs:List Int) (X:FX),X.run A (bs++cs)=(X.run A bs).run A cs
 | [],_,_=>rfl
 | b :: r,cs,X=>ygi A r cs (X.see A b)
theorem ymd (A:FA) (bs:List Int) (b:Int) (X:FX):X.run A (bs++[b])=(X.run A bs).see A b:=ygi A bs [b] X
def fa0 (n:Nat) (ps:Nat->List Int):FA:={ dp:=0,ll:=0,bl:=0,mp:=0,mx:=0,ml:=0,el:=0,pl:=0,n:=n,bk:=fun _=>0,dx:=fun _=>0,lk:=fun _=>0,dd:=fun _=>0,sl:=fun _=>0,kd:=fun _=>0,ps:=ps }
theorem yge (A:FA):∀ (bs:List Int) (X:FX),X.run A bs=X.run (fa0 A.n A.ps) bs
 | [],_=>rfl
 | b :: r,X=>yge A r (X.see A b)
def ytp (H:Hp) (A:FA):Prop:=H A.ll=some (.lst (refs A.lk A.n))/\A.ll≠A.el/\∃ tp,zg H A.n A.lk A.kd tp A.ps
theorem ytp.same {H H':Hp} {A:FA} (h:ytp H A) (S:yz H H'):ytp H' A:=⟨S _ _ h.1,h.2.1,let ⟨tp,r⟩:=h.2.2; ⟨tp,r.same S⟩⟩
def Own (p:Addr) (A:FA) (O:Nat->Addr->Prop):Addr->Prop:=fun c=>c=p\/c=A.mp\/(∃ j,j < A.n/\c=A.bk j)\/(∃ j,j < A.n/\O j c)\/c=A.el\/c=A.ml
def FW (K:W.Frag) (a:Ads) (H:Hp) (p:Addr) (n:Nat) (kd:Nat->Fin 3) (ps:Nat->List Int) (X:FX) (M:Nat) (W:Addr->Prop):Prop :=
 ∃ A f O m,u7 K a H p A X f O m/\m <= M/\ytp H A/\A.n=n/\A.kd=kd/\A.ps=ps/\0 <= X.nd/\X.sg.length <= M/\∀ c,W c ↔ Own p A O c
structure Go (W:Addr->Prop) (H H':Hp) (W':Addr->Prop):Prop where
 fr:∀ c o,H c=some o->¬ W c->H' c=some o
 nw:∀ c,W' c->W c\/H c=none
 lv:∀ c o,H c=some o->∃ o',H' c=some o'
theorem Go.free {W:Addr->Prop} {H H':Hp} (h:Go W H H' W') {c:Addr} (e:H' c=none):H c=none:=by
 cases z:H c with
 | none=>rfl
 | some o =>
  obtain ⟨a,w⟩:=h.lv c o z
  rw [e] at w
  cases w
theorem Go.refl {W:Addr->Prop} {H:Hp}:Go W H H W:=⟨fun _ _ e _=>e,fun _ w=>.inl w,fun _ o e=>⟨o,e⟩⟩
theorem Go.trans {W W1 W2:Addr->Prop} {H H1 H2:Hp} (h:Go W H H1 W1) (k:Go W1 H1 H2 W2):Go W H H2 W2:=by
 refine ⟨fun c o e a=>k.fr c o (h.fr c o e a) fun w=>?_,fun c w=>?_,fun c o e=>?_⟩
 ·rcases h.nw c w with v | v
  ·exact a v
  ·rw [e] at v
   cases v
 ·rcases k.nw c w with v | v
  ·exact h.nw c v
  ·exact .inr (h.free v)
 ·obtain ⟨b,d⟩:=h.lv c o e
  exact k.lv c b d
theorem Go.same {W:Addr->Prop} {H H1 H2:Hp} (h:Go W H H1 W') (S:yz H1 H2):Go W H H2 W':=⟨fun c o e a=>S _ _ (h.fr c o e a),h.nw,fun c o e=>let ⟨o',w⟩:=h.lv c o e; ⟨o',S _ _ w⟩⟩
theorem Go.ahead {W:Addr->Prop} {H H1 H2:Hp} (S:yz H H1) (h:Go W H1 H2 W'):Go W H H2 W':=⟨fun c o e=>h.fr c o (S _ _ e),fun c w=>(h.nw c w).imp id S.free,fun c o e=>h.lv c o (S _ _ e)⟩
theorem Go.apart {W U:Addr->Prop} {H H':Hp} (h:Go W H H' W') (hU:∀ c,U c->∃ o,H c=some o) (dj:∀ c,U c->¬ W c):∀ c,U c->¬ W' c:=fun c u w=>by
 rcases h.nw c w with v | v
 ·exact dj c u v
 ·obtain ⟨o,e⟩:=hU c u
  rw [v] at e
  cases e
section
variable {H H':Hp} {n:Nat} {kd:Nat->Fin 3} {ps:Nat->List Int} {X:FX} {W:Addr->Prop}
theorem u7.live {A:FA} {f:Nat->List Int->Option Slt} {m:Nat} (h:u7 K a H p A X f O m):∀ c,Own p A O c->∃ o,H c=some o/\((yno o=true)\/∃ ns:List Int,o=.lst (ns.map V.int)):=fun c w=>by
 rcases w with z | z | ⟨j,d,z⟩ | ⟨j,d,z⟩ | z | z
 ·exact ⟨_,by rw [z]; exact h.me,.inl rfl⟩
 ·exact ⟨_,by rw [z]; exact h.mx.o,.inl rfl⟩
 ·exact ⟨_,by rw [z]; exact (h.B.b j d).me,.inl rfl⟩
 ·obtain ⟨o,e,g⟩:=(h.B.b j d).own c z
  exact ⟨o,e,.inl g⟩
 ·exact ⟨_,by rw [z]; exact h.el,.inr ⟨_,rfl⟩⟩
 ·exact ⟨_,by rw [z]; exact h.mx.l,.inr ⟨_,rfl⟩⟩
theorem FW.live (h:FW K a H p n kd ps X M W):∀ c,W c->∃ o,H c=some o:=fun c w=>by
 obtain ⟨A,f,O,m,d,_,_,_,_,_,_,_,e⟩:=h
 obtain ⟨o,b,_⟩:=d.live c ((e c).mp w)
 exact ⟨o,b⟩
theorem FW.same (h:FW K a H p n kd ps X M W) (S:yz H H'):FW K a H' p n kd ps X M W:=by
 obtain ⟨A,f,O,m,c,b,d,r⟩:=h
 exact ⟨A,f,O,m,c.same S,b,d.same S,r⟩
theorem FW.up (h:FW K a H p n kd ps X M W) {M':Nat} (hM:M <= M'):FW K a H p n kd ps X M' W:=by
 obtain ⟨A,f,O,m,b,g,k,l,j,d,e,i,c⟩:=h
 exact ⟨A,f,O,m,b,Nat.le_trans g hM,k,l,j,d,e,Nat.le_trans i hM,c⟩
theorem FW.out (h:FW K a H p n kd ps X M W) {c:Addr} {o:HO} (e:H c=some o) (hi:yno o=false) (hl:∀ ns:List Int,o≠.lst (ns.map V.int)):¬ W c:=fun w=>by
 obtain ⟨A,f,O,m,g,_,_,_,_,_,_,_,d⟩:=h
 obtain ⟨i,b,z | ⟨ns,z⟩⟩:=g.live c ((d c).mp w)
 ·rw [e] at b
  cases b
  rw [hi] at z
  cases z
 ·rw [e] at b
  cases b
  exact hl ns z
theorem yj5 {g:Nat->Addr} (h:1 <= n):(refs g n)[0]?=some (.ref (g 0)):=by
 unfold refs
 rw [List.getElem?_map,List.getElem?_range h]
 rfl
theorem yqr {g:Nat->Addr} {k:Nat} (h:1 <= k) (ns:List Int):HO.lst (refs g k)≠.lst (ns.map V.int):=fun z=>by
 have e:=HO.lst.inj z
 have a:=yj5 (g:=g) h
 rw [e,List.getElem?_map] at a
 cases q:ns[0]? with
 | none=>rw [q] at a; cases a
 | some x=>rw [q] at a; cases a
theorem FW.frame {n':Nat} {kd':Nat->Fin 3} {ps':Nat->List Int} {X':FX} {M':Nat} {U:Addr->Prop} (hQ:FW K a H q n' kd' ps' X' M' W') (hP:FW K a H p n kd ps X M W) (dj:∀ c,W' c->¬ W c) (h:Go W H H' U):FW K a H' q n' kd' ps' X' M' W':=by
 obtain ⟨A,f,O,m,j,D,s,J,G,P,F,L,b⟩:=hQ
 have v:∀ {l:Addr} {g:Nat->Addr},H l=some (.lst (refs g A.n))->¬ W l:=fun {l g} e=>hP.out e rfl (yqr j.n1)
 have x:∀ {t:Addr} {k:List V},H t=some (.tup k)->¬ W t:=fun {t k} e=>hP.out e rfl (fun I z=>nomatch z)
 refine ⟨A,f,O,m,j.frame (O2:=W) (fun c o e E=>h.fr c o e E) (dj _ ((b _).mpr (.inl rfl))) (dj _ ((b _).mpr (.inr (.inl rfl)))) (fun i d=>dj _ ((b _).mpr (.inr (.inr (.inl ⟨i,d,rfl⟩))))) (fun i c d w=>dj _ ((b _).mpr (.inr (.inr (.inr (.inl ⟨i,d,w⟩)))))) (fun l k u e=>h.fr _ _ e ?_) (fun t k e=>?_),D,⟨h.fr _ _ s.1 (v s.1),s.2.1,?_⟩,J,G,P,F,L,b⟩
 ·rcases u with z | z | z | z
  ·rw [z]; exact v j.bl
  ·rw [z]; exact dj _ ((b _).mpr (.inr (.inr (.inr (.inr (.inl rfl))))))
  ·rw [z]; exact dj _ ((b _).mpr (.inr (.inr (.inr (.inr (.inr rfl))))))
  ·rw [z]; exact v j.pl
 ·rcases e with (e | ⟨o,e⟩) | e
  ·exact .inl (.inl (h.fr _ _ e (x e)))
  ·exact .inl (.inr ⟨o,h.fr _ _ e (hP.out e rfl (fun I z=>nomatch z))⟩)
  ·exact .inr e
 ·obtain ⟨C,r⟩:=s.2.2
  refine ⟨C,fun i d=>?_⟩
  obtain ⟨N,z,B,y,Q⟩:=r i d
  exact ⟨N,z,h.fr _ _ B (x B),h.fr _ _ y (x y),Q⟩
theorem FW.lst (h:FW K a H p n kd ps X M W) {r:Addr} {xs ys:List V} (hr:H r=some (.lst xs)) (nr:¬ W r) (hbl:∀ A f O m,u7 K a H p A X f O m->ytp H A->r≠A.bl/\r≠A.pl/\r≠A.ll):FW K a (upd H r (.lst ys)) p n kd ps X M W:=by
 obtain ⟨A,f,O,m,d,o,b,B,t,k,l,s,c⟩:=h
 obtain ⟨j,g,x⟩:=hbl A f O m d b
 refine ⟨A,f,O,m,d.app hr (fun q v z=>?_),o,⟨yi (fun z=>x z.symm) b.1,b.2.1,?_⟩,B,t,k,l,s,c⟩
 ·rcases v with y | y | y | y
  ·exact j (z.symm.trans y)
  ·exact nr ((c _).mpr (.inr (.inr (.inr (.inr (.inl (z.symm.trans y)))))))
  ·exact nr ((c _).mpr (.inr (.inr (.inr (.inr (.inr (z.symm.trans y)))))))
  ·exact g (z.symm.trans y)
 ·obtain ⟨e,w⟩:=b.2.2
  refine ⟨e,fun i u=>(w i u).upd hr⟩
end
theorem yuj {nd b:Int} (h:0 <= nd) (b0:0 <= b):0 <= ndN nd b:=by
 unfold ndN
 split
 ·split <;> omega
 ·split <;> omega
theorem yql (sg:List Int) (nd b:Int):(sgN sg nd b).length <= sg.length+1:=by
 unfold sgN
 split
 ·split
  ·rw [List.length_append]; exact Nat.le_refl _
  ·omega
 ·split
  ·omega
  ·exact Nat.zero_le _
theorem ylh:yo ["self","bit","slot"] ["self","bit"] (yh ytd):=xc (by right)
inductive ygf (K:W.Frag) (a:Ads) (vs:List V) (H:Hp) (Q:VK) (E':XK):Prop
 | mk (p:Addr) (A:FA) (X:FX) (f:Nat->List Int->Option Slt) (O:Nat->Addr->Prop) (m:Nat) (b:Int):(vs=[.ref p,.int b])->(u7 K a H p A X f O m)->(0 <= b)->(b <= 1)->(m+20 < 1000000)->(0 <= X.nd)->(X.sg.length <= 100000)->(∀ (ml el pl:Addr) (sl:Nat->Addr) (f':Nat->List Int->Option Slt) (O':Nat->Addr->Prop) (H':Hp),(el=A.el\/H el=none)->u7 K a H' p { A with ml:=ml,el:=el,pl:=pl,sl:=sl } (X.see A b) f' O' (m+A.n)->(∀ j c,j < A.n->O' j c->O j c\/H c=none) ->
  (∀ c o,H c=some o->c≠p->c≠A.mp->c≠A.el->(∀ j,j < A.n->¬ O j c)->H' c=some o)->(∀ c o,H c=some o->∃ o',H' c=some o')->H ml=none->Q .non H')->ygf K a vs H Q E'
def ylx (K:W.Frag) (a:Ads):Sp:=fun vs H Q E=>(∃ (p dp:Addr) (fs:List (Str × V)) (x:V) (n:String),vs=[.ref p,x]/\H p=some (.ins a.A0 dp fs)/\xp K H x (.type n)/\yai x=false/\E (.ref a.Ad) none H)\/ygf K a vs H Q E
theorem yhw (T:Txt K mg a):wa P w K mg base (CXe P w) 6 a.Ie a.If ["self","bit"] (ylx K a):=by
 refine T.C0.F.okE ylh (fun vs H Q E h=>?_) (fun aM A az s H vs Q E J h=>?_)
 ·rcases h with ⟨p,dp,fs,x,n,rfl,_⟩ | ⟨p,A,X,f,O,m,b,rfl,_⟩ <;> rfl
 rcases h with ⟨p,dp,fs,x,n,rfl,hp,ty,hb,k⟩ | h
 ·refine ⟨_,(yj (ve (vf (ygp T) (J.mono (by decide)) rfl T.B9.m T.B9.F.kp T.B9.B .nil wd (ya (pv 1) ye (yb rfl)))) (yj (ve (xj (yy (pv 0) rfl) T.Cg T.D0.m (ynu T) (J.mono (by decide)) T.D0.B .nil wd (ya (vk (pv 0) T.A8 T.Be.m (ycz T) (J.mono (by decide)) T.Be.B .nil y7) (ya (pv 1) ye (yb rfl)) (yb rfl)))) (yj (PS.nox (j6 PassesOwn.never rfl (vz (yy (pv 0) rfl)) (v6 (i:=2) ylh.nd rfl (Or.inl rfl)) (yf (ve (yam (xj (pv 2) T.Az T.Cr.m (you T) (J.mono (by decide)) T.Cr.B .nil wf (ya (pv 1) ye (yb rfl))) (yam (xj (pv 2) T.Bf T.Cu.m (yow T) (J.mono (by decide)) T.Cu.B .nil wf (ya (pv 1) ye (yb rfl))) (xj (pv 2) T.Bn T.Cw.m (yoc T) (J.mono (by decide)) T.Cw.B .nil wf (ya (pv 1) ye (yb rfl))))))))) (yj (ve (ybv (pv 0) T.A8 T.D3.m (yoo T) (J.mono (by decide)) T.D3.B .nil y7 (ya (pv 1) ye (yb rfl)))) (yf (ve (vk (pv 0) T.A8 T.Bz.m (yh0 T) (J.mono (by decide)) T.Bz.B .nil y7))))))),?_⟩
  refine yp (σ':=[some _,some _,none]) rfl ?_
  rfl'
  exact ⟨x,n,rfl,ty,fun z=>(by rw [hb] at z; cases z),fun _=>k⟩
 ·obtain ⟨p,d,X,f,O,m,b,rfl,h,b0,b1,hm,ar,aD,k⟩:=h
  have hp:=h.me
  have ad:=h.mx.o
  have n6:=h.n6
  have I:=yw2 b0 b1
  refine yq (ve (vf (ygp T) (J.mono (by decide)) rfl T.B9.m T.B9.F.kp T.B9.B .nil wd (ya (pv 1) ye (yb rfl)))) ?_
  refine yq (ve (xj (yy (pv 0) rfl) T.Cg T.D0.m (ynu T) (J.mono (by decide)) T.D0.B .nil wd (ya (vk (pv 0) T.A8 T.Be.m (ycz T) (J.mono (by decide)) T.Be.B .nil y7) (ya (pv 1) ye (yb rfl)) (yb rfl)))) ?_
  refine yq (PS.nox (j6 PassesOwn.never rfl (vz (yy (pv 0) rfl)) (v6 (i:=2) ylh.nd rfl (Or.inl rfl)) (yf (ve (yam (xj (pv 2) T.Az T.Cr.m (you T) (J.mono (by decide)) T.Cr.B .nil wf (ya (pv 1) ye (yb rfl))) (yam (xj (pv 2) T.Bf T.Cu.m (yow T) (J.mono (by decide)) T.Cu.B .nil wf (ya (pv 1) ye (yb rfl))) (xj (pv 2) T.Bn T.Cw.m (yoc T) (J.mono (by decide)) T.Cw.B .nil wf (ya (pv 1) ye (yb rfl))))))))) ?_
  refine yq (ve (ybv (pv 0) T.A8 T.D3.m (yoo T) (J.mono (by decide)) T.D3.B .nil y7 (ya (pv 1) ye (yb rfl)))) ?_
  refine ⟨_,(yf (ve (vk (pv 0) T.A8 T.Bz.m (yh0 T) (J.mono (by decide)) T.Bz.B .nil y7))),?_⟩
  exists 2,1
  rfl'
  refine ⟨.int b,_,rfl,.int b,fun _=>?_,fun z=>(by rw [I] at z; cases z)⟩
  rfl'
  refine ⟨p,d,X,f,O,m,rfl,h,fun r H1 aI aC S1=>?_⟩
  have N:=S1 _ _ ad
  rfl'
  refine ⟨d.mp,d.mx,d.ml,r,X.ws,X.cs d,d.n,.int b,_,rfl,h.n1,n6,h.wok,h.cok,h.mx.same S1,SqL.of aC,.int b,fun b' e _ _ ml H2 a8 M2 W=>?_,fun z=>(by rw [I] at z; cases z)⟩
  cases e
  have M:=h.same S1
  have ae:p≠d.mp:=fun z=>by
   have:=h.me
   rw [z,ad] at this
   injection this with this
   injection this with _ _ e
   exact absurd (congrArg List.length e) (show ¬ (1=6) by decide)
  have aA:=W _ _ M.me ae
  have ab:∀ {l:Addr} {xs:List V},H1 l=some (.lst xs)->l≠d.mp:=fun {l xs} e z=>by rw [z,N] at e; cases e
  have a9:=W _ _ M.bl (ab M.bl)
  have a7:=W _ _ M.el (ab M.el)
  have a1:=W _ _ M.pl (ab M.pl)
  have a0:=M.B.frame (O2:=fun c=>c=d.mp) (fun c o e ne=>W c o e ne) (fun j c q w z=>h.nm j q (z ▸ w)) (fun j q z=>by
   have:=(M.B.b j q).me
   rw [z,N] at this
   injection this with this
   injection this with _ _ e
   exact absurd (congrArg List.length e) (show ¬ (1=2) by decide)) (fun t xs e=>by
   rcases e with (e | ⟨o,e⟩) | e
   ·exact .inl (.inl (W _ _ e (fun z=>by rw [z,N] at e; cases e)))
   ·exact .inl (.inr ⟨o,W _ _ e (fun z=>by rw [z,N] at e; cases e)⟩)
   ·exact .inr e)
  have ax:∀ j,j < d.n->(∃ s,f j (X.key d j)=some s)/\AtS H2 (d.dd j) (X.key d j) (d.sl j):=fun j q=>⟨(M.at' j q).1,(M.at' j q).2.told (M.B.b j q) (fun z=>h.nm j q (by rw [<- z]; exact (M.B.b j q).dO)) W⟩
  rfl'
  refine ⟨d.pl,rfl,⟨_,SqL.of a1⟩,uo (K:=K) (a:=d.pl) (xs:=refs d.sl d.n) (fun i σ2 G=>∃ (v:Option V) (f':Nat->List Int->Option Slt),σ2=[some (.ref p),some (.int b),v]/\Bks K a G d.n d.bk d.dx d.lk d.dd d.kd d.ps f' O m /\
    (∀ j,j < d.n->∀ k,(f' j k).getD (kd0 (d.kd j))=if j < i/\k=X.key d j then (X.g j k).see b else X.g j k)/\(∀ j,j < d.n->(∃ s,f' j (X.key d j)=some s)/\AtS G (d.dd j) (X.key d j) (d.sl j))/\(∀ c o,H2 c=some o->(∀ j,j < d.n->¬ O j c)->G c=some o))
   ⟨_,f,rfl,a0,fun j q R=>by rw [if_neg (fun z=>absurd z.1 (Nat.not_lt_zero j))]; exact h.ag j q R,ax,fun c o e _=>e⟩ (by rintro i σ2 G _ ⟨_,_,_,_,_,_,w⟩; exact SqL.of (w _ _ a1 (a0.nlst a1))) ?_ ?_⟩
  ·rintro i y σ2 G hy ⟨v,f',rfl,U,gA,gS,gF⟩
   obtain ⟨rfl,D⟩:=wt hy
   obtain ⟨⟨s',af⟩,ah⟩:=gS i D
   have es:s'=X.g i (X.key d i):=by
    have:=gA i D (X.key d i)
    rw [af,if_neg (fun z=>absurd z.1 (Nat.lt_irrefl i))] at this
    exact this
   obtain ⟨dq,hq,ok,aK,av⟩:=(U.b i D).slot af ah
   rfl'
   refine yq6 (x:=.int b) (fun Q' h=>?_) (fun Q' h=>?_) hq ok (.int b) (fun b' e _ _ G3 h3 B3=>?_) (fun z=>by rw [I] at z; cases z) (fun z=>by rw [I] at z; cases z) (fun z=>by rw [I] at z; cases z)
   ·rfl'
    exact h
   ·rfl'
    exact h
   cases e
   have aw:=(U.b i D).told af ah b0 b1 h3 B3
   have BO:ylr (O i) G G3:=fun c o e no=>B3 _ _ e fun z=>no (by rw [z]; exact av)
   have M3:=U.move D (Nat.le_refl m) aw (fun c w=>.inl w) BO
   have eO:(fun j=>if j=i then O i else O j)=O:=by
    funext j
    by_cases z:j=i
    ·rw [if_pos z,z]
    ·rw [if_neg z]
   rw [eO] at M3
   have aB:d.dd i≠d.sl i:=fun z=>by
    obtain ⟨aJ,aL,w1,_⟩:=(U.b i D).tb
    obtain ⟨C,fs,eo⟩:=jz a dq s'
    rw [z,hq,eo] at w1
    cases w1
   rfl'
   refine ⟨_,_,rfl,M3,fun j q R=>?_,fun j q=>?_,fun c o e no=>?_⟩
   ·try dsimp only
    by_cases z:j=i
    ·subst z
     rw [if_pos rfl]
     unfold ya7
     by_cases w:R=X.key d j
     ·rw [if_pos w,if_pos ⟨Nat.lt_succ_self j,w⟩,w,<- es]
      rfl
     ·rw [if_neg w,if_neg (fun z=>w z.2)]
      have:=gA j q R
      rw [if_neg (fun z=>w z.2)] at this
      exact this
    ·rw [if_neg z,gA j q R]
     have:(j < i/\R=X.key d j) ↔ (j < i+1/\R=X.key d j):=by constructor <;> (rintro ⟨u,v⟩; exact ⟨by omega,v⟩)
     by_cases w:j < i/\R=X.key d j
     ·rw [if_pos w,if_pos (this.mp w)]
     ·rw [if_neg w,if_neg (fun z=>w (this.mpr z))]
   ·try dsimp only
    by_cases z:j=i
    ·subst z
     rw [if_pos rfl]
     refine ⟨⟨s'.see b,?_⟩,ah.told (U.b j D) aB B3⟩
     unfold ya7
     rw [if_pos rfl]
    ·rw [if_neg z]
     exact ⟨(gS j q).1,(gS j q).2.move U q D z BO⟩
   ·exact BO _ _ (gF c o e no) (no i D)
  ·rintro σ2 G ⟨v,f',rfl,U,gA,gS,gF⟩
   rw [yt] at gA
   have gp:=gF _ _ aA h.np
   have S:=gF _ _ a7 (a0.nlst a7)
   have am:=gF _ _ a9 (a0.nlst a9)
   have Y:=gF _ _ M2.o h.nm
   have ak:=gF _ _ M2.l (a0.nlst M2.l)
   rfl'
   refine ⟨p,d.dp,d.ll,d.bl,d.mp,d.el,d.pl,X.nd,b,X.sg,rfl,gp,S,aD,ar,fun el H4 ai aa a5 F4 L4=>?_⟩
   have al:∀ {l:Addr} {xs:List V},G l=some (.lst xs)->l≠p:=fun {l xs} e z=>by rw [z,gp] at e; cases e
   have ay:∀ j,j < d.n->¬ O j p:=h.np
   have aj:=U.nlst S
   have a4:=U.frame (O2:=fun c=>c=p\/c=d.el) (fun c o e ne=>F4 c o e (fun z=>ne (.inl z)) (fun z=>ne (.inr z))) (fun j c q w z=>by
    rcases z with z | z
    ·exact ay j q (z ▸ w)
    ·exact aj j q (z ▸ w)) (fun j q z=>by
    have:=(U.b j q).me
    rcases z with z | z
    ·rw [z,gp] at this
     injection this with this
     injection this with _ _ e
     exact absurd (congrArg List.length e) (show ¬ (6=2) by decide)
    ·rw [z,S] at this
     cases this) (fun t xs e=>by
    rcases e with (e | ⟨o,e⟩) | e
    ·exact .inl (.inl (F4 _ _ e (fun z=>by rw [z,gp] at e; cases e) (fun z=>by rw [z,S] at e; cases e)))
    ·exact .inl (.inr ⟨o,F4 _ _ e (fun z=>by rw [z,gp] at e; cases e) (fun z=>by rw [z,S] at e; cases e)⟩)
    ·exact .inr e)
   have ap:d.bl≠d.el:=fun z=>by
    have e:=h.bl
    rw [z,h.el] at e
    injection e with e
    injection e with e
    have e0:=congrArg (fun l:List V=>l[0]?) e
    have r0:(refs d.bk d.n)[0]?=some (.ref (d.bk 0)):=by
     unfold refs
     rw [List.getElem?_map,List.getElem?_range h.n1]
     rfl
    try dsimp only at e0
    rw [r0,List.getElem?_map] at e0
    cases hs:X.sg[0]? with
    | none=>rw [hs] at e0; cases e0
    | some c=>rw [hs] at e0; cases e0
   have aE:ml≠d.el:=(yc M.el a8).symm
   have a6:=F4 _ _ am (al am) ap
   have aG:=F4 _ _ Y (Ne.symm ae) (fun z=>by rw [z,S] at Y; cases Y)
   have ac:=F4 _ _ ak (al ak) aE
   have a2:∀ c o,H c=some o->∃ Z,H4 c=some Z:=fun c o e=>by
    by_cases zp:c=p
    ·exact ⟨_,zp ▸ aa⟩
    by_cases ze:c=d.el
    ·rw [ze]
     exact L4
    have gc:∃ Z,G c=some Z:=by
     by_cases zm:c=d.mp
     ·exact ⟨_,zm ▸ Y⟩
     by_cases zo:∀ j,j < d.n->¬ O j c
     ·exact ⟨o,gF _ _ (W _ _ (S1 _ _ e) zm) zo⟩
     ·have:∃ j,j < d.n/\O j c:=Classical.byContradiction fun w=>zo fun j q w'=>w ⟨j,q,w'⟩
      obtain ⟨j,q,w⟩:=this
      obtain ⟨Z,L,_⟩:=(U.b j q).own c w
      exact ⟨Z,L⟩
    obtain ⟨Z,L⟩:=gc
    exact ⟨Z,F4 _ _ L zp ze⟩
   have an:ylv d.n d.kd f' (X.see d b).g:=fun j q R=>by
    rw [gA j q R]
    show _=if R=X.key d j then (X.g j R).see b else X.g j R
    by_cases w:R=X.key d j
    ·rw [if_pos ⟨q,w⟩,if_pos w]
    ·rw [if_neg (fun z=>w z.2),if_neg w]
   rfl'
   refine ⟨p,d.dp,d.ll,d.bl,d.mp,el,d.pl,ndN X.nd b,sgN X.sg X.nd b,d.n,m,d.bk,d.dx,d.lk,d.dd,d.kd,d.ps,f',O,(X.see d b).g,rfl,aa,a6,a5,a4,an,n6,by omega,h.np,fun pl sl f2 O2 H5 as au aH B5 ao aF aq F5 L5=>?_⟩
   have a3:∀ {l:Addr} {xs:List V},H4 l=some (.lst xs)->l≠p:=fun {l xs} e z=>by rw [z,aa] at e; cases e
   have n2:∀ j c,j < d.n->O2 j c->O j c\/H c=none:=fun j c q w=>by
    rcases aq j c q w with v | v
    ·exact .inl v
    ·refine .inr ?_
     cases e:H c with
     | none=>rfl
     | some o =>
      obtain ⟨Z,L⟩:=a2 c o e
      rw [L] at v
      cases v
   refine k ml el pl sl f2 O2 H5 ?_ ⟨as,F5 _ _ a6 (a3 a6) (a4.nlst a6),F5 _ _ a5 (a3 a5) (a4.nlst a5),⟨F5 _ _ aG (Ne.symm ae) h.nm,F5 _ _ ac (a3 ac) (a4.nlst ac)⟩,ytx h.n1 n6 h.wok h.cok,au,B5,ao,aF,fun j q w=>?_,fun j q w=>?_,h.n1,n6⟩ n2 (fun c o e c1 c2 c3 no=>F5 _ _ (F4 _ _ (gF _ _ (W _ _ (S1 _ _ e) c2) no) c1 c3) c1 no) (fun c o e=>let ⟨Z,w⟩:=a2 c o e; L5 c Z w) (S1.free a8)
   ·rcases ai with z | z
    ·exact .inl z
    ·refine .inr ?_
     cases e:H el with
     | none=>rfl
     | some o =>
      exfalso
      by_cases zp:el=p
      ·rw [zp,gp] at z; cases z
      by_cases zm:el=d.mp
      ·rw [zm,Y] at z; cases z
      by_cases zo:∀ j,j < d.n->¬ O j el
      ·rw [gF _ _ (W _ _ (S1 _ _ e) zm) zo] at z; cases z
      ·have:∃ j,j < d.n/\O j el:=Classical.byContradiction fun w=>zo fun j q w'=>w ⟨j,q,w'⟩
       obtain ⟨j,q,w⟩:=this
       obtain ⟨Z,L,_⟩:=(U.b j q).own el w
       rw [L] at z
       cases z
   ·rcases n2 j p q w with v | v
    ·exact h.np j q v
    ·rw [hp] at v; cases v
   ·rcases n2 j d.mp q w with v | v
    ·exact h.nm j q v
    ·rw [ad] at v; cases v
theorem FW.see {H:Hp} {n:Nat} {kd:Nat->Fin 3} {ps:Nat->List Int} {X:FX} {W:Addr->Prop} {b:Int} {Q:VK} {E:XK} (h:FW K a H p n kd ps X M W) (b0:0 <= b) (b1:b <= 1) (hM:M+20 < 100000)
  (k:∀ W' H',FW K a H' p n kd ps (X.see (fa0 n ps) b) (M+6) W'->Go W H H' W'->Q .non H'):ygf K a [.ref p,.int b] H Q E:=by
 obtain ⟨A,f,O,m,d,hm,l,rfl,rfl,rfl,P,e5,s⟩:=h
 refine ⟨p,A,X,f,O,m,b,rfl,d,b0,b1,by omega,P,by omega,fun I t L T U S H' N F u G lv x=>?_⟩
 have n6:=d.n6
 refine k (Own p (A.re I t L T) S) H' ⟨A.re I t L T,U,S,m+A.n,F,by omega,⟨?_,?_,?_⟩,rfl,rfl,rfl,yuj P b0,?_,fun c=>Iff.rfl⟩ ⟨fun c o e no=>?_,fun c w=>?_,lv⟩
 ·refine G _ _ l.1 (fun z=>?_) (fun z=>?_) l.2.1 (d.B.nlst l.1)
  ·have e:=l.1; rw [z,d.me] at e; cases e
  ·have e:=l.1; rw [z,d.mx.o] at e; cases e
 ·rcases N with z | z
  ·show A.ll≠t
   rw [z]
   exact l.2.1
  ·exact yc l.1 z
 ·obtain ⟨Y,r⟩:=l.2.2
  have J:∀ {c:Addr} {C:List V},H c=some (.tup C)->H' c=some (.tup C):=fun {c C} e=>G c _ e (fun z=>by rw [z,d.me] at e; cases e) (fun z=>by rw [z,d.mx.o] at e; cases e) (fun z=>by rw [z,d.el] at e; cases e) fun j q w=>by
   obtain ⟨o,R,D⟩:=(d.B.b j q).own c w
   rw [e] at R
   cases R
   cases D
  refine ⟨Y,fun i D=>?_⟩
  obtain ⟨lk,z,h1,Z,h3⟩:=r i D
  exact ⟨lk,z,J h1,J Z,h3⟩
 ·have:=yql X.sg X.nd b
  show (sgN X.sg X.nd b).length <= M+6
  omega
 ·have g:¬ Own p A O c:=fun w=>no ((s c).mpr w)
  exact G c o e (fun z=>g (.inl z)) (fun z=>g (.inr (.inl z))) (fun z=>g (.inr (.inr (.inr (.inr (.inl z)))))) fun j q w=>g (.inr (.inr (.inr (.inl ⟨j,q,w⟩))))
 ·rcases w with z | z | ⟨j,q,z⟩ | ⟨j,q,z⟩ | z | z
  ·exact .inl ((s c).mpr (.inl z))
  ·exact .inl ((s c).mpr (.inr (.inl z)))
  ·exact .inl ((s c).mpr (.inr (.inr (.inl ⟨j,q,z⟩))))
  ·rcases u j c q z with v | v
   ·exact .inl ((s c).mpr (.inr (.inr (.inr (.inl ⟨j,q,v⟩)))))
   ·exact .inr v
  ·rcases N with y | y
   ·exact .inl ((s c).mpr (.inr (.inr (.inr (.inr (.inl (show c=A.el from Eq.trans z y)))))))
   ·exact .inr (by rw [show c=t from z]; exact y)
  ·exact .inr (by rw [show c=I from z]; exact x)
theorem vaa.fw {H H':Hp} {n:Nat} {lk:Nat->Addr} {kd:Nat->Fin 3} {ps:Nat->List Int} {A:FA} {f:Nat->List Int->Option Slt} (h:vaa K a H H' p n lk kd ps A f O) (r:zg H' n lk kd tp ps):FW K a H' p n kd ps (FX0 n kd) 6 (Own p A O)/\∀ c,Own p A O c->c=p\/H c=none:=by
 obtain ⟨b,rfl,rfl,rfl,rfl,o,l,m,i,d,e,k⟩:=h
 refine ⟨⟨A,f,O,6,b,Nat.le_refl _,⟨d,e,tp,r⟩,rfl,rfl,rfl,Int.le_refl _,Nat.zero_le _,fun c=>Iff.rfl⟩,fun c w=>?_⟩
 rcases w with z | z | ⟨j,g,z⟩ | ⟨j,g,z⟩ | z | z
 ·exact .inl z
 ·exact .inr (by rw [z]; exact m)
 ·exact .inr (by rw [z]; exact l j g)
 ·exact .inr (o j c g z)
 ·exact .inr (i c (.inr (.inl z)))
 ·exact .inr (i c (.inr (.inr (.inl z))))
theorem FW.new {H:Hp} {dp l:Addr} {n:Nat} {lk:Nat->Addr} {kd:Nat->Fin 3} {ps:Nat->List Int} {Q:VK} {E:XK} (np:H p=none) (ndp:H dp=none) (hl:H l=some (.lst (refs lk n))) (n1:1 <= n) (n6:n <= 6) (r:zg H n lk kd tp ps)
  (k:∀ W H',FW K a H' p n kd ps (FX0 n kd) 6 W->(∀ c,W c->H c=none)->yz H H'->Q .non H'):ydk K a [.ref p,.ref l] (upd (upd H dp (.own p)) p (.ins a.A0 dp [])) Q E:=by
 have d:yz H (upd (upd H dp (.own p)) p (.ins a.A0 dp [])):=fun b o e=>by rw [ym (yc e np),ym (yc e ndp)]; exact e
 refine ⟨p,dp,.ref l,rfl,yd,.inr ⟨l,n,lk,kd,tp,ps,rfl,d _ _ hl,n1,n6,r.same d,fun A f O h q m=>?_⟩⟩
 have g:yz H h:=fun b o e=>m b o (d b o e) (yc e np)
 obtain ⟨j,i⟩:=q.fw (r.same g)
 refine k _ h j (fun c w=>?_) g
 rcases i c w with z | z
 ·rw [z]
  exact np
 ·exact d.free z
theorem Go.bs {W:Addr->Prop} {B H H':Hp} (g:Go W H H' W') (S:yz B H) (hW:∀ c,W c->B c=none):yz B H'/\∀ c,W' c->B c=none:=by
 refine ⟨fun c o e=>g.fr c o (S _ _ e) fun w=>?_,fun c w=>?_⟩
 ·rw [hW c w] at e
  cases e
 ·rcases g.nw c w with z | z
  ·exact hW c z
  ·exact S.free z
theorem ya0 {A:FA} {X:FX} {bs:List Int} {k:Nat} {b:Int} (h:bs[k]?=some b):X.run A (bs.take (k+1))=(X.run A (bs.take k)).see A b:=by
 rw [yae h,ymd]
structure FGo (p:Addr) (A:FA) (O:Nat->Addr->Prop) (H H':Hp) (el:Addr) (O':Nat->Addr->Prop):Prop where
 he:el=A.el\/H el=none
 hO:∀ j c,j < A.n->O' j c->O j c\/H c=none
 fr:∀ c o,H c=some o->c≠p->c≠A.mp->c≠A.el->(∀ j,j < A.n->¬ O j c)->H' c=some o
 live:∀ c o,H c=some o->∃ o',H' c=some o'
theorem FGo.free {A:FA} {H H':Hp} {el c:Addr} (h:FGo p A O H H' el O') (hc:H' c=none):H c=none:=by
 cases e:H c with
 | none=>rfl
 | some o =>
  obtain ⟨a,w⟩:=h.live c o e
  rw [hc] at w
  cases w
theorem FGo.refl {A:FA} {H:Hp}:FGo p A O H H A.el O:=⟨.inl rfl,fun _ _ _ w=>.inl w,fun _ _ e _ _ _ _=>e,fun _ o e=>⟨o,e⟩⟩
theorem FGo.trans {A:FA} {O1 O2:Nat->Addr->Prop} {H H1 H2:Hp} {ml el pl el2:Addr} {sl:Nat->Addr} (h:FGo p A O H H1 el O1) (k:FGo p (A.re ml el pl sl) O1 H1 H2 el2 O2):FGo p A O H H2 el2 O2:=by
 refine ⟨?_,fun j c a w=>?_,fun c o e f g d b=>?_,fun c o e=>?_⟩
 ·rcases k.he with z | z
  ·rcases h.he with y | y
   ·exact .inl (z.trans y)
   ·exact .inr (by rw [show el2=el from z]; exact y)
  ·exact .inr (h.free z)
 ·rcases k.hO j c a w with v | v
  ·exact h.hO j c a v
  ·exact .inr (h.free v)
 ·refine k.fr c o (h.fr c o e f g d b) f g (fun z=>?_) (fun j a w=>?_)
  ·rcases h.he with y | y
   ·exact d (z.trans y)
   ·rw [show c=el from z,y] at e
    cases e
  ·rcases h.hO j c a w with v | v
   ·exact b j a v
   ·rw [e] at v
    cases v
 ·obtain ⟨i,l⟩:=h.live c o e
  exact k.live c i l
theorem FGo.same {A:FA} {H H1 H2:Hp} {el:Addr} (h:FGo p A O H H1 el O') (S:yz H1 H2):FGo p A O H H2 el O' :=
 ⟨h.he,h.hO,fun c o e b d a f=>S _ _ (h.fr c o e b d a f),fun c o e=>let ⟨o',w⟩:=h.live c o e; ⟨o',S _ _ w⟩⟩
theorem FGo.ahead {A:FA} {H H1 H2:Hp} {el:Addr} (S:yz H H1) (h:FGo p A O H1 H2 el O'):FGo p A O H H2 el O' :=
 ⟨h.he.imp id S.free,fun j c a w=>(h.hO j c a w).imp id S.free,fun c o e=>h.fr c o (S _ _ e),fun c o e=>h.live c o (S _ _ e)⟩
theorem FGo.kpa {A:FA} {X:FX} {f:Nat->List Int->Option Slt} {m:Nat} {H H':Hp} {el:Addr} (hf:u7 K a H p A X f O m) (h:FGo p A O H H' el O'):KpA H H' A.el el:=fun c o e i k=>by
 refine ⟨?_,h.fr c o e (fun z=>by rw [z,hf.me] at e; cases e; cases i) (fun z=>by rw [z,hf.mx.o] at e; cases e; cases i) k fun j l w=>?_⟩
 ·rcases h.he with z | z
  ·rw [z]
   exact k
  ·exact yc e z
 ·obtain ⟨n,d,g⟩:=(hf.B.b j l).own c w
  rw [e] at d
  cases d
  rw [i] at g
  cases g
theorem FGo.app {R:Addr} {A:FA} {H H1:Hp} {el:Addr} {o':HO} (h:FGo p A O H H1 el O') (hR:H R=none):FGo p A O H (upd H1 R o') el O' :=
 ⟨h.he,h.hO,fun c o e b d a f=>yi (yc e hR) (h.fr c o e b d a f),fun c o e=>let ⟨o',w⟩:=h.live c o e; ⟨o',yi (yc e hR) w⟩⟩
theorem ykv {g:Nat->Addr} {n:Nat} (h:1 <= n):(refs g n)[0]?=some (.ref (g 0)):=by
 unfold refs
 rw [List.getElem?_map,List.getElem?_range h]
 rfl
theorem u7.notR {G:Hp} {R:Addr} {A:FA} {X:FX} {f:Nat->List Int->Option Slt} {m:Nat} {tu:Nat->Addr} (h:u7 K a G p A X f O m) (hR:G R=some (.lst (refs tu j))) (htu:∀ i,i < j->∃ o,G (tu i)=some o/\yno o=false) (nR:R≠A.el):∀ q,(q=A.bl\/q=A.el\/q=A.ml\/q=A.pl)->q≠R:=fun q v z=>by
 have d:=h.n1
 have c:∀ (l:List V) (x:V),l[0]?=some x->refs tu j=l->1 <= j/\x=.ref (tu 0):=fun l x n e=>by
  rcases Nat.eq_zero_or_pos j with w | w
  ·rw [<- e,w] at n
   cases n
  ·rw [<- e,ykv w] at n
   exact ⟨w,(Option.some.inj n).symm⟩
 rcases v with y | y | y | y
 ·have e:=h.bl
  rw [<- y,z,hR] at e
  obtain ⟨w,e⟩:=c _ _ (ykv d) (HO.lst.inj (Option.some.inj e))
  obtain ⟨o,k,r⟩:=htu 0 w
  rw [<- V.ref.inj e,(h.B.b 0 d).me] at k
  cases k
  cases r
 ·exact nR (z.symm.trans y)
 ·have e:=h.mx.l
  rw [<- y,z,hR] at e
  have t:0 < X.ws.length:=by rw [h.wok.len]; exact d
  obtain ⟨w,e⟩:=c _ (.int X.ws[0]) (by rw [List.getElem?_map,List.getElem?_eq_getElem t]; rfl) (HO.lst.inj (Option.some.inj e))
  cases e
 ·have e:=h.pl
  rw [<- y,z,hR] at e
  obtain ⟨w,e⟩:=c _ _ (ykv d) (HO.lst.inj (Option.some.inj e))
  obtain ⟨o,k,r⟩:=htu 0 w
  obtain ⟨_,⟨u,s⟩,_,_⟩:=h.slot d
  obtain ⟨C,E,D⟩:=jz a u (X.g 0 (X.key A 0))
  rw [<- V.ref.inj e,s,D] at k
  cases k
  cases r
structure jp (H:Hp) (t:Addr) (ts:List Int) (w:Nat):Prop where
 l:H t=some (.lst (ts.map V.int))
 s:Sgs ts
 z:ts.length <= w
theorem jp.same {H H':Hp} {t:Addr} {w:Nat} (h:jp H t ts w) (S:yz H H'):jp H' t ts w:=⟨S _ _ h.l,h.s,h.z⟩
def zj (tt:Nat->List Int):Nat->List Int
 | 0=>[]
 | i+1=>zj tt i++dec (tt i)
def fX (n:Nat) (kd:Nat->Fin 3) (ps:Nat->List Int) (pre:List Int) (ts:List Int) (k:Nat):FX:=((FX0 n kd).run (fa0 n ps) pre).run (fa0 n ps) ((dec ts).take k)
def ylp (n:Nat) (kd:Nat->Fin 3) (ps:Nat->List Int) (pre:List Int) (ts:List Int) (k:Nat):Int:=ylw (fX n kd ps pre ts k).ws ((fX n kd ps pre ts k).cs (fa0 n ps))
def fCs (n:Nat) (kd:Nat->Fin 3) (ps:Nat->List Int) (pre:List Int) (ts:List Int) (k:Nat):List Int:=(fX n kd ps pre ts k).cs (fa0 n ps)
def uk (ts:List Int) (k:Nat):Int:=((dec ts)[k]?).getD 0
theorem ymm (ts:List Int) (k:Nat) (h:k < (dec ts).length):0 <= uk ts k/\uk ts k <= 1:=by
 unfold uk
 rw [List.getElem?_eq_getElem h]
 exact ya2 ts _ (List.getElem_mem h)
def ypj (H:Hp) (lx:V) (N w:Nat) (lt:Nat->Addr) (tt:Nat->List Int):Prop:=((lx=.non/\N=0)\/∃ ll,lx=.ref ll/\H ll=some (.lst (refs lt N)))/\∀ i,i < N->jp H (lt i) (tt i) w
theorem ypj.same {H H':Hp} {lx:V} {N w:Nat} {lt:Nat->Addr} (h:ypj H lx N w lt tt) (S:yz H H'):ypj H' lx N w lt tt :=
 ⟨h.1.imp id fun ⟨b,e,z⟩=>⟨b,e,S _ _ z⟩,fun i a=>(h.2 i a).same S⟩
structure vaf (H:Hp) (L tx:Addr) (lx:V) (n:Nat) (lk:Nat->Addr) (kd:Nat->Fin 3) (tp:Nat->Addr) (ps:Nat->List Int) (ts:List Int) (N w:Nat) (lt:Nat->Addr) (tt:Nat->List Int):Prop where
 l:H L=some (.lst (refs lk n))
 n1:1 <= n
 n6:n <= 6
 r:zg H n lk kd tp ps
 t:jp H tx ts 1000
 lr:ypj H lx N w lt tt
 w1:w <= 1000
 N1:N <= 1000
 b:6+6 * (N * (9 * w+1))+6 * (9 * ts.length+1)+20 < 1000000
theorem vaf.same {H H':Hp} {L tx:Addr} {lx:V} {n:Nat} {lk:Nat->Addr} {kd:Nat->Fin 3} {ps:Nat->List Int} {N w:Nat} {lt:Nat->Addr} (h:vaf H L tx lx n lk kd tp ps ts N w lt tt) (S:yz H H'):vaf H' L tx lx n lk kd tp ps ts N w lt tt :=
 ⟨S _ _ h.l,h.n1,h.n6,h.r.same S,h.t.same S,h.lr.same S,h.w1,h.N1,h.b⟩
theorem Sds.refs {H:Hp} {k:Nat} {g:Nat->Addr} {d:Nat->PyData}:∀ (n:Nat),(∀ i,i < n->Sd K H (.ref (g i)) (d i) k)->Sds K H (refs g n) ((List.range n).map d) k:=fun n h=>by
 unfold Law.refs
 have a:∀ l:List Nat,(∀ i∈l,i < n)->Sds K H (l.map fun i=>V.ref (g i)) (l.map d) k:=by
  intro l
  induction l with
  | nil=>exact fun _=>.nil
  | cons i r ih=>exact fun b=>.cons (h i (b i (by simp))) (ih fun j c=>b j (by simp [c]))
 exact a (List.range n) fun i e=>List.mem_range.mp e
structure TwB (K:W.Frag) (a:Ads) (H G:Hp) (n:Nat) (bk dx lk dd:Nat->Addr) (kd:Nat->Fin 3) (ps:Nat->List Int) (f:Nat->List Int->Option Slt) (O:Nat->Addr->Prop) (m:Nat):Prop where
 B:Bks K a G n bk dx lk dd kd ps f O m
 oO:∀ j c,j < n->O j c->H c=none
 oB:∀ j,j < n->H (bk j)=none
theorem TwB.zero {H G:Hp} {bk dx lk dd:Nat->Addr} {kd:Nat->Fin 3} {ps:Nat->List Int} {f:Nat->List Int->Option Slt} {m:Nat}:TwB K a H G 0 bk dx lk dd kd ps f O m :=
 ⟨⟨fun i b=>absurd b (Nat.not_lt_zero i),fun i b=>absurd b (Nat.not_lt_zero i),fun i _ _ b=>absurd b (Nat.not_lt_zero i),fun i _ b=>absurd b (Nat.not_lt_zero i)⟩,fun i _ b=>absurd b (Nat.not_lt_zero i),fun i b=>absurd b (Nat.not_lt_zero i)⟩
theorem TwB.next {H G G2:Hp} {n m:Nat} {bk dx lk dd:Nat->Addr} {kd:Nat->Fin 3} {ps:Nat->List Int} {f:Nat->List Int->Option Slt} (h:TwB K a H G n bk dx lk dd kd ps f O m) (hl:uz K G (lk n) (.str (kdS (kd n))) (ps n))
  (S:yz H G) {q dq d D:Addr} {xs ys:List V} {f':List Int->Option Slt} {O':Addr->Prop} (hq:G q=none) (hO:∀ c,O' c->G c=none) (S2:yz G G2) (hb:jj a G2 q dq (lk n) d (kd n) f' O' m) (hD:G D=some (.lst xs)) :
  TwB K a H (upd G2 D (.lst ys)) (n+1) (upN bk n q) (upN dx n dq) lk (upN dd n d) kd ps (upN f n f') (upN O n O') m:=by
 obtain ⟨p,u,v⟩:=h
 have k:∀ j c,j < n->O j c->∃ o,G c=some o:=fun j c g w=>let ⟨o,l,_⟩:=(p.b j g).own c w; ⟨o,l⟩
 have M:=(p.same S2).snoc (hl.same S2) hb (fun j c g w z=>by
  obtain ⟨o,l⟩:=k j c g w
  rw [hO c z] at l
  cases l) (fun j g w=>by
  obtain ⟨o,l⟩:=k j q g w
  rw [hq] at l
  cases l) (fun j g z=>by
  have e:=(p.b j g).me
  rw [hO _ z] at e
  cases e)
 have i:=S2 _ _ hD
 have x:=M.nlst i
 have r:∀ c o,G2 c=some o->c≠D->upd G2 D (.lst ys) c=some o:=fun c o e s=>yi s e
 refine ⟨M.frame (O2:=fun c=>c=D) (fun c o e s=>r c o e s) (fun j c g w z=>x j g (z ▸ w)) (fun j g z=>?_) (fun t xs e=>?_),fun j c g w=>?_,fun j g=>?_⟩
 ·have e:=(M.b j g).me
  rw [z,i] at e
  cases e
 ·rcases e with (e | ⟨o,e⟩) | e
  ·exact .inl (.inl (r _ _ e (fun z=>by rw [z,i] at e; cases e)))
  ·exact .inl (.inr ⟨o,r _ _ e (fun z=>by rw [z,i] at e; cases e)⟩)
  ·exact .inr e
 ·by_cases z:j=n
  ·rw [z,vw] at w
   exact S.free (hO c w)
  ·rw [vp (by omega)] at w
   exact u j c (by omega) w
 ·by_cases z:j=n
  ·rw [z,vw]
   exact S.free hq
  ·rw [vp (by omega)]
   exact v j (by omega)
theorem ynv:yo ["self","made"] ["self"] (yh yr6):=xc (by right)
inductive ydo (K:W.Frag) (a:Ads) (vs:List V) (H:Hp) (Q:VK) (E':XK):Prop
 | mk (p:Addr) (A:FA) (X:FX) (f:Nat->List Int->Option Slt) (O:Nat->Addr->Prop) (m:Nat):(vs=[.ref p])->(u7 K a H p A X f O m)->(ytp H A)->(m+20 < 1000000)->(∀ (q:Addr) (A':FA) (f':Nat->List Int->Option Slt) (O':Nat->Addr->Prop) (H':Hp),H q=none->u7 K a H' q A' X f' O' (m+A.n)->ytp H' A'->A'.n=A.n->A'.kd=A.kd->A'.ps=A.ps->A'.lk=A.lk->(∀ j c,j < A.n->O' j c->H c=none)->(∀ j,j < A.n->H (A'.bk j)=none)->H A'.mp=none->(∀ l,(l=A'.bl\/l=A'.el\/l=A'.ml\/l=A'.pl\/l=A'.ll)->H l=none)->yz H H'->Q (.ref q) H')->ydo K a vs H Q E'
theorem yuo (T:Txt K mg a):wa P w K mg base CX0 8 a.Ik a.Il ["self"] (ydo K a):=by
 refine T.F2.F.ok ynv (fun vs H Q E h=>?_) (fun aW A ay s H vs Q E hr h=>?_)
 ·left
 ·obtain ⟨p,u,X,f,O,m,rfl,h,⟨av,aU,tp,a1⟩,hm,k⟩:=h
  have hp:=h.me
  have n1:=h.n1
  have n6:=h.n6
  refine yq (vc (i:=1) ynv.nd rfl (Or.inl rfl) (yaz T.Ld (yhz T) (hr.mono (by decide)) rfl T.Lc T.C7.B .nil wf (ya (yy (pv 0) rfl) ye (yb rfl)))) ?_
  refine yq (vv (pv 1) (wu (js:=[]) (ys:=[]) rfl (vz (yy (pv 0) rfl)) (fun C s2 H2 fp=>(vk (pv 0) T.Bl T.Ev.m (yv9 T) (hr.mono (by decide)) T.Ev.B .nil y7)) rfl rfl (hyc:=yw) (hrel:=yw)) rfl) ?_
  refine yq (vv (pv 1) (vk (yy (pv 0) rfl) T.Cg T.Ez.m (yvp T) (hr.mono (by decide)) T.Ez.B .nil y7) rfl) ?_
  refine yq (vv (pv 1) (vm vi rfl T.Ab (by right) (ya (yy (pv 0) rfl) ye (yb rfl))) rfl) ?_
  refine yq (vv (pv 1) (yy (pv 0) rfl) rfl) ?_
  refine yq (ve (vk (pv 1) T.A8 T.Bz.m (yh0 T) (hr.mono (by decide)) T.Bz.B .nil y7)) ?_
  refine ⟨_,(yf (yv (pv 1))),?_⟩
  exists 1,1
  rfl'
  intro q dq Y al aH
  have S0:yz H (upd (upd H dq (.own q)) q (.ins a.A0 dq [])):=fun b o e=>by rw [ym (yc e Y),ym (yc e al)]; exact e
  refine ⟨q,dq,.ref u.ll,rfl,yd,.inr ⟨u.ll,u.n,u.lk,u.kd,tp,u.ps,rfl,S0 _ _ av,n1,n6,a1.same S0,fun d f1 O1 H1 N1 B1=>⟨rfl,?_⟩⟩⟩
  obtain ⟨ae,e1,e2,e3,e4,aR,aI,aJ,aM,W,aL,aC⟩:=N1
  have S1:yz H H1:=uy Y al B1
  have h1:=h.same S1
  have R:H1 q=some (.ins a.A0 d.dp (ux (.ref d.ll) (.ref d.bl) (.ref d.mp) (.ref d.el) (.int 0) (.ref d.pl))):=ae.me
  have az:=h1.me
  have aK:p≠q:=yc hp Y
  rfl'
  refine ⟨u.bl,rfl,⟨_,SqL.of h1.bl⟩,fun D hD=>?_⟩
  refine x6 (K:=K) (xs:=refs u.bk u.n) (fun i G=>∃ (bk dx dd:Nat->Addr) (f2:Nat->List Int->Option Slt) (O2:Nat->Addr->Prop),G D=some (.lst (refs bk i))/\TwB K a H1 G i bk dx u.lk dd u.kd u.ps f2 O2 m/\(∀ j,j < i->f2 j=f j)/\yz H1 G)
   ⟨fun _=>0,fun _=>0,fun _=>0,fun _ _=>none,fun _ _=>False,yd,TwB.zero,fun j x=>absurd x (Nat.not_lt_zero j),vd hD⟩ (fun i G _ z=>?_) (fun i y G hy hi z=>?_) (fun G z=>?_)
  ·obtain ⟨_,_,_,_,_,_,_,_,N⟩:=z
   exact SqL.of (N _ _ h1.bl)
  ·obtain ⟨bk,dx,dd,f2,O2,gD,S,gf,N⟩:=z
   obtain ⟨rfl,ak⟩:=wt hy
   have ad:=(h1.B.b i ak).same N
   have aF:=ad.me
   rfl'
   refine ⟨u.bk i,u.dx i,u.lk i,u.dd i,u.kd i,f i,O i,m,rfl,ad,by omega,fun q2 aV d2 O3 G2 aj aE aw S2=>?_⟩
   refine wb (n:=(refs u.bk u.n).length) (S2 _ _ gD) (vj (by rw [yt]; omega)) hi ?_
   refine ⟨_,_,_,_,_,?_,S.next ((h1.B.look i ak).same N) N aj aw S2 aE gD,fun j x=>?_,fun b o e=>yi (yc e hD) (S2 _ _ (N b o e))⟩
   ·rw [yd,w9,vw]
    congr 3
    exact wx fun j x=>(vp x).symm
   ·by_cases z:j=i
    ·rw [z,vw]
    ·rw [vp (by omega)]
     exact gf j (by omega)
  obtain ⟨bk,dx,dd,f2,O2,gD,S,gf,N⟩:=z
  rw [yt] at gD S gf
  have an:=N _ _ R
  have aO:=N _ _ az
  rfl'
  have ab:D≠q:=fun z=>by rw [z,R] at hD; cases hD
  have BA:But q G (upd G q (.ins a.A0 d.dp (ux (.ref d.ll) (.ref D) (.ref d.mp) (.ref d.el) (.int 0) (.ref d.pl)))):=But.upd
  have U:upd G q (.ins a.A0 d.dp (ux (.ref d.ll) (.ref D) (.ref d.mp) (.ref d.el) (.int 0) (.ref d.pl))) q=some (.ins a.A0 d.dp (ux (.ref d.ll) (.ref D) (.ref d.mp) (.ref d.el) (.int 0) (.ref d.pl))):=yd
  generalize upd G q (.ins a.A0 d.dp (ux (.ref d.ll) (.ref D) (.ref d.mp) (.ref d.el) (.int 0) (.ref d.pl)))=HA at BA U ⊢
  have SA:yz H HA:=fun b o e=>BA _ _ (N _ _ (S1 _ _ e)) (yc e Y)
  have hA:=h.same SA
  have aQ:=hA.me
  have aG:=hA.mx.o
  rfl'
  refine ⟨u.mp,u.mx,u.ml,X.ws,rfl,hA.mx,by rw [h.wok.len]; exact n1,by rw [h.wok.len]; exact n6,fun I aD l3 HB J a0 MB SB=>?_⟩
  have aN:=SB _ _ U
  rfl'
  have aa:I≠q:=(yc U J).symm
  have ai:l3≠q:=(yc U a0).symm
  have BC:But q HB (upd HB q (.ins a.A0 d.dp (ux (.ref d.ll) (.ref D) (.ref I) (.ref d.el) (.int 0) (.ref d.pl)))):=But.upd
  have a2:upd HB q (.ins a.A0 d.dp (ux (.ref d.ll) (.ref D) (.ref I) (.ref d.el) (.int 0) (.ref d.pl))) q=some (.ins a.A0 d.dp (ux (.ref d.ll) (.ref D) (.ref I) (.ref d.el) (.int 0) (.ref d.pl))):=yd
  generalize upd HB q (.ins a.A0 d.dp (ux (.ref d.ll) (.ref D) (.ref I) (.ref d.el) (.int 0) (.ref d.pl)))=HC at BC a2 ⊢
  have SC:yz H HC:=fun b o e=>BC _ _ (SB _ _ (SA _ _ e)) (yc e Y)
  have aT:=SC _ _ hp
  rfl'
  refine xk (SqL.of (SC _ _ h.el)) fun r hr0=>?_
  with_reducible first | refine yk hr0 fun HD SD er=>?_ | refine yn hr0 fun HD SD er=>?_
  have aS:=SD _ _ a2
  rfl'
  have af:r≠q:=(yc a2 hr0).symm
  have BE:But q HD (upd HD q (.ins a.A0 d.dp (ux (.ref d.ll) (.ref D) (.ref I) (.ref r) (.int 0) (.ref d.pl)))):=But.upd
  have au:upd HD q (.ins a.A0 d.dp (ux (.ref d.ll) (.ref D) (.ref I) (.ref r) (.int 0) (.ref d.pl))) q=some (.ins a.A0 d.dp (ux (.ref d.ll) (.ref D) (.ref I) (.ref r) (.int 0) (.ref d.pl))):=yd
  generalize upd HD q (.ins a.A0 d.dp (ux (.ref d.ll) (.ref D) (.ref I) (.ref r) (.int 0) (.ref d.pl)))=HE at BE au ⊢
  have SE:yz H HE:=fun b o e=>BE _ _ (SD _ _ (SC _ _ e)) (yc e Y)
  have aP:=SE _ _ hp
  rfl'
  have BF:But q HE (upd HE q (.ins a.A0 d.dp (ux (.ref d.ll) (.ref D) (.ref I) (.ref r) (.int X.nd) (.ref d.pl)))):=But.upd
  have a6:upd HE q (.ins a.A0 d.dp (ux (.ref d.ll) (.ref D) (.ref I) (.ref r) (.int X.nd) (.ref d.pl))) q=some (.ins a.A0 d.dp (ux (.ref d.ll) (.ref D) (.ref I) (.ref r) (.int X.nd) (.ref d.pl))):=yd
  generalize upd HE q (.ins a.A0 d.dp (ux (.ref d.ll) (.ref D) (.ref I) (.ref r) (.int X.nd) (.ref d.pl)))=HF at BF a6 ⊢
  have aq:But q HD HF:=BE.trans BF
  have a3:But q HB HF:=(BC.trans (But.of SD)).trans aq
  have M:But q G HF:=(BA.trans (But.of SB)).trans a3
  have SF:yz H HF:=fun b o e=>M _ _ (N _ _ (S1 _ _ e)) (yc e Y)
  have a4:=M _ _ gD ab
  have a7:=aq _ _ er af
  have ao:=a3 _ _ MB.o aa
  have am:=a3 _ _ MB.l ai
  have a5:∀ j,j < u.n->¬ O2 j q:=fun j x w=>by
   have e:=S.oO j q x w
   rw [R] at e
   cases e
  have ac:Bks K a HF u.n bk dx u.lk dd u.kd u.ps f2 O2 m:=S.B.frame (O2:=fun c=>c=q) (fun c o e ne=>M c o e ne) (fun j c x w z=>a5 j x (z ▸ w)) (fun j x z=>by
   have e:=S.oB j x
   rw [z,R] at e
   cases e) (fun t xs e=>by
   rcases e with (e | ⟨o,e⟩) | e
   ·exact .inl (.inl (M _ _ e (fun z=>by rw [z,an] at e; cases e)))
   ·exact .inl (.inr ⟨o,M _ _ e (fun z=>by rw [z,an] at e; cases e)⟩)
   ·exact .inr e)
  have ar:ylv u.n u.kd f2 X.g:=fun i hi k=>by
   rw [gf i hi]
   exact h.ag i hi k
  rfl'
  refine ⟨q,d.dp,d.ll,D,I,r,d.pl,X.nd,X.sg,u.n,m,bk,dx,u.lk,dd,u.kd,u.ps,f2,O2,X.g,rfl,a6,a4,a7,ac,ar,n6,by omega,a5,fun pl sl f' O' H' as ax ap B' aB aA a9 F' L'=>?_⟩
  have a8:∀ j c,j < u.n->O2 j c->∃ o,G c=some o:=fun j c x w=>let ⟨o,ho,_⟩:=(S.B.b j x).own c w; ⟨o,ho⟩
  have ah:∀ j,j < u.n->¬ O2 j I:=fun j x w=>by
   obtain ⟨o,ho⟩:=a8 j I x w
   rw [BA _ _ ho aa] at J
   cases J
  have nl:=fun {l:Addr} {xs:List V} (e:HF l=some (.lst xs))=>ac.nlst e
  have L:d.ll≠q:=fun z=>by rw [z,R] at W; cases W
  have Z:=M _ _ (N _ _ W) L
  have SH:yz H H':=fun c o e=>F' c o (SF c o e) (yc e Y) fun j x w=>by
   have e2:=S.oO j c x w
   rw [S1 _ _ e] at e2
   cases e2
  rfl'
  refine k q ⟨d.dp,d.ll,D,I,aD,l3,r,pl,u.n,bk,dx,u.lk,dd,sl,u.kd,u.ps⟩ f' O' H' Y ⟨as,F' _ _ a4 ab (nl a4),F' _ _ a7 af (nl a7),⟨F' _ _ ao aa ah,F' _ _ am ai (nl am)⟩,h.wok,ax,B',aB,aA,fun j x w=>?_,fun j x w=>?_,n1,n6⟩ ⟨F' _ _ Z L (nl Z),fun z=>?_,tp,a1.same SH⟩ rfl rfl rfl rfl (fun j c x w=>?_) (fun j x=>S1.free (S.oB j x)) (SA.free J) (fun l hl=>?_) SH
  ·rcases a9 j q x w with v | v
   ·exact a5 j x v
   ·rw [a6] at v
    cases v
  ·rcases a9 j I x w with v | v
   ·exact ah j x v
   ·rw [ao] at v
    cases v
  ·have e:=BC _ _ (SB _ _ (BA _ _ (N _ _ W) L)) L
   rw [show d.ll=r from z,hr0] at e
   cases e
  ·rcases a9 j c x w with v | v
   ·exact S1.free (S.oO j c x v)
   ·exact SF.free v
  ·rcases hl with z | z | z | z | z
   ·rw [z]
    exact S1.free hD
   ·rw [z]
    exact SC.free hr0
   ·rw [z]
    exact SA.free a0
   ·rw [z]
    exact SF.free ap
   ·rw [z]
    exact S0.free aC
def ypi (K:W.Frag) (H:Hp) (x:V):Prop:=(∃ n,xp K H x (.type n)/\n≠"list"/\x≠.non) \/
 ∃ (l:Addr) (m:Nat) (tx:Nat->Addr) (tt:Nat->List Int) (y:V) (u6:List V) (n:String),x=.ref l/\H l=some (.lst (refs tx m++y :: u6))/\m <= 1000/\u6.length <= 1000/\(∀ i,i < m->jp H (tx i) (tt i) 1000)/\xp K H y (.type n)/\Bad K H y n 1000
theorem ypi.same {H H':Hp} {x:V} (h:ypi K H x) (S:yz H H'):ypi K H' x:=by
 rcases h with ⟨n,a,g,q⟩ | ⟨l,m,j,p,y,u6,n,e,o,f,d,c,a,b⟩
 ·exact .inl ⟨n,ud S a,g,q⟩
 ·exact .inr ⟨l,m,j,p,y,u6,n,e,S _ _ o,f,d,fun i k=>(c i k).same S,ud S a,b.same S⟩
theorem yum:yo ["thing"] ["thing"] (yh ysd):=xc (by right)
def ycj (K:W.Frag) (C:Addr):Sp:=fun vs H Q E=>(∃ x,vs=[x]/\ypi K H x/\∀ H',yz H H'->E (.ref C) none H')\/(vs=[.non]/\∀ r H',H r=none->H' r=some (.lst [])->yz H H'->Q (.ref r) H')\/∃ (l:Addr) (n:Nat) (tx:Nat->Addr) (tt:Nat->List Int),vs=[.ref l]/\H l=some (.lst (refs tx n))/\n <= 1000/\(∀ i,i < n->jp H (tx i) (tt i) 1000) /\
 ∀ r (cx:Nat->Addr) H',H r=none->H' r=some (.lst (refs cx n))->(∀ i,i < n->H (cx i)=none/\H' (cx i)=some (.lst ((tt i).map V.int)))->yz H H'->Q (.ref r) H'
theorem yfc (T:Txt K mg a):wa P w K mg base (CXe P w) 5 a.Im a.Io ["thing"] (ycj K a.Ae):=by
 refine T.At.F.okE yum (fun vs H Q E h=>?_) (fun a5 A a0 s H vs Q E Y h=>?_)
 ·rcases h with ⟨x,rfl,_⟩ | ⟨rfl,_⟩ | ⟨l,n,g,N,rfl,_⟩ <;> rfl
 ·rcases h with ⟨x,rfl,hb,k⟩ | ⟨rfl,k⟩ | ⟨l,n,g,N,rfl,q,hn,ht,k⟩
  ·rcases hb with ⟨n,X,hn,hx⟩ | ⟨l,m,g,N,Z,u6,n,rfl,q,hm,a2,ht,X,U⟩
   ·refine ⟨_,(yj (v9 (yx yh4 (pv 0) j3 (vg _)) (yf (yv (vq ye))) y8) (yj (v9 (xv (uc (yr vy rfl T.A3 (by right) (ya (pv 0) (ya (uu (T:="list") rfl T.Ab (by right)) ye (yb rfl)) (yb rfl))))) (yf (uf rfl T.Fc T.Fd (ya xh ye (yb rfl)))) y8) (yf (yv (yay rfl (vz (pv 0)) (fun C s2 H2 fp pn Ex=>(vf (ylj T) (Y.mono (by decide)) rfl T.Bw.m T.Bw.F.kp T.Bw.B .nil xz (ya (pv 0) ye (yb rfl)))) ⟨rfl,rfl⟩ ju))))),?_⟩
    refine yp (σ':=[some _]) rfl ?_
    rfl'
    refine zw hx ?_
    rfl'
    refine yab X (ydj X) ?_
    rw [decide_eq_false hn]
    rfl'
    exact ⟨by walk_at "len",k _ (yz.refl _)⟩
   ·refine ⟨_,(yj (v9 (yx yh4 (pv 0) j3 (vg _)) (yf (yv (vq ye))) y8) (yj (v9 (xv (uc (yr vy rfl T.A3 (by right) (ya (pv 0) (ya (uu (T:="list") rfl T.Ab (by right)) ye (yb rfl)) (yb rfl))))) (yf (uf rfl T.Fc T.Fd (ya xh ye (yb rfl)))) y8) (yf (yv (yay rfl (vz (pv 0)) (fun C s2 H2 fp pn Ex=>(vf (ylj T) (Y.mono (by decide)) rfl T.Bw.m T.Bw.F.kp T.Bw.B .nil xz (ya (pv 0) ye (yb rfl)))) ⟨rfl,rfl⟩ ju))))),?_⟩
    refine yp (σ':=[some _]) rfl ?_
    rfl'
    refine zw (fun z=>nomatch z) ?_
    rfl'
    refine yab (.lst q) (yg8 _ _) ?_
    rfl'
    refine yj9 ?_
    rfl'
    refine ⟨l,rfl,⟨_,SqL.of q⟩,fun D v=>?_⟩
    have a4:(refs g m++Z :: u6).length=m+1+u6.length:=by rw [List.length_append,yt,List.length_cons]; omega
    refine x6 (K:=K) (xs:=refs g m++Z :: u6) (fun i G=>i <= m/\(∃ f:Nat->Addr,G D=some (.lst (refs f i)))/\yz H G) ⟨Nat.zero_le _,⟨fun _=>0,yd⟩,vd v⟩ (fun i G _ ⟨_,_,S⟩=>SqL.of (S _ _ q)) (fun i y G I J z=>?_) (fun G z=>?_)
    ·obtain ⟨a3,⟨f,t⟩,S⟩:=z
     by_cases hlt:i < m
     ·rw [List.getElem?_append_left (by rw [yt]; exact hlt)] at I
      obtain ⟨rfl,_⟩:=wt I
      have d:=(ht i hlt).same S
      rfl'
      refine ⟨.ref (g i),_,rfl,.lst d.l,.inr ⟨(N i).map V.int,ydr d.l d.s d.z,fun c G2 u R p=>?_⟩⟩
      refine wb (n:=(refs g m++Z :: u6).length) (p _ _ t) (vj (by rw [yt]; omega)) J ?_
      refine ⟨hlt,⟨upN f i c,?_⟩,fun b o e=>yi (yc e v) (p _ _ (S b o e))⟩
      rw [yd,w9,vw]
      congr 3
      exact wx fun j L=>(vp L).symm
     ·have ei:i=m:=by omega
      rw [ei,List.getElem?_append_right (by rw [yt]; exact Nat.le_refl _),yt,Nat.sub_self] at I
      cases I
      rfl'
      exact ⟨Z,n,rfl,ud S X,.inl ⟨U.same S,fun G2 p=>k _ (S.trans p)⟩⟩
    ·obtain ⟨a3,_⟩:=z
     omega
  ·refine ⟨_,(yj (v9 (yx yh4 (pv 0) j3 (vg _)) (yf (yv (vq ye))) y8) (yj (v9 (xv (uc (yr vy rfl T.A3 (by right) (ya (pv 0) (ya (uu (T:="list") rfl T.Ab (by right)) ye (yb rfl)) (yb rfl))))) (yf (uf rfl T.Fc T.Fd (ya xh ye (yb rfl)))) y8) (yf (yv (yay rfl (vz (pv 0)) (fun C s2 H2 fp pn Ex=>(vf (ylj T) (Y.mono (by decide)) rfl T.Bw.m T.Bw.F.kp T.Bw.B .nil xz (ya (pv 0) ye (yb rfl)))) ⟨rfl,rfl⟩ ju))))),?_⟩
   refine yp (σ':=[some _]) rfl ?_
   rfl'
   refine yza ?_
   rfl'
   refine ⟨by walk_at "len",fun r W=>?_⟩
   exact k r _ W yd (vd W)
  ·refine ⟨_,(yj (v9 (yx yh4 (pv 0) j3 (vg _)) (yf (yv (vq ye))) y8) (yj (v9 (xv (uc (yr vy rfl T.A3 (by right) (ya (pv 0) (ya (uu (T:="list") rfl T.Ab (by right)) ye (yb rfl)) (yb rfl))))) (yf (uf rfl T.Fc T.Fd (ya xh ye (yb rfl)))) y8) (yf (yv (yay rfl (vz (pv 0)) (fun C s2 H2 fp pn Ex=>(vf (ylj T) (Y.mono (by decide)) rfl T.Bw.m T.Bw.F.kp T.Bw.B .nil xz (ya (pv 0) ye (yb rfl)))) ⟨rfl,rfl⟩ ju))))),?_⟩
   refine yp (σ':=[some _]) rfl ?_
   rfl'
   refine zw (fun z=>nomatch z) ?_
   rfl'
   refine yab (.lst q) (yg8 _ _) ?_
   rfl'
   refine yj9 ?_
   rfl'
   refine ⟨l,rfl,⟨_,SqL.of q⟩,fun D v=>?_⟩
   refine x6 (K:=K) (xs:=refs g n) (fun i G=>∃ f:Nat->Addr,G D=some (.lst (refs f i))/\(∀ j,j < i->H (f j)=none/\G (f j)=some (.lst ((N j).map V.int))/\f j≠D)/\yz H G)
    ⟨fun _=>0,yd,fun j L=>absurd L (Nat.not_lt_zero j),vd v⟩ (fun i G _ ⟨_,_,_,S⟩=>SqL.of (S _ _ q)) (fun i y G I J z=>?_) (fun G z=>?_)
   ·obtain ⟨f,t,M,S⟩:=z
    obtain ⟨rfl,a1⟩:=wt I
    have d:=(ht i a1).same S
    rfl'
    refine ⟨.ref (g i),_,rfl,.lst d.l,.inr ⟨(N i).map V.int,ydr d.l d.s d.z,fun c G2 u R p=>?_⟩⟩
    have nc:c≠D:=(yc t u).symm
    refine wb (n:=(refs g n).length) (p _ _ t) (vj (by rw [yt]; omega)) J ?_
    refine ⟨upN f i c,?_,fun j L=>?_,fun b o e=>yi (yc e v) (p _ _ (S b o e))⟩
    ·rw [yd,w9,vw]
     congr 3
     exact wx fun j L=>(vp L).symm
    ·by_cases z:j=i
     ·rw [z,vw]
      exact ⟨S.free u,yi nc R,nc⟩
     ·have O:j < i:=by omega
      rw [vp O]
      obtain ⟨g1,g2,g3⟩:=M j O
      exact ⟨g1,yi g3 (p _ _ g2),g3⟩
   ·obtain ⟨f,t,M,S⟩:=z
    rw [yt] at t M
    exact k D f G v t (fun i J=>⟨(M i J).1,(M i J).2.1⟩) S
structure vbl (H H':Hp) (r:Addr) (m:Nat) (tu cl:Nat->Addr) (mx:Nat->Int) (cs:Nat->List Int) (bt:Nat->Int):Prop where
 r0:H r=none
 r:H' r=some (.lst (refs tu m))
 t:∀ j,j < m->H' (tu j)=some (.tup [.int (mx j),.ref (cl j),.int (bt j)])
 c:∀ j,j < m->H (cl j)=none/\H' (cl j)=some (.lst ((cs j).map V.int))
theorem z0 {H:Hp} {lx:V} {N w:Nat} {lt:Nat->Addr} {Q:VK} {E:XK} (h:ypj H lx N w lt tt) (hw:w <= 1000) (hN:N <= 1000)
  (k:∀ r (cx:Nat->Addr) H',H r=none->H' r=some (.lst (refs cx N))->(∀ i,i < N->H (cx i)=none/\H' (cx i)=some (.lst ((tt i).map V.int)))->yz H H'->Q (.ref r) H'):ycj K C [lx] H Q E:=by
 obtain ⟨⟨rfl,rfl⟩ | ⟨d,rfl,e⟩,b⟩:=h
 ·exact .inr (.inl ⟨rfl,fun r H' c f S=>k r (fun _=>0) H' c f (fun i a=>absurd a (Nat.not_lt_zero i)) S⟩)
 ·exact .inr (.inr ⟨d,N,lt,tt,rfl,e,hN,fun i a=>⟨(b i a).l,(b i a).s,Nat.le_trans (b i a).z hw⟩,k⟩)
theorem yla:yo ["foreteller","texts","text","bit"] ["foreteller","texts"] (yh ysx):=xc (by right)
inductive yha (K:W.Frag) (a:Ads) (vs:List V) (H:Hp) (Q:VK) (E':XK):Prop
 | mk (p:Addr) (A:FA) (X:FX) (f:Nat->List Int->Option Slt) (O:Nat->Addr->Prop) (m:Nat) (tl:Addr) (n w:Nat) (tx:Nat->Addr) (tt:Nat->List Int):(vs=[.ref p,.ref tl])->(u7 K a H p A X f O m)->(X.sg=[])->(X.nd=0)->(H tl=some (.lst (refs tx n)))->(tl≠A.el)->((∀ i,i < n->jp H (tx i) (tt i) w/\tx i≠A.el))->(w <= 1000)->(m+6 * (n * (9 * w+1))+20 < 1000000)->(∀ (ml el pl:Addr) (sl:Nat->Addr) (f':Nat->List Int->Option Slt) (O':Nat->Addr->Prop) (m':Nat) (H':Hp),u7 K a H' p (A.re ml el pl sl) (X.run A (zj tt n)) f' O' m'->m' <= m+6 * (n * (9 * w+1))->FGo p A O H H' el O'->(X.run A (zj tt n)).sg=[]->(X.run A (zj tt n)).nd=0->Q .non H')->yha K a vs H Q E'
theorem yue (T:Txt K mg a):wa P w K mg base CX0 7 a.Ip a.Iq ["foreteller","texts"] (yha K a):=by
 refine T.Dr.F.ok yla (fun vs H Q E h=>?_) (fun as A ad s H vs Q E hr h=>?_)
 ·left
 ·obtain ⟨p,c,X,f,O,m,tl,n,w,tx,d,rfl,hF,ah,a7,a0,ag,am,hw,hm,k⟩:=h
  refine ⟨_,(yf (j6 PassesOwn.never rfl (vz (pv 1)) (v6 (i:=2) yla.nd rfl (Or.inl rfl)) (yf (j6 PassesOwn.never rfl (vz (vf (ype T) (hr.mono (by decide)) rfl T.C5.m T.C5.F.kp T.C5.B .nil wf (ya (pv 2) ye (yb rfl)))) (v6 (i:=3) yla.nd rfl (Or.inl rfl)) (yf (ve (xj (pv 0) T.A8 T.C0.m (yhw T) (hr.mono (by decide)) T.C0.B .nil wf (ya (pv 3) ye (yb rfl))))))))),?_⟩
  exists 2,2
  rfl'
  refine ⟨tl,rfl,⟨_,SqL.of a0⟩,uo (K:=K) (a:=tl) (xs:=refs tx n) (fun i σ2 G=>∃ (v1 J:Option V) (ml v Z:Addr) (Y:Nat->Addr) (f':Nat->List Int->Option Slt) (O':Nat->Addr->Prop) (m':Nat),σ2=[some (.ref p),some (.ref tl),v1,J]/\u7 K a G p (c.re ml v Z Y) (X.run c (zj d i)) f' O' m'/\m' <= m+6 * (i * (9 * w+1))/\FGo p c O H G v O'/\(X.run c (zj d i)).sg=[]/\(X.run c (zj d i)).nd=0)
   ⟨_,_,c.ml,c.el,c.pl,c.sl,f,O,m,rfl,hF,Nat.le_add_right _ _,FGo.refl,ah,a7⟩ (by rintro i σ2 G _ ⟨_,_,_,_,_,_,_,_,_,_,_,_,go,_,_⟩; exact SqL.of ((go.kpa hF).lst a0 ag)) ?_ ?_⟩
  ·rintro i y σ2 G hy ⟨v1,J,ml,v,Z,Y,f1,O1,m1,rfl,q,R,r,o,g⟩
   obtain ⟨rfl,a3⟩:=wt hy
   obtain ⟨M,ae⟩:=am i a3
   have t:=(r.kpa hF).lst M.l ae
   have L:=M.s
   have hz:=M.z
   have a4:i * (9 * w+1)+(9 * w+1) <= n * (9 * w+1):=by
    have:(i+1) * (9 * w+1) <= n * (9 * w+1):=Nat.mul_le_mul_right _ a3
    rw [Nat.add_mul,Nat.one_mul] at this
    exact this
   have ap:=jn (d i)
   rfl'
   refine ⟨.ref (tx i),_,rfl,.lst t,.inr ⟨tx i,d i,rfl,t,L,by omega,fun bt G1 a2 u S1=>?_⟩⟩
   have x:=q.same S1
   have a9:bt≠v:=(yc q.el a2).symm
   refine ⟨bt,rfl,⟨_,SqL.of u⟩,uo (K:=K) (a:=bt) (xs:=(dec (d i)).map V.int) (fun j σ2 G'=>∃ (J:Option V) (ml' el' pl':Addr) (sl':Nat->Addr) (f':Nat->List Int->Option Slt) (O':Nat->Addr->Prop),σ2=[some (.ref p),some (.ref tl),some (.ref (tx i)),J]/\u7 K a G' p (c.re ml' el' pl' sl') ((X.run c (zj d i)).run c ((dec (d i)).take j)) f' O' (m1+6 * j)/\FGo p (c.re ml v Z Y) O1 G1 G' el' O'/\TxE (d i) j ((X.run c (zj d i)).run c ((dec (d i)).take j)).sg ((X.run c (zj d i)).run c ((dec (d i)).take j)).nd)
    ⟨_,ml,v,Z,Y,f1,O1,rfl,x,FGo.refl,.inl ⟨Nat.zero_le _,by show yfk _ _ (X.run c (zj d i)).sg (X.run c (zj d i)).nd; rw [o,g]; exact yfk.zero _⟩⟩ (by rintro j σ2 G' _ ⟨_,_,_,_,_,_,_,_,_,go,_⟩; exact SqL.of ((go.kpa x).lst u a9)) ?_ ?_⟩
   ·rintro j y σ3 G' hy ⟨J,I,N,D,U,f2,O2,rfl,e,S,W⟩
    obtain ⟨b,rfl,a6,hb,hj⟩:=jg hy
    obtain ⟨b0,b1⟩:=ya2 _ b a6
    obtain ⟨a1,an⟩:=W.next L hb
    obtain ⟨ab,ao⟩:=a1.nd L
    have ar:=a1.len
    have aq:=e.me
    rfl'
    refine .inr ⟨p,c.re I N D U,_,f2,O2,m1+6 * j,b,rfl,e,b0,b1,by omega,ab,by omega,fun aa ak af a8 f3 O3 G3 aj al ac ai a5 _=>?_⟩
    rfl'
    have n6:=e.n6
    refine ⟨_,aa,ak,af,a8,f3,O3,rfl,?_,S.trans ⟨aj,ac,ai,a5⟩,?_⟩
    ·rw [ya0 hb]
     exact al.up (by show m1+6 * j+c.n <= _; have:c.n <= 6:=n6; omega)
    ·rw [ya0 hb]
     exact an
   ·rintro σ3 G' ⟨J,I,N,D,U,f2,O2,rfl,e,S,W⟩
    rw [List.length_map] at e W
    rw [List.take_length] at e W
    have er:X.run c (zj d (i+1))=(X.run c (zj d i)).run c (dec (d i)):=ygi c _ _ X
    rw [<- er] at e W
    have C:(X.run c (zj d (i+1))).sg=[]/\(X.run c (zj d (i+1))).nd=0:=by
     rcases W with ⟨h,_⟩ | ⟨_,h⟩
     ·omega
     ·exact h
    rfl'
    exact ⟨_,_,I,N,D,U,f2,O2,_,rfl,e,by rw [Nat.add_mul,Nat.one_mul]; omega,r.trans (FGo.ahead S1 S),C.1,C.2⟩
  ·rintro σ2 G ⟨v1,J,ml,v,Z,Y,f1,O1,m1,rfl,q,R,r,o,g⟩
   rw [yt] at q R o g
   rfl'
   exact k ml v Z Y f1 O1 m1 G q R r o g
def yi2 (K:W.Frag) (a:Ads) (H:Hp) (vl vt vx:V) (E:XK) (F:Nat->(Nat->Fin 3)->(Nat->List Int)->List Int->Nat->(Nat->List Int)->Prop):Prop :=
 ∃ nt:String,xp K H vt (.type nt)/\((ynp K H vl/\∀ H',yz H H'->E (.ref a.Ah) none H') \/
  ∃ (L:Addr) (n:Nat) (lk:Nat->Addr) (kd:Nat->Fin 3) (tp:Nat->Addr) (ps:Nat->List Int),vl=.ref L/\H L=some (.lst (refs lk n))/\1 <= n/\n <= 6/\zg H n lk kd tp ps /\
  ((Bad K H vt nt 1000/\∀ H',yz H H'->E (.ref a.Ae) none H') \/
    ∃ (tx:Addr) (ts:List Int),vt=.ref tx/\jp H tx ts 1000 /\
   ((ypi K H vx/\∀ H',yz H H'->E (.ref a.Ae) none H') \/
     ∃ (N w:Nat) (lt:Nat->Addr) (tt:Nat->List Int),ypj H vx N w lt tt/\w <= 1000/\N <= 1000/\6+6 * (N * (9 * w+1))+6 * (9 * ts.length+1)+20 < 1000000/\F n kd ps ts N tt)))
theorem yi2.imp {H:Hp} {vl vt vx:V} {E E':XK} {F F':Nat->(Nat->Fin 3)->(Nat->List Int)->List Int->Nat->(Nat->List Int)->Prop} (h:yi2 K a H vl vt vx E F) (hE:∀ C H',yz H H'->E (.ref C) none H'->E' (.ref C) none H') (hF:∀ n kd ps ts N tt,ts.length <= 1000->F n kd ps ts N tt->F' n kd ps ts N tt):yi2 K a H vl vt vx E' F':=by
 obtain ⟨u,f,h⟩:=h
 refine ⟨u,f,?_⟩
 rcases h with ⟨b,k⟩ | ⟨L,n,j,kd,g,ps,e,x,l,p,q,h⟩
 ·exact .inl ⟨b,fun H' S=>hE _ _ S (k H' S)⟩
 refine .inr ⟨L,n,j,kd,g,ps,e,x,l,p,q,?_⟩
 rcases h with ⟨b,k⟩ | ⟨r,ts,t,c,h⟩
 ·exact .inl ⟨b,fun H' S=>hE _ _ S (k H' S)⟩
 refine .inr ⟨r,ts,t,c,?_⟩
 rcases h with ⟨b,k⟩ | ⟨N,w,d,tt,v,i,o,m,s⟩
 ·exact .inl ⟨b,fun H' S=>hE _ _ S (k H' S)⟩
 exact .inr ⟨N,w,d,tt,v,i,o,m,hF _ _ _ _ _ _ c.z s⟩
theorem yfe:yo ["looks","text","learned","foreteller","bits","rows","bit"] ["looks","text","learned"] (yh ys6):=xc (by right)
def ym2 (K:W.Frag) (a:Ads):Sp:=fun vs H Q E=>∃ (vl vt vx:V),vs=[vl,vt,vx]/\yi2 K a H vl vt vx E fun n kd ps ts N tt=>∀ r (tu cl:Nat->Addr) H',vbl H H' r (dec ts).length tu cl (ylp n kd ps (zj tt N) ts) (fCs n kd ps (zj tt N) ts) (uk ts)->(∀ k,k < (dec ts).length->Ch (ylp n kd ps (zj tt N) ts k)/\WOk n (fX n kd ps (zj tt N) ts k).ws/\COk n (fCs n kd ps (zj tt N) ts k))->(∀ i j,i < (dec ts).length->j < (dec ts).length->i≠j->cl i≠cl j)->yz H H'->Q (.ref r) H'
theorem ynx (T:Txt K mg a):wa P w K mg base (CXe P w) 8 a.Ir a.Is ["looks","text","learned"] (ym2 K a):=by
 refine T.C8.F.okE yfe (fun vs H Q E h=>?_) (fun b7 A aN s H vs Q E hr h=>?_)
 ·left
 ·obtain ⟨vl,vt,vx,rfl,nt,aV,h⟩:=h
  refine yq (vc (i:=3) yfe.nd rfl (Or.inl rfl) (yaz T.Ld (yhz T) (hr.mono (by decide)) rfl T.Lc T.C7.B .nil wd (ya (pv 0) ye (yb rfl)))) ?_
  refine yq (vc (i:=4) yfe.nd rfl (Or.inl rfl) (vf (ype T) (hr.mono (by decide)) rfl T.C5.m T.C5.F.kp T.C5.B .nil wd (ya (pv 1) ye (yb rfl)))) ?_
  refine yq (ve (y6 (yue T) (hr.mono (by decide)) rfl T.Dr.m T.Dr.F.kp T.Dr.B .nil y7 (ya (pv 3) (ya (vf (yfc T) (hr.mono (by decide)) rfl T.At.m T.At.F.kp T.At.B .nil wd (ya (pv 2) ye (yb rfl))) ye (yb rfl)) (yb rfl)))) ?_
  refine yq (vc (i:=5) yfe.nd rfl (Or.inl rfl) (vq ye)) ?_
  refine yq (PS.nox (j6 PassesOwn.never rfl (vz (pv 4)) (v6 (i:=6) yfe.nd rfl (Or.inl rfl)) (yj (ve (yb4 PySem.F.plainAttrs_list PySem.F.slot_list_append PySem.F.type_list_append xg (pv 5) (ya (xo (ya (vk (pv 3) T.A8 T.F0.m (yt9 T) (hr.mono (by decide)) T.F0.B .nil y7) (ya (vk (pv 3) T.A8 T.Be.m (ycz T) (hr.mono (by decide)) T.Be.B .nil y7) (ya (pv 6) ye (yb rfl)) (yb rfl)) (yb rfl))) ye (yb rfl)))) (yf (ve (xj (pv 3) T.A8 T.C0.m (yhw T) (hr.mono (by decide)) T.C0.B .nil wf (ya (pv 6) ye (yb rfl)))))))) ?_
  refine ⟨_,(yf (yv (pv 5))),?_⟩
  exists 3,4
  rfl'
  intro p dp np aU aZ
  have S0:yz H (upd (upd H dp (.own p)) p (.ins a.A0 dp [])):=fun b o e=>by rw [ym (yc e np),ym (yc e aU)]; exact e
  rcases h with ⟨hb,kE⟩ | ⟨L,n,lk,kd,tp,ps,rfl,hL,n1,n6,aS,h⟩
  ·exact ⟨p,dp,vl,rfl,yd,.inl ⟨hb.same S0,fun H' S'=>kE H' (S0.trans S')⟩⟩
  refine ⟨p,dp,.ref L,rfl,yd,.inr ⟨L,n,lk,kd,tp,ps,rfl,S0 _ _ hL,n1,n6,aS.same S0,fun A f O H1 N1 B1=>⟨rfl,?_⟩⟩⟩
  obtain ⟨am,rfl,rfl,rfl,rfl,oO,oB,oM,oL⟩:=N1
  have S1:yz H H1:=fun b o e=>B1 b o (S0 b o e) (yc e np)
  have W:∀ {c:Addr},upd (upd H dp (.own p)) p (.ins a.A0 dp []) c=none->H c=none:=fun h=>S0.free h
  have as:H A.el=none:=W (oL A.el (.inr (.inl rfl)))
  rfl'
  rcases h with ⟨hb,kE⟩ | ⟨tx,q,rfl,a4,h⟩
  ·exact ⟨vt,nt,rfl,ud S1 aV,.inl ⟨hb.same S1,fun H' S'=>kE H' (S1.trans S')⟩⟩
  refine ⟨.ref tx,_,rfl,.lst (S1 _ _ a4.l),.inr ⟨tx,q,rfl,S1 _ _ a4.l,a4.s,a4.z,fun bt H2 aq aa S2=>?_⟩⟩
  have Z:=S1.trans S2
  have J:=am.same S2
  have ah:bt≠A.el:=(yc am.el aq).symm
  rfl'
  rcases h with ⟨hb,kE⟩ | ⟨N,w,lt,tt,ag,au,aQ,aP,k⟩
  ·exact .inl ⟨vx,rfl,hb.same Z,fun H' S'=>kE H' (Z.trans S')⟩
  refine z0 (ag.same Z) au aQ fun aC cx H3 h0 h3 hx S3=>?_
  rfl'
  refine ⟨p,A,FX0 A.n A.kd,f,O,6,aC,N,w,cx,tt,rfl,J.same S3,rfl,rfl,h3,(yc J.el h0).symm,fun i g=>⟨⟨(hx i g).2,(ag.2 i g).s,(ag.2 i g).z⟩,(yc J.el (hx i g).1).symm⟩,au,by omega,fun ml el pl sl f1 O1 m1 H4 a1 aX a6 an ao=>?_⟩
  have a6:=FGo.ahead S3 a6
  have a1:=a1.up aX
  have ar:=(a6.kpa J).lst aa ah
  have b4:=jn q
  have b9:=a4.z
  have al:=a4.s
  generalize hX:(FX0 A.n A.kd).run A (zj tt N)=r at a1 an ao
  generalize hM:6+6 * (N * (9 * w+1))=M at a1 aP
  rfl'
  refine ⟨by walk_at "len",fun R hR0=>?_⟩
  with_reducible first | refine yk hR0 fun H5 S5 hR5=>?_ | refine yn hR0 fun H5 S5 hR5=>?_
  have ap:H2 R=none:=a6.free hR0
  rfl'
  refine ⟨bt,rfl,⟨_,SqL.of (S5 _ _ ar)⟩,uo (K:=K) (a:=bt) (xs:=(dec q).map V.int) (fun j σ2 G=>∃ (v:Option V) (ml el pl:Addr) (sl:Nat->Addr) (f':Nat->List Int->Option Slt) (O':Nat->Addr->Prop) (S Y:Nat->Addr),σ2=[some (.ref L),some (.ref tx),some vx,some (.ref p),some (.ref bt),some (.ref R),v] /\
    u7 K a G p (A.re ml el pl sl) (r.run A ((dec q).take j)) f' O' (M+6 * j)/\FGo p A O H2 G el O'/\TxE q j (r.run A ((dec q).take j)).sg (r.run A ((dec q).take j)).nd/\(G R=some (.lst (refs S j))/\R≠el) /\
    (∀ i,i < j->G (S i)=some (.tup [.int (ylw (r.run A ((dec q).take i)).ws ((r.run A ((dec q).take i)).cs A)),.ref (Y i),.int (uk q i)])/\G (Y i)=some (.lst (((r.run A ((dec q).take i)).cs A).map V.int))/\Y i≠el/\H2 (Y i)=none/\Y i≠R) /\
    (∀ i,i < j->WOk A.n (r.run A ((dec q).take i)).ws/\COk A.n ((r.run A ((dec q).take i)).cs A))/\(∀ i l,i < j->l < j->i≠l->Y i≠Y l))
   ⟨_,ml,el,pl,sl,f1,O1,fun _=>0,fun _=>0,rfl,a1.same S5,a6.same S5,.inl ⟨Nat.zero_le _,by show yfk _ _ r.sg r.nd; rw [an,ao]; exact yfk.zero _⟩,⟨hR5,(yc a1.el hR0).symm⟩,fun i g=>absurd g (Nat.not_lt_zero i),fun i g=>absurd g (Nat.not_lt_zero i),fun i _ g=>absurd g (Nat.not_lt_zero i)⟩
   (by rintro j σ2 G _ ⟨_,_,_,_,_,_,_,_,_,_,_,go,_⟩; exact SqL.of ((go.kpa J).lst aa ah)) ?_ ?_⟩
  ·rintro j y σ2 G hy ⟨v,a3,D,a0,a2,f2,O2,S,Y,rfl,hF,go,hT,⟨hR,nR⟩,d,U,X⟩
   obtain ⟨b,rfl,aD,hb,hj⟩:=jg hy
   obtain ⟨b0,b1⟩:=ya2 _ b aD
   obtain ⟨ak,aW⟩:=hT.next al hb
   obtain ⟨aM,b2⟩:=ak.nd al
   have b6:=ak.len
   have aL:uk q j=b:=by unfold uk; rw [hb]; rfl
   have aO:=hF.me
   rfl'
   refine yb2 hR ?_
   rfl'
   refine ⟨p,A.re a3 D a0 a2,_,f2,O2,_,rfl,hF,fun G1 T1=>?_⟩
   have aY:=T1 _ _ aO
   rfl'
   refine ⟨p,A.re a3 D a0 a2,_,f2,O2,_,rfl,hF.same T1,fun c G2 a7 aJ T2=>?_⟩
   rfl'
   refine ⟨by walk_at "len",fun t ht0=>?_⟩
   with_reducible first | refine yk ht0 fun G3 T3 ht3=>?_ | refine yn ht0 fun G3 T3 ht3=>?_
   have u:=T1.trans (T2.trans T3)
   rfl'
   refine ul (u _ _ hR) (vj (by rw [yt]; omega)) ?_
   have az:=hF.same u
   have a8:=u _ _ hR
   have I:u7 K a (upd G3 R (.lst (refs S j++[V.ref t]))) p (A.re a3 D a0 a2) (r.run A ((dec q).take j)) f2 O2 (M+6 * j):=az.app a8 (az.notR a8 (fun i g=>⟨_,u _ _ (d i g).1,rfl⟩) nR)
   have ac:FGo p A O H2 (upd G3 R (.lst (refs S j++[V.ref t]))) D O2:=(go.same u).app ap
   have ax:c≠R:=(yc (T1 _ _ hR) a7).symm
   have aA:c≠D:=(yc (hF.same T1).el a7).symm
   have ae:upd G3 R (.lst (refs S j++[V.ref t])) c=some (.lst (((r.run A ((dec q).take j)).cs A).map V.int)):=yi ax (T3 _ _ aJ)
   have ad:upd G3 R (.lst (refs S j++[V.ref t])) t=some (.tup [.int (ylw (r.run A ((dec q).take j)).ws ((r.run A ((dec q).take j)).cs A)),.ref c,.int b]):=yi (x9 ht3 a8 (by intro z; cases z)) ht3
   have af:upd G3 R (.lst (refs S j++[V.ref t])) R=some (.lst (refs (upN S j t) (j+1))):=by
    rw [yd,w9,vw]
    congr 3
    exact wx fun i g=>(vp g).symm
   have yx6:∀ i,i < j->upd G3 R (.lst (refs S j++[V.ref t])) (S i)=some (.tup [.int (ylw (r.run A ((dec q).take i)).ws ((r.run A ((dec q).take i)).cs A)),.ref (Y i),.int (uk q i)])/\upd G3 R (.lst (refs S j++[V.ref t])) (Y i)=some (.lst (((r.run A ((dec q).take i)).cs A).map V.int)):=fun i g=>⟨yi (x9 (u _ _ (d i g).1) a8 (by intro z; cases z)) (u _ _ (d i g).1),yi (d i g).2.2.2.2 (u _ _ (d i g).2.1)⟩
   have a9:H2 c=none:=go.free (T1.free a7)
   have a5:∀ i,i < j->Y i≠c:=fun i g=>yc (T1 _ _ (d i g).2.1) a7
   have aj:=hF.wok
   have aw:=hF.cok
   generalize upd G3 R (.lst (refs S j++[V.ref t]))=G4 at I ac ae ad af yx6 ⊢
   have b5:=I.me
   rfl'
   have b3:=hF.n6
   refine .inr ⟨p,A.re a3 D a0 a2,_,f2,O2,M+6 * j,b,rfl,I,b0,b1,by omega,aM,by omega,fun aI ay aR aG f3 O3 G5 aK aT aF aB aH _=>?_⟩
   have av:FGo p (A.re a3 D a0 a2) O2 G4 G5 ay O3:=⟨aK,aF,aB,aH⟩
   have x:=av.kpa I
   have ab:=I.el
   rfl'
   refine ⟨_,aI,ay,aR,aG,f3,O3,upN S j t,upN Y j c,rfl,?_,ac.trans av,?_,⟨(x _ _ af rfl nR).2,(x _ _ af rfl nR).1⟩,fun i g=>?_,fun i g=>?_,fun i l g hl aE=>?_⟩
   ·rw [ya0 hb]
    exact aT.up (by show M+6 * j+A.n <= _; omega)
   ·rw [ya0 hb]
    exact aW
   ·by_cases z:i=j
    ·rw [z,vw,vw,aL]
     exact ⟨(x _ _ ad rfl (x9 ad ab (by intro z; cases z))).2,(x _ _ ae rfl aA).2,(x _ _ ae rfl aA).1,a9,ax⟩
    ·have C:i < j:=by omega
     rw [vp C,vp C]
     obtain ⟨o1,o2⟩:=yx6 i C
     obtain ⟨_,_,r3,r4,r5⟩:=d i C
     exact ⟨(x _ _ o1 rfl (x9 o1 ab (by intro z; cases z))).2,(x _ _ o2 rfl r3).2,(x _ _ o2 rfl r3).1,r4,r5⟩
   ·by_cases z:i=j
    ·rw [z]
     exact ⟨aj,aw⟩
    ·exact U i (by omega)
   ·by_cases z:i=j
    ·have ai:l < j:=by omega
     rw [z,vw,vp ai]
     exact (a5 l ai).symm
    ·have C:i < j:=by omega
     rw [vp C]
     by_cases z2:l=j
     ·rw [z2,vw]
      exact a5 i C
     ·rw [vp (by omega)]
      exact X i l C (by omega) aE
  ·rintro σ2 G ⟨v,a3,D,a0,a2,f2,O2,S,Y,rfl,hF,go,hT,⟨hR,nR⟩,d,U,X⟩
   rw [List.length_map] at d U X
   rw [List.length_map] at hR
   have eX:∀ i,fX A.n A.kd A.ps (zj tt N) q i=r.run A ((dec q).take i):=fun i=>by
    unfold fX
    rw [<- yge,<- yge,hX]
   rfl'
   refine k R S Y G ⟨Z.free ap,hR,fun i g=>?_,fun i g=>⟨Z.free (d i g).2.2.2.1,?_⟩⟩ (fun i g=>⟨?_,?_,?_⟩) X ?_
   ·rw [(d i g).1]
    unfold ylp
    rw [eX]
    rfl
   ·rw [(d i g).2.1]
    unfold fCs
    rw [eX]
    rfl
   ·unfold ylp
    rw [eX]
    exact yt5 n1 (U i g).1 (U i g).2
   ·rw [eX]
    exact (U i g).1
   ·unfold fCs
    rw [eX]
    exact (U i g).2
   ·intro c o e
    refine go.fr c o (Z _ _ e) (fun z=>?_) (fun z=>?_) (fun z=>?_) (fun i g w'=>?_)
    ·rw [z,np] at e
     cases e
    ·rw [z,W oM] at e
     cases e
    ·rw [z,as] at e
     cases e
    ·rw [W (oO i c g w')] at e
     cases e
theorem yvv:yo ["looks","text","learned"] ["looks","text","learned"] (yh yiy):=xc (by right)
structure vbi (H H':Hp) (r:Addr) (m:Nat) (tu:Nat->Addr) (mx bt:Nat->Int):Prop where
 r0:H r=none
 r:H' r=some (.lst (refs tu m))
 t:∀ j,j < m->H' (tu j)=some (.tup [.int (mx j),.int (bt j)])
def yjq (K:W.Frag) (a:Ads):Sp:=fun vs H Q E=>∃ (vl vt vx:V),vs=[vl,vt,vx]/\yi2 K a H vl vt vx E fun n kd ps ts N tt=>∀ r (tu:Nat->Addr) H',vbi H H' r (dec ts).length tu (ylp n kd ps (zj tt N) ts) (uk ts)->(∀ k,k < (dec ts).length->Ch (ylp n kd ps (zj tt N) ts k)/\WOk n (fX n kd ps (zj tt N) ts k).ws/\COk n (fCs n kd ps (zj tt N) ts k))->yz H H'->Q (.ref r) H'
theorem yk4 (T:Txt K mg a):wa P w K mg base (CXe P w) 9 a.Cn a.Iu ["looks","text","learned"] (yjq K a):=by
 refine T.Jn.okE yvv (fun vs H Q E h=>?_) (fun a2 A R s H vs Q E hr h=>?_)
 ·left
 ·obtain ⟨W,M,X,rfl,h⟩:=h
  refine ⟨_,(yf (yv (ya5 (js:=[]) (ys:=[]) (xs:=["chance","chances","bit"]) (g:=ypf K 3 (xu (vn 0) (xu (vn 1) (xu (vn 2) yi1)))) rfl (vz (vf (ynx T) (hr.mono (by decide)) rfl T.C8.m T.C8.F.kp T.C8.B .nil wd (ya (pv 0) (ya (pv 1) (ya (pv 2) ye (yb rfl)) (yb rfl)) (yb rfl)))) (fun C s2 H2 fp=>(xo (ya (pv 0) (ya (pv 2) ye (yb rfl)) (yb rfl)))) rfl (fun C s2 H2 fp=>yas rfl (we (v6 (i:=0) (show List.Nodup ((["chance","chances","bit"]:List Str)++([]:List Str)) by right) rfl (Or.inl rfl)) (we (v6 (i:=1) (show List.Nodup ((["chance","chances","bit"]:List Str)++([]:List Str)) by right) rfl (Or.inl rfl)) (we (v6 (i:=2) (show List.Nodup ((["chance","chances","bit"]:List Str)++([]:List Str)) by right) rfl (Or.inl rfl)) zq)))) rfl (hyc:=yw) (hrel:=yw)))),?_⟩
  exists 3,0
  rfl'
  refine ⟨W,M,X,rfl,h.imp (fun C H' S e=>e) fun n kd ps d N tt hz k r0 I cl H1 c p _ S1=>?_⟩
  have a0:=jn d
  generalize ylp n kd ps (zj tt N) d=L at c p k
  generalize fCs n kd ps (zj tt N) d=cs at c p k
  refine ⟨r0,rfl,⟨_,SqL.of c.r⟩,fun D U=>?_⟩
  refine ycl (K:=K) (xs:=refs I (dec d).length) (fun i G=>∃ q:Nat->Addr,G D=some (.lst (refs q i))/\(∀ j,j < i->G (q j)=some (.tup [.int (L j),.int (uk d j)]))/\yz H1 G) ⟨fun _=>0,yd,fun j J=>absurd J (Nat.not_lt_zero j),vd U⟩ (fun i G _ ⟨_,_,_,S⟩=>SqL.of (S _ _ c.r)) (fun i x G a1 hx hi z v=>?_) (fun G z=>?_)
  ·obtain ⟨q,u,y,S⟩:=z
   obtain ⟨rfl,Y⟩:=wt hx
   obtain ⟨v1,v2,v3,rfl⟩:=yho v
   refine yat (SqT.of (S _ _ (c.t i Y))) rfl ?_
   show xu (vn 0) (xu (vn 1) (xu (vn 2) yi1)) [V.int (L i),V.ref (cl i),V.int (uk d i)] (v1 :: v2 :: v3 :: wo [] [some W,some M,some X]) G _
   rfl'
   refine ⟨⟨[some (.int (L i)),some (.ref (cl i)),some (.int (uk d i))],rfl,rfl⟩,?_⟩
   rfl'
   refine ⟨by walk_at "len",fun t f=>?_⟩
   have O:t≠D:=(yc u f).symm
   have Z:=ww (o':=HO.tup [V.int (L i),V.int (uk d i)]) f u
   refine wb (n:=(refs I (dec d).length).length) Z (vj (by rw [yt]; omega)) hi ?_
   refine ⟨upN q i t,?_,fun j J=>?_,fun b o e=>yi (yc e U) (ww f (S b o e))⟩
   ·rw [yd,w9,vw]
    congr 3
    exact wx fun j J=>(vp J).symm
   ·by_cases z:j=i
    ·rw [z,vw]
     exact yi O yd
    ·have l:j < i:=by omega
     rw [vp l]
     exact yi (x9 (y j l) u (by intro z; cases z)) (ww f (y j l))
  ·obtain ⟨q,u,y,S⟩:=z
   rw [yt] at u y
   exact k D q G ⟨S1.free U,u,y⟩ p (S1.trans S)
theorem ywb:yo ["looks","text","learned"] ["looks","text","learned"] (yh yiv):=xc (by right)
def yl3 (K:W.Frag) (a:Ads):Sp:=fun vs H Q E=>∃ (vl vt vx:V),vs=[vl,vt,vx]/\yi2 K a H vl vt vx E fun n kd ps ts N tt=>∀ r (cl:Nat->Addr) H',H r=none->H' r=some (.lst (refs cl (dec ts).length))->(∀ j,j < (dec ts).length->H (cl j)=none/\H' (cl j)=some (.lst ((fCs n kd ps (zj tt N) ts j).map V.int))/\cl j≠r)->(∀ k,k < (dec ts).length->Ch (ylp n kd ps (zj tt N) ts k)/\WOk n (fX n kd ps (zj tt N) ts k).ws/\COk n (fCs n kd ps (zj tt N) ts k))->(∀ i j,i < (dec ts).length->j < (dec ts).length->i≠j->cl i≠cl j)->yz H H'->Q (.ref r) H'
theorem yww (T:Txt K mg a):wa P w K mg base (CXe P w) 9 a.Co a.Iw ["looks","text","learned"] (yl3 K a):=by
 refine T.Lm.okE ywb (fun vs H Q E h=>?_) (fun a2 A L s H vs Q E hr h=>?_)
 ·left
 ·obtain ⟨M,J,O,rfl,h⟩:=h
  refine ⟨_,(yf (yv (ya5 (js:=[]) (ys:=[]) (xs:=["chance","chances","bit"]) (g:=ypf K 3 (xu (vn 0) (xu (vn 1) (xu (vn 2) yi1)))) rfl (vz (vf (ynx T) (hr.mono (by decide)) rfl T.C8.m T.C8.F.kp T.C8.B .nil wd (ya (pv 0) (ya (pv 1) (ya (pv 2) ye (yb rfl)) (yb rfl)) (yb rfl)))) (fun C s2 H2 fp=>(pv 1)) rfl (fun C s2 H2 fp=>yas rfl (we (v6 (i:=0) (show List.Nodup ((["chance","chances","bit"]:List Str)++([]:List Str)) by right) rfl (Or.inl rfl)) (we (v6 (i:=1) (show List.Nodup ((["chance","chances","bit"]:List Str)++([]:List Str)) by right) rfl (Or.inl rfl)) (we (v6 (i:=2) (show List.Nodup ((["chance","chances","bit"]:List Str)++([]:List Str)) by right) rfl (Or.inl rfl)) zq)))) rfl (hyc:=yw) (hrel:=yw)))),?_⟩
  exists 3,0
  rfl'
  refine ⟨M,J,O,rfl,h.imp (fun C H' S e=>e) fun n Z X f N W hz k r0 u I H1 d l q Y=>?_⟩
  have a0:=jn f
  generalize ylp n Z X (zj W N) f=mx at d l k
  generalize fCs n Z X (zj W N) f=cs at d l k
  refine ⟨r0,rfl,⟨_,SqL.of d.r⟩,fun D v=>?_⟩
  refine ycl (K:=K) (xs:=refs u (dec f).length) (fun i G=>G D=some (.lst (refs I i))/\yz H1 G) ⟨yd,vd v⟩ (fun i G _ ⟨_,S⟩=>SqL.of (S _ _ d.r)) (fun i x G a1 hx hi z p=>?_) (fun G z=>?_)
  ·obtain ⟨y,S⟩:=z
   obtain ⟨rfl,R⟩:=wt hx
   obtain ⟨v1,v2,v3,rfl⟩:=yho p
   refine yat (SqT.of (S _ _ (d.t i R))) rfl ?_
   show xu (vn 0) (xu (vn 1) (xu (vn 2) yi1)) [V.int (mx i),V.ref (I i),V.int (uk f i)] (v1 :: v2 :: v3 :: wo [] [some M,some J,some O]) G _
   rfl'
   refine ⟨⟨[some (.int (mx i)),some (.ref (I i)),some (.int (uk f i))],rfl,rfl⟩,?_⟩
   rfl'
   refine wb (n:=(refs u (dec f).length).length) y (vj (by rw [yt]; omega)) hi ?_
   refine ⟨?_,fun b o e=>yi (yc e v) (S b o e)⟩
   rw [yd,w9]
  ·obtain ⟨y,S⟩:=z
   rw [yt] at y
   exact k D I G (Y.free v) y (fun j U=>⟨(d.c j U).1,S _ _ (d.c j U).2,yc (d.c j U).2 v⟩) l q (Y.trans S)
theorem ycw:yo ["looks","text","learned","steps","given","chance","bit"] ["looks","text","learned"] (yh yiw):=xc (by right)
def ygo (mx bt:Nat->Int):Nat->Int
 | 0=>1
 | j+1=>ygo mx bt j * giv (mx j) (bt j)
theorem yhh {mx bt:Nat->Int}:∀ (m:Nat),(∀ j,j < m->Ch (mx j))->1 <= ygo mx bt m/\ygo mx bt m <= 16777216 ^ m
 | 0,_=>⟨Int.le_refl 1,by rw [Int.pow_zero]; exact Int.le_refl 1⟩
 | m+1,h=>by
  obtain ⟨e,a⟩:=yhh (bt:=bt) m fun j f=>h j (by omega)
  obtain ⟨c,d⟩:=h m (by omega)
  have g1:=ykz (b:=bt m) c d
  have g2:=yo9 (b:=bt m) c d
  show 1 <= ygo mx bt m * giv (mx m) (bt m)/\ygo mx bt m * giv (mx m) (bt m) <= 16777216 ^ (m+1)
  refine ⟨?_,?_⟩
  ·have:=Int.mul_le_mul e (show 1 <= giv (mx m) (bt m) by omega) (by omega) (by omega)
   simpa using this
  ·rw [Int.pow_succ]
   exact Int.mul_le_mul a (by omega) (by omega) (Int.le_trans (by omega) a)
theorem yif {x:Int} {m:Nat} (h1:1 <= x) (h2:x <= 16777216 ^ m):x.natAbs < 2 ^ (24 * m+1):=by
 have e:(16777216:Int) ^ m=((2 ^ (24 * m):Nat):Int):=by
  rw [Nat.pow_mul]
  simp
 rw [e] at h2
 have:x.natAbs <= 2 ^ (24 * m):=by omega
 exact Nat.lt_of_le_of_lt this (Nat.pow_lt_pow_right (by decide) (by omega))
def yyy (m:Nat) (G:Int):Int:=24 * (m:Int)+1 - (Builtin.Int.intBits G:Nat)
def yl6 (K:W.Frag) (a:Ads):Sp:=fun vs H Q E=>∃ (vl vt vx:V),vs=[vl,vt,vx]/\yi2 K a H vl vt vx E fun n kd ps ts N tt=>∀ H',yz H H'->Q (.int (yyy (dec ts).length (ygo (ylp n kd ps (zj tt N) ts) (uk ts) (dec ts).length))) H'
theorem yw1 (T:Txt K mg a):wa P w K mg base (CXe P w) 10 a.Cp a.Iy ["looks","text","learned"] (yl6 K a):=by
 refine T.Ln.okE ycw (fun vs H Q E h=>?_) (fun a0 A p s H vs Q E J h=>?_)
 ·left
 ·obtain ⟨u,o,v,rfl,h⟩:=h
  refine yq (vc (i:=3) ycw.nd rfl (Or.inl rfl) (vf (yk4 T) (J.mono (by decide)) rfl T.Ka T.Jn.kp T.K9 .nil wd (ya (pv 0) (ya (pv 1) (ya (pv 2) ye (yb rfl)) (yb rfl)) (yb rfl)))) ?_
  refine yq (vc (i:=4) ycw.nd rfl (Or.inl rfl) yg) ?_
  refine yq (PS.nox (j6 PassesOwn.never rfl (vz (pv 3)) (yas rfl (we (v6 (i:=5) ycw.nd rfl (Or.inl rfl)) (we (v6 (i:=6) ycw.nd rfl (Or.inl rfl)) zq))) (yf (vc (i:=4) ycw.nd rfl (Or.inl rfl) (yu yrr (pv 4) (vf (yxw T) (J.mono (by decide)) rfl T.E5.m T.E5.F.kp T.E5.B .nil wf (ya (pv 5) (ya (pv 6) ye (yb rfl)) (yb rfl)))))))) ?_
  refine ⟨_,(yf (yv (yu zv (yu w6 (yu u4 (v7 rfl T.K0) (yr y9 rfl T.As (by right) (ya (pv 3) ye (yb rfl)))) yg) (yn6 PySem.F.plainAttrs_int PySem.F.slot_int_bit_length PySem.F.type_int_bit_length yke (pv 4))))),?_⟩
  exists 3,4
  rfl'
  refine ⟨u,o,v,rfl,h.imp (fun C H' S e=>e) fun n kd X c N U hz k r L O l f Z=>?_⟩
  have W:=jn c
  generalize ylp n kd X (zj U N) c=mx at l f k
  rfl'
  refine ⟨r,rfl,⟨_,SqL.of l.r⟩,uo (K:=K) (a:=r) (xs:=refs L (dec c).length) (fun i σ2 G=>O=G/\∃ q D:Option V,σ2=[some u,some o,some v,some (.ref r),some (.int (ygo mx (uk c) i)),q,D]) ⟨rfl,_,_,rfl⟩ (fun i σ2 G _ ⟨e,_⟩=>e ▸ SqL.of l.r) ?_ ?_⟩
  ·rintro i y σ2 G R ⟨rfl,q,D,rfl⟩
   obtain ⟨rfl,d⟩:=wt R
   have g:=(f i d).1
   obtain ⟨Y,b1⟩:=ymm c i d
   have x:=yn7 g
   have I:=yj8 Y b1
   obtain ⟨p1,p2⟩:=yhh (mx:=mx) (bt:=uk c) i fun j hj=>(f j (by omega)).1
   refine yat (SqT.of (l.t i d)) rfl ?_
   rfl'
   refine ⟨.int (mx i),_,.int (uk c i),_,rfl,.int _,.int _,fun z=>(by rw [x] at z; cases z),fun _ z=>(by rw [I] at z; cases z),fun c' b' M eb _ _=>?_⟩
   cases M
   cases eb
   have g1:=ykz (b:=uk c i) g.1 g.2
   have g2:=yo9 (b:=uk c i) g.1 g.2
   rfl'
   refine yuw (24 * i+25) ?_ ?_ ?_ ?_
   ·exact Nat.lt_of_lt_of_le (yif p1 p2) (Nat.pow_le_pow_right (by decide) (by omega))
   ·have:(giv (mx i) (uk c i)).natAbs < 2 ^ 25:=by omega
    exact Nat.lt_of_lt_of_le this (Nat.pow_le_pow_right (by decide) (by omega))
   ·omega
   rfl'
   exact ⟨rfl,_,_,rfl⟩
  ·rintro σ2 G ⟨rfl,q,D,rfl⟩
   rw [yt]
   rfl'
   refine j9 (SqL.of l.r) ?_
   rw [yt]
   rfl'
   exact k _ Z
theorem yus:yo ["_law_script","_law_k"] ["_law_script","_law_k"] (yh yr7):=xc (by right)
inductive yce (K:W.Frag) (vs:List V) (H:Hp) (Q:VK) (E':XK):Prop
 | mk (l:Addr) (ns:List Int) (j:Nat):(vs=[.ref l,.int j])->(SqL K H l (ns.map V.int))->(∀ n:Int,Q (.int n) H)->yce K vs H Q E'
theorem jh (T:Txt K mg a):wa P w K mg base CX0 1 a.J0 a.J1 ["_law_script","_law_k"] (yce K):=by
 refine T.Ac.F.ok yus (fun e H Q E h=>?_) (fun g A b s H e Q E m h=>?_)
 ·left
 ·obtain ⟨l,c,j,rfl,d,k⟩:=h
  refine ⟨_,(yj (v9 (yx ylk (pv 1) (yr y9 rfl T.As (by right) (ya (pv 0) ye (yb rfl))) (vg _)) (yf (yv (yu wg (uj wy (pv 0) (pv 1) (fun _ _=>rfl)) (yu (yrc 1000000000000000000000000000000) yg yg)))) y8) (yf (yv yg))),?_⟩
  exists 2,0
  rfl'
  refine j9 d ?_
  rw [List.length_map]
  rfl'
  refine zx (fun f=>?_) (fun f=>?_)
  ·have i:j < c.length:=by omega
   rfl'
   refine zh (v:=V.int c[j]) d (xx (by rw [List.getElem?_map,List.getElem?_eq_getElem i]; rfl)) ?_
   rfl'
   exact k _
  ·rfl'
   exact k _
theorem yhr:yo ["_law_cell","_law_bits","_law_places"] ["_law_cell"] (yh ysc):=xc (by right)
inductive yhf  (vs:List V) (H:Hp) (Q:VK) (E':XK):Prop
 | mk (c:Int):(vs=[.int c])->(∀ lk (kd:Fin 3) (tp:Addr) (ps:List Int) H',LkG H' (.ref lk) kd tp ps->yz H H'->Q (.ref lk) H')->yhf vs H Q E'
theorem yt3 (T:Txt K mg a):wa P w K mg base CX0 1 a.J3 a.J4 ["_law_cell"] yhf:=by
 refine T.Ds.F.ok yhr (fun vs H Q E h=>?_) (fun Z A t s H vs Q E hr h=>?_)
 ·left
 ·obtain ⟨c,rfl,k⟩:=h
  refine ⟨_,(yj (vc (i:=1) yhr.nd rfl (Or.inr rfl) (yu wg (yu vh (pv 0) yg) yg)) (yj (ymq (i:=2) (js:=[1]) (ys:=["_law_bits"]) yhr.nd rfl rfl rfl (ybp rfl T.Cb (ya yg ye (yb rfl))) (fun C s2 H2 W=>(yx ub (yu yvk (yu yny (pv 1) (pv 0)) yg) yg (vg _))) (fun C s2 H2 W=>(yu w6 (pv 0) yg)) rfl rfl (hyc:=(all_cons rfl yw)) (hrel:=(all_cons rfl yw))) (yj (ybx (v9 (yx ub (yu wg (yu vh (pv 0) yg) yg) yg (vg _)) (yf (vc (i:=2) yhr.nd rfl (Or.inl rfl) (jx ydy (pv 2) ybt (ybs yg)))) y8)) (yf (yv (xo (ya (uj wy (vq (ya xh (ya xh (ya xh ye (yb rfl)) (yb rfl)) (yb rfl))) (yu wg (pv 0) yg) (fun _ _=>rfl)) (ya (vm xq rfl T.Ba (by right) (ya (jx ydy (pv 2) ybt (ybs yg)) ye (yb rfl))) ye (yb rfl)) (yb rfl)))))))),?_⟩
  exists 1,2
  rfl'
  generalize c / 3 % 256=B
  refine ⟨_,rfl,by omega,by omega,fun D M=>?_⟩
  refine yf3 (n:=8) (fun i G=>∃ d:List Int,G D=some (.lst (d.map V.int))/\(∀ p∈d,1 <= p/\p <= (i:Int))/\d.Pairwise (· < ·)/\d.length <= i/\yz H G) ⟨[],yd,fun _ z=>(nomatch z),List.Pairwise.nil,Nat.le_refl _,vd M⟩ (fun i G N z=>?_) (fun G z=>?_)
  ·obtain ⟨d,m,j,r,h4,S⟩:=z
   rfl'
   refine i_I (by omega) ?_
   rfl'
   refine zx (fun L=>?_) (fun L=>?_)
   ·rfl'
    refine wb (n:=8) m (vj (by rw [List.length_map]; omega)) N ?_
    refine ⟨d++[0+(i:Int)+1],by rw [yd,List.map_append]; rfl,fun p g=>?_,?_,by rw [List.length_append]; show _+1 <= _; omega,fun b o e=>yi (yc e M) (S b o e)⟩
    ·rcases List.mem_append.mp g with h | h
     ·have:=j p h
      omega
     ·rw [List.mem_singleton.mp h]
      omega
    ·refine List.pairwise_append.mpr ⟨r,List.pairwise_singleton _ _,fun x hx y U=>?_⟩
     rw [List.mem_singleton.mp U]
     have:=j x hx
     omega
   ·exact yjk (n:=8) N ⟨d,m,fun p g=>by have:=j p g; omega,r,by omega,S⟩
  ·obtain ⟨d,m,j,r,h4,S⟩:=z
   rfl'
   refine ygn (fun σ' I=>∃ (q:Addr) (f:List Int),σ'=[some (.int c),some (.int B),some (.ref q)]/\I q=some (.lst (f.map V.int))/\(∀ p∈f,1 <= p/\p <= 8)/\f.Pairwise (· < ·)/\yz H I) ?_ ?_
   ·rfl'
    refine zx (fun L=>?_) (fun L=>?_)
    ·rfl'
     refine ym7 (SqL.of m) fun q J=>?_
     have v:yi0 (d.map V.int) none (some 1)=(d.take 1).map V.int:=by rw [List.map_take]; exact yax 1
     rw [v]
     rfl'
     exact ⟨q,d.take 1,rfl,yd,fun p g=>j p (List.mem_of_mem_take g),r.take,S.trans (vd J)⟩
    ·rfl'
     exact ⟨D,d,rfl,m,j,r,S⟩
   ·rintro σ' I ⟨q,f,rfl,g1,g2,g3,X⟩
    rfl'
    refine ⟨by walk_at "len",fun q2 hq2=>?_⟩
    with_reducible first | refine yk hq2 fun H3 S3 hq3=>?_ | refine yn hq2 fun H3 S3 hq3=>?_
    rfl'
    obtain ⟨Y,hk⟩:=yp8 c
    refine zh (SqL.of hq3) hk ?_
    rfl'
    refine ym7 (SqL.of (S3 _ _ g1)) fun u hu=>?_
    have v:yi0 (f.map V.int) none (some 4)=(f.take 4).map V.int:=by rw [List.map_take]; exact yax 4
    rw [v]
    with_reducible first | refine yk hu fun H4 S4 hu4=>?_ | refine yn hu fun H4 S4 hu4=>?_
    refine ⟨u,_,rfl,.inl ⟨SqL.of hu4,fun R htp=>?_⟩⟩
    with_reducible first | refine yk htp fun H5 S5 htp5=>?_ | refine yn htp fun H5 S5 htp5=>?_
    rfl'
    refine ⟨by walk_at "len",fun O l=>?_⟩
    exact k O Y R (f.take 4) _ ⟨O,rfl,yd,ww l htp5,yjw (by rw [List.length_take]; omega) (fun p g=>g2 p (List.mem_of_mem_take g)) g3.take⟩ (X.trans (S3.trans (S4.trans (S5.trans (vd l)))))
theorem yk5:yo ["_law_script","_law_many"] ["_law_script"] (yh yr1):=xc (by right)
inductive ye7 (K:W.Frag) (vs:List V) (H:Hp) (Q:VK) (E':XK):Prop
 | mk (l:Addr) (ns:List Int):(vs=[.ref l])->(SqL K H l (ns.map V.int))->(∀ r (n:Nat) (lk:Nat->Addr) (kd:Nat->Fin 3) (tp:Nat->Addr) (ps:Nat->List Int) H',H r=none->H' r=some (.lst (refs lk n))->1 <= n->n <= 6->zg H' n lk kd tp ps->yz H H'->Q (.ref r) H')->ye7 K vs H Q E'
theorem ywi (T:Txt K mg a):wa P w K mg base CX0 2 a.J5 a.J6 ["_law_script"] (ye7 K):=by
 refine T.Dt.F.ok yk5 (fun vs H Q E h=>?_) (fun a0 A y s H vs Q E x h=>?_)
 ·left
 ·obtain ⟨l,u,rfl,R,k⟩:=h
  refine ⟨_,(yj (vc (i:=1) yk5.nd rfl (Or.inl rfl) (yu w6 yg (yu wg (y6 (jh T) (x.mono (by decide)) rfl T.Ac.m T.Ac.F.kp T.Ac.B .nil y7 (ya (pv 0) (ya yg ye (yb rfl)) (yb rfl))) yg))) (yj (ybx (v9 (yx ub (yu wg (yu vh (y6 (jh T) (x.mono (by decide)) rfl T.Ac.m T.Ac.F.kp T.Ac.B .nil y7 (ya (pv 0) (ya yg ye (yb rfl)) (yb rfl))) yg) yg) yg (vg _)) (yf (vc (i:=1) yk5.nd rfl (Or.inl rfl) (yu w6 (pv 1) yg))) y8)) (yf (yv (wu (js:=[0]) (ys:=["_law_script"]) rfl (ybp rfl T.Cb (ya (pv 1) ye (yb rfl))) (fun C s2 H2 fp=>(y6 (yt3 T) (x.mono (by decide)) rfl T.Ds.m T.Ds.F.kp T.Ds.B .nil y7 (ya (y6 (jh T) (x.mono (by decide)) rfl T.Ac.m T.Ac.F.kp T.Ac.B .nil y7 (ya (pv 1) (ya (yu w6 yg (pv 0)) ye (yb rfl)) (yb rfl))) ye (yb rfl)))) rfl rfl (hyc:=(all_cons rfl yw)) (hrel:=(all_cons rfl yw))))))),?_⟩
  exists 1,1
  rfl'
  refine ⟨l,u,0,rfl,R,fun W=>?_⟩
  rfl'
  refine ygn (fun σ' X=>H=X/\∃ n:Nat,σ'=[some (.ref l),some (.int n)]/\1 <= n/\n <= 6) ?_ ?_
  ·rfl'
   refine ⟨l,u,0,rfl,R,fun c1=>?_⟩
   rfl'
   refine zx (fun hb=>?_) (fun hb=>?_)
   ·rfl'
    exact ⟨rfl,(1+W % 3+3).toNat,by rw [Int.toNat_of_nonneg (by omega)],by omega,by omega⟩
   ·rfl'
    exact ⟨rfl,(1+W % 3).toNat,by rw [Int.toNat_of_nonneg (by omega)],by omega,by omega⟩
  ·rintro σ' X ⟨rfl,n,rfl,Y,n6⟩
   rfl'
   refine ⟨_,rfl,by omega,by omega,fun D J=>?_⟩
   refine ybl (n:=n) (fun i G=>∃ (g:Nat->Addr) (t:Nat->Fin 3) (p:Nat->Addr) (r:Nat->List Int),G D=some (.lst (refs g i))/\zg G i g t p r/\yz H G) ⟨fun _=>0,fun _=>0,fun _=>0,fun _=>[],yd,fun j v=>absurd v (Nat.not_lt_zero j),vd J⟩ (fun i G hi z=>?_) (fun G z=>?_)
   ·obtain ⟨g,t,p,r,U,L,S⟩:=z
    rfl'
    refine ⟨l,u,1+i,by rw [Int.zero_add,Int.natCast_add]; rfl,S.seq R,fun c=>?_⟩
    rfl'
    refine ⟨c,rfl,fun q M O N G2 Z I=>?_⟩
    have f:=I _ _ U
    refine wb (n:=n) f (vj (by rw [yt]; omega)) hi ?_
    refine ⟨upN g i q,upN t i M,upN p i O,upN r i N,?_,fun j v=>?_,fun b o e=>yi (yc e J) (I _ _ (S b o e))⟩
    ·rw [yd,w9,vw]
     congr 3
     exact wx fun j v=>(vp v).symm
    ·by_cases z:j=i
     ·subst z
      rw [vw,vw,vw,vw]
      exact Z.upd f
     ·have d:j < i:=by omega
      rw [vp d,vp d,vp d,vp d]
      exact ((L j d).same I).upd f
   ·obtain ⟨g,t,p,r,U,L,S⟩:=z
    exact k D n g t p r G J U Y n6 L S
theorem yo1:yo ["_law_cell","_law_first","_law_way"] ["_law_cell","_law_first"] (yh ysq):=xc (by right)
inductive yhm  (vs:List V) (H:Hp) (Q:VK) (E':XK):Prop
 | mk (c f:Int):(vs=[.int c,.int f])->(0 <= f)->(f <= 255)->(∀ (s:Int) H',0 <= s->s <= 255->yz H H'->Q (.int s) H')->yhm vs H Q E'
theorem ywl (T:Txt K mg a):wa P w K mg base CX0 1 a.J7 a.J8 ["_law_cell","_law_first"] yhm:=by
 refine T.Du.F.ok yo1 (fun j H Q E h=>?_) (fun r A e s H j Q E t h=>?_)
 ·left
 ·obtain ⟨c,f,rfl,m,o,k⟩:=h
  refine ⟨_,(yj (vc (i:=2) yo1.nd rfl (Or.inl rfl) (yu wg (pv 0) yg)) (yj (v9 (yx ub (pv 2) yg (vg _)) (yf (yv (yu wg (yu vh (pv 0) yg) yg))) y8) (yj (v9 (yx ub (pv 2) yg (vg _)) (yf (yv (pv 1))) y8) (yj (v9 (yx ub (pv 2) yg (vg _)) (yf (yv (uj wy (vq (ya yg (ya yg ye (yb rfl)) (yb rfl))) (yu wg (yu vh (pv 0) yg) yg) (fun _ _=>rfl)))) y8) (yf (yv (yu w6 yg (yu wg (yu vh (pv 0) yg) yg)))))))),?_⟩
  exists 2,1
  rfl'
  refine zx (fun b=>?_) (fun b=>?_)
  ·rfl'
   exact k _ _ (by omega) (by omega) (yz.refl _)
  ·rfl'
   refine zx (fun b=>?_) (fun b=>?_)
   ·rfl'
    exact k _ _ m o (yz.refl _)
   ·rfl'
    refine zx (fun b=>?_) (fun b=>?_)
    ·rfl'
     refine ⟨by walk_at "len",fun q hq=>?_⟩
     with_reducible first | refine yk hq fun H1 S1 hq1=>?_ | refine yn hq fun H1 S1 hq1=>?_
     rfl'
     obtain ⟨v,g,n⟩:=zn (xs:=[V.int 0,V.int 255]) (i:=c / 4 % 2) (Int.emod_nonneg _ (by decide)) (by show _ < (2:Int); exact Int.emod_lt_of_pos _ (by decide))
     refine zh (SqL.of hq1) n ?_
     obtain ⟨d,rfl,l,p⟩:∃ d,v=V.int d/\0 <= d/\d <= 255:=by
      simp only [List.mem_cons,List.not_mem_nil,or_false] at g
      rcases g with rfl | rfl <;> exact ⟨_,rfl,by decide,by decide⟩
     exact k _ _ l p S1
    ·rfl'
     exact k _ _ (by omega) (by omega) (yz.refl _)
theorem yo4:yo ["_law_script","_law_at","_law_many","_law_first"] ["_law_script","_law_at","_law_many"] (yh yti):=xc (by right)
inductive ygu (K:W.Frag) (vs:List V) (H:Hp) (Q:VK) (E':XK):Prop
 | mk (l:Addr) (ns:List Int) (at' n:Nat):(vs=[.ref l,.int at',.int n])->(SqL K H l (ns.map V.int))->(n <= 1000)->(∀ r (ts:List Int) H',H r=none->H' r=some (.lst (ts.map V.int))->Sgs ts->ts.length=n->yz H H'->Q (.ref r) H')->ygu K vs H Q E'
theorem yok (T:Txt K mg a):wa P w K mg base CX0 2 a.J9 a.Ja ["_law_script","_law_at","_law_many"] (ygu K):=by
 refine T.C9.F.ok yo4 (fun W H Q E h=>?_) (fun R A g s H W Q E u h=>?_)
 ·left
 ·obtain ⟨l,q,f,n,rfl,I,hn,k⟩:=h
  refine ⟨_,(yj (vc (i:=3) yo4.nd rfl (Or.inr rfl) (yu wg (y6 (jh T) (u.mono (by decide)) rfl T.Ac.m T.Ac.F.kp T.Ac.B .nil y7 (ya (pv 0) (ya yg ye (yb rfl)) (yb rfl))) yg)) (yf (yv (wu (js:=[0,3,1]) (ys:=["_law_script","_law_first","_law_at"]) rfl (ybp rfl T.Cb (ya (pv 2) ye (yb rfl))) (fun C s2 H2 Z=>(y6 (ywl T) (u.mono (by decide)) rfl T.Du.m T.Du.F.kp T.Du.B .nil y7 (ya (y6 (jh T) (u.mono (by decide)) rfl T.Ac.m T.Ac.F.kp T.Ac.B .nil y7 (ya (pv 1) (ya (yu w6 (pv 3) (pv 0)) ye (yb rfl)) (yb rfl))) (ya (pv 2) ye (yb rfl)) (yb rfl)))) rfl rfl (hyc:=(all_cons rfl (all_cons rfl (all_cons rfl yw)))) (hrel:=(all_cons rfl (all_cons rfl (all_cons rfl yw)))))))),?_⟩
  exists 3,1
  rfl'
  refine ⟨l,q,7,rfl,I,fun r=>?_⟩
  rfl'
  have J:0 <= r % 256:=Int.emod_nonneg _ (by decide)
  have N:r % 256 < 256:=Int.emod_lt_of_pos _ (by decide)
  generalize r % 256=L at J N ⊢
  refine ⟨_,rfl,by omega,by omega,fun D j=>?_⟩
  refine ybl (n:=n) (fun i G=>∃ d:List Int,G D=some (.lst (d.map V.int))/\Sgs d/\d.length=i/\yz H G) ⟨[],yd,fun _ z=>(nomatch z),rfl,vd j⟩ (fun i G O z=>?_) (fun G z=>?_)
  ·obtain ⟨d,t,p,v,S⟩:=z
   rfl'
   refine ⟨l,q,f+i,by rw [Int.zero_add,Int.natCast_add]; rfl,S.seq I,fun c=>?_⟩
   rfl'
   refine ⟨c,L,rfl,J,by omega,fun M Y s0 X y=>?_⟩
   refine wb (n:=n) (y _ _ t) (vj (by rw [List.length_map]; omega)) O ?_
   refine ⟨d++[M],by rw [yd,List.map_append]; rfl,fun x U=>?_,by rw [List.length_append,v]; rfl,fun b o e=>yi (yc e j) (y _ _ (S b o e))⟩
   rcases List.mem_append.mp U with h | h
   ·exact p x h
   ·rw [List.mem_singleton.mp h]
    exact ⟨s0,X⟩
  ·obtain ⟨d,t,p,v,S⟩:=z
   exact k D d G j t p v S
theorem ysg {G:Hp} {t:Addr} {y z:V} {n:String} (h:G t=some (.tup [y,z])) (ty:xp K G y (.type n)) (hk:ygm y=false):LkB K G (.ref t) false:=.inr ⟨t,_,rfl,h,.inr ⟨y,z,n,rfl,ty,.inl ⟨hk,rfl⟩⟩⟩
theorem yyh {G:Hp} {t:Addr} {x:Str} {xs:List V} (h:G t=some (.tup [.str x,.ref q])) (hk:ygm (.str x)=true) (hq:G q=some (.tup xs)) (hl:xs.length <= 100) (ht:∀ y∈xs,∃ n,xp K G y (.type n)) (hp:uv xs=false):LkB K G (.ref t) false:=.inr ⟨t,_,rfl,h,.inr ⟨_,_,"str",rfl,.str _,.inr ⟨hk,.inr ⟨q,xs,rfl,hq,Nat.le_trans hl (by decide),ht,hp.symm⟩⟩⟩⟩
theorem ygr.set {H:Hp} {xs:List V} {bs:List Bool} (h:ygr K H xs bs) {v:V} {b:Bool} (hv:LkB K H v b):ygr K H (xs.set j v) (bs.set j b):=by
 refine ⟨by rw [List.length_set,List.length_set,h.1],fun i y c a d=>?_⟩
 rw [List.getElem?_set] at a d
 by_cases z:j=i
 ·rw [if_pos z] at a d
  by_cases q:i < xs.length
  ·rw [if_pos (z ▸ q)] at a
   rw [if_pos (by rw [<- h.1]; exact z ▸ q)] at d
   cases a
   cases d
   exact hv
  ·rw [if_neg (z ▸ q)] at a
   cases a
 ·rw [if_neg z] at a d
  exact h.2 i y c a d
theorem yko {H:Hp} {n:Nat} {lk:Nat->Addr} {kd:Nat->Fin 3} {ps:Nat->List Int} (h:zg H n lk kd tp ps):Lks H (refs lk n):=fun y a=>by
 obtain ⟨i,b,rfl⟩:=yg6 a
 exact ⟨_,_,_,h i b⟩
theorem yrn {H:Hp} {l:Addr} {xs:List V} {v:V} (hl:H l=some (.lst (xs.set j v))) (hx:Lks H xs) (hj:j < xs.length) (h6:xs.length <= 6) (hv:LkB K H v false):ynp K H (.ref l):=by
 refine .inr ⟨l,_,_,rfl,hl,by rw [List.length_set]; omega,(hx.bs (K:=K)).set hv,fun z=>?_⟩
 have e:=List.all_eq_true.mp z.2.2 false (List.mem_iff_getElem?.mpr ⟨j,by rw [List.getElem?_set,if_pos rfl,List.length_replicate,if_pos hj]⟩)
 cases e
theorem ybw:yo ["_law_looks_here","_law_cell","_law_way","_law_kind","_law_places","_law_some","_law_bad"] ["_law_looks_here","_law_cell"] (yh ytg):=xc (by right)
inductive yhl (K:W.Frag) (vs:List V) (H:Hp) (Q:VK) (E':XK):Prop
 | mk (L:Addr) (c:Int) (n:Nat) (lk:Nat->Addr) (kd:Nat->Fin 3) (tp:Nat->Addr) (ps:Nat->List Int):(vs=[.ref L,.int c])->(H L=some (.lst (refs lk n)))->(1 <= n)->(n <= 6)->(zg H n lk kd tp ps)->(∀ v H',ynp K H' v->yz H H'->Q v H')->yhl K vs H Q E'
theorem yw4 (T:Txt K mg a):wa P w K mg base CX0 1 a.Jb a.Jc ["_law_looks_here","_law_cell"] (yhl K):=by
 refine T.Dv.F.ok ybw (fun vs H Q E h=>?_) (fun af A aa s H vs Q E hr h=>?_)
 ·left
 ·obtain ⟨L,c,n,m,kd,tp,ps,rfl,M,n1,n6,hR,k⟩:=h
  refine yq (vc (i:=2) ybw.nd rfl (Or.inl rfl) (yu wg (pv 1) yg)) ?_
  refine yq (v9 (yx ylk (pv 2) yg (vg _)) (yf (yv (uj wy (vq (ya j3 (ya (vq ye) (ya (vm xq rfl T.Ba (by right) (ya (pv 0) ye (yb rfl))) (ya (jx ydy (yu yfb (pv 0) yg) ybt (ybs yg)) ye (yb rfl)) (yb rfl)) (yb rfl)) (yb rfl))) (pv 2) (fun _ _=>rfl)))) y8) ?_
  refine yq (yoq (uj wy (pv 0) (yu wg (yu vh (pv 1) yg) (yr y9 rfl T.As (by right) (ya (pv 0) ye (yb rfl)))) (fun _ _=>rfl)) (yas rfl (we (v6 (i:=3) ybw.nd rfl (Or.inl rfl)) (we (v6 (i:=4) ybw.nd rfl (Or.inl rfl)) zq)))) ?_
  refine yes (ypd (i:=5) ybw.nd rfl (Or.inl rfl) (yh8 (wj (ug j3) (wj (ug (xo (ya (pv 3) ye (yb rfl)))) (wj (ug (vq (ya (pv 3) (ya (pv 4) ye (yb rfl)) (yb rfl)))) (wj (ug (xo (ya (pv 3) (ya (vm vi rfl T.Ab (by right) (ya (pv 4) ye (yb rfl))) ye (yb rfl)) (yb rfl)))) (wj (ug (xo (ya xh (ya (pv 4) ye (yb rfl)) (yb rfl)))) (wj (ug (xo (ya xh (ya (pv 4) ye (yb rfl)) (yb rfl)))) (wj (ug (xo (ya yg (ya (pv 4) ye (yb rfl)) (yb rfl)))) yh7 rfl) rfl) rfl) rfl) rfl) rfl) rfl)) (Or.inl rfl) rfl) ?_
  refine yes (ypd (i:=5) ybw.nd rfl (Or.inl rfl) (yy1 yoz (ug (pv 5)) (yh8 (wj (ug (xo (ya (pv 3) (ya (xo (ya yg ye (yb rfl))) ye (yb rfl)) (yb rfl)))) (wj (ug (xo (ya (pv 3) (ya (xo (ya yg ye (yb rfl))) ye (yb rfl)) (yb rfl)))) (wj (ug (xo (ya (pv 3) (ya (xo (ya yg (ya yg ye (yb rfl)) (yb rfl))) ye (yb rfl)) (yb rfl)))) (wj (ug (xo (ya (pv 3) (ya (xo (ya yg (ya yg ye (yb rfl)) (yb rfl))) ye (yb rfl)) (yb rfl)))) (wj (ug (xo (ya (pv 3) (ya (xo (ya yg (ya yg (ya yg (ya yg (ya yg ye (yb rfl)) (yb rfl)) (yb rfl)) (yb rfl)) (yb rfl))) ye (yb rfl)) (yb rfl)))) yh7 rfl) rfl) rfl) rfl) rfl))) (Or.inl rfl) rfl) ?_
  refine yq (vc (i:=6) ybw.nd rfl (Or.inl rfl) (vm vi rfl T.Ab (by right) (ya (pv 0) ye (yb rfl)))) ?_
  refine yq (yoq (uj wy (pv 5) (yu zv (pv 2) yg) (fun _ _=>rfl)) (ywr (pv 6) (yu wg (yu vh (pv 1) yg) (yr y9 rfl T.As (by right) (ya (pv 0) ye (yb rfl)))) yl4)) ?_
  refine ⟨_,(yf (yv (pv 6))),?_⟩
  exists 2,5
  rfl'
  have w0:0 <= c % 16/\c % 16 < 16:=by omega
  generalize c % 16=R at w0
  refine zx (fun h4=>?_) (fun h4=>?_)
  ·rfl'
   refine ⟨by walk_at "len",fun O g1=>?_⟩
   with_reducible first | refine yk g1 fun H1 S1 e1=>?_ | refine yn g1 fun H1 S1 e1=>?_
   rfl'
   refine ⟨L,_,rfl,.inl ⟨SqL.of (S1 _ _ M),fun x2 g2=>?_⟩⟩
   with_reducible first | refine yk g2 fun H2 S2 e2=>?_ | refine yn g2 fun H2 S2 e2=>?_
   have f:=S1.trans S2
   rfl'
   refine ⟨L,7,_,rfl,rfl,f _ _ M,by decide,by decide,zt (by rw [yt]; show n * 7 <= 16000000; omega),fun x3 g3=>?_⟩
   with_reducible first | refine yk g3 fun H3 S3 e3=>?_ | refine yn g3 fun H3 S3 e3=>?_
   rfl'
   refine ym7 (SqL.of e3) fun x4 g4=>?_
   rw [show (some (7:Int))=some ((7:Nat):Int) from rfl,yax]
   with_reducible first | refine yk g4 fun H4 S4 e4=>?_ | refine yn g4 fun H4 S4 e4=>?_
   rfl'
   refine ⟨by walk_at "len",fun x5 g5=>?_⟩
   with_reducible first | refine yk g5 fun H5 S5 e5=>?_ | refine yn g5 fun H5 S5 e5=>?_
   rfl'
   obtain ⟨v,hv,C⟩:=zn (xs:=[V.non,V.ref O,V.ref x2,V.ref x4]) (i:=R) w0.1 (by show _ < (4:Int); exact h4)
   refine zh (SqL.of e5) C ?_
   have B:=S3.trans (S4.trans S5)
   have S:=f.trans B
   refine k v _ ?_ S
   simp only [List.mem_cons,List.not_mem_nil,or_false] at hv
   rcases hv with rfl | rfl | rfl | rfl
   ·exact .inl ⟨_,.non,by decide⟩
   ·exact .inr ⟨O,[],[],rfl,B _ _ (S2 _ _ e1),by decide,⟨rfl,fun i y b h=>by simp at h⟩,by simp⟩
   ·exact .inl ⟨_,.tup (B _ _ e2),by decide⟩
   ·have u:((List.replicate (7:Int).toNat (refs m n)).flatten.take 7).length=7:=by
     rw [List.length_take,List.length_flatten,List.map_replicate,yt]
     show min 7 ((List.replicate 7 n).sum)=7
     simp
     omega
    have x:Lks H5 ((List.replicate (7:Int).toNat (refs m n)).flatten.take 7):=fun y hy=>by
     obtain ⟨l,hl,hy⟩:=List.mem_flatten.mp (List.mem_of_mem_take hy)
     rw [List.eq_of_mem_replicate hl] at hy
     exact yko (hR.same S) y hy
    exact .inr ⟨x4,_,_,rfl,S5 _ _ e4,by rw [u]; decide,x.bs,fun z=>absurd z.2.1 (by rw [u]; decide)⟩
  ·obtain ⟨j,hj,I⟩:∃ j:Nat,c / 16 % (n:Int)=(j:Int)/\j < n:=by
    have h1:=Int.emod_nonneg (c / 16) (show (n:Int)≠0 by omega)
    have h2:=Int.emod_lt_of_pos (c / 16) (show 0 < (n:Int) by omega)
    exact ⟨(c / 16 % (n:Int)).toNat,by omega,by omega⟩
   obtain ⟨q0,a5,a8,a7,ae⟩:=hR j I
   cases a5
   have ad:atI (refs m n) (j:Int)=some (V.ref (m j)):=xx (by unfold refs; rw [List.getElem?_map,List.getElem?_range I]; rfl)
   rfl'
   refine j9 (SqL.of M) ?_
   rw [yt]
   rfl'
   rw [hj]
   refine zh (SqL.of M) ad ?_
   refine yat (SqT.of a8) rfl ?_
   rfl'
   refine ⟨by walk_at "len",fun O g1=>?_⟩
   with_reducible first | refine yk g1 fun H1 S1 e1=>?_ | refine yn g1 fun H1 S1 e1=>?_
   rfl'
   refine ⟨by walk_at "len",fun x2 g2=>?_⟩
   with_reducible first | refine yk g2 fun H2 S2 e2=>?_ | refine yn g2 fun H2 S2 e2=>?_
   have f:=S1.trans S2
   rfl'
   refine ⟨tp j,_,rfl,.inr (SqT.of (f _ _ a7)),fun x3 g3=>?_⟩
   with_reducible first | refine yk g3 fun H3 S3 e3=>?_ | refine yn g3 fun H3 S3 e3=>?_
   have T3:=f.trans S3
   rfl'
   refine ⟨by walk_at "len",fun y1 yg1=>?_⟩
   with_reducible first | refine yk yg1 fun yH1 yS1 ye1=>?_ | refine yn yg1 fun yH1 yS1 ye1=>?_
   rfl'
   refine ⟨by walk_at "len",fun y2 yg2=>?_⟩
   with_reducible first | refine yk yg2 fun yH2 yS2 ye2=>?_ | refine yn yg2 fun yH2 yS2 ye2=>?_
   rfl'
   refine ⟨by walk_at "len",fun y3 yg3=>?_⟩
   with_reducible first | refine yk yg3 fun yH3 yS3 ye3=>?_ | refine yn yg3 fun yH3 yS3 ye3=>?_
   rfl'
   refine ⟨by walk_at "len",fun y4 yg4=>?_⟩
   with_reducible first | refine yk yg4 fun yH4 yS4 ye4=>?_ | refine yn yg4 fun yH4 yS4 ye4=>?_
   rfl'
   refine ⟨by walk_at "len",fun y5 yg5=>?_⟩
   with_reducible first | refine yk yg5 fun yH5 yS5 ye5=>?_ | refine yn yg5 fun yH5 yS5 ye5=>?_
   have a1:=yS5
   have ye4:=a1 _ _ ye4
   have U:=yS4.trans a1
   have ye3:=U _ _ ye3
   have W:=yS3.trans U
   have ye2:=W _ _ ye2
   have a4:=yS2.trans W
   have ye1:=a4 _ _ ye1
   have a9:=yS1.trans a4
   rfl'
   refine ⟨by walk_at "len",fun z1 zg1=>?_⟩
   with_reducible first | refine yk zg1 fun zH1 zS1 ze1=>?_ | refine yn zg1 fun zH1 zS1 ze1=>?_
   rfl'
   refine ⟨by walk_at "len",fun z2 zg2=>?_⟩
   with_reducible first | refine yk zg2 fun zH2 zS2 ze2=>?_ | refine yn zg2 fun zH2 zS2 ze2=>?_
   rfl'
   refine ⟨by walk_at "len",fun z3 zg3=>?_⟩
   with_reducible first | refine yk zg3 fun zH3 zS3 ze3=>?_ | refine yn zg3 fun zH3 zS3 ze3=>?_
   rfl'
   refine ⟨by walk_at "len",fun z4 zg4=>?_⟩
   with_reducible first | refine yk zg4 fun zH4 zS4 ze4=>?_ | refine yn zg4 fun zH4 zS4 ze4=>?_
   rfl'
   refine ⟨by walk_at "len",fun z5 zg5=>?_⟩
   with_reducible first | refine yk zg5 fun zH5 zS5 ze5=>?_ | refine yn zg5 fun zH5 zS5 ze5=>?_
   rfl'
   refine ⟨by walk_at "len",fun z6 zg6=>?_⟩
   with_reducible first | refine yk zg6 fun zH6 zS6 ze6=>?_ | refine yn zg6 fun zH6 zS6 ze6=>?_
   rfl'
   refine ⟨by walk_at "len",fun z7 zg7=>?_⟩
   with_reducible first | refine yk zg7 fun zH7 zS7 ze7=>?_ | refine yn zg7 fun zH7 zS7 ze7=>?_
   rfl'
   refine ⟨by walk_at "len",fun z8 zg8=>?_⟩
   with_reducible first | refine yk zg8 fun zH8 zS8 ze8=>?_ | refine yn zg8 fun zH8 zS8 ze8=>?_
   rfl'
   refine ⟨by walk_at "len",fun z9 zg9=>?_⟩
   with_reducible first | refine yk zg9 fun zH9 zS9 ze9=>?_ | refine yn zg9 fun zH9 zS9 ze9=>?_
   rfl'
   refine ⟨by walk_at "len",fun ab zg10=>?_⟩
   with_reducible first | refine yk zg10 fun zH10 zS10 ze10=>?_ | refine yn zg10 fun zH10 zS10 ze10=>?_
   rfl'
   refine ⟨by walk_at "len",fun ac zg11=>?_⟩
   with_reducible first | refine yk zg11 fun zH11 zS11 ze11=>?_ | refine yn zg11 fun zH11 zS11 ze11=>?_
   have p:=zS11
   have ze10:=p _ _ ze10
   have a3:=zS10.trans p
   have ze9:=a3 _ _ ze9
   have a2:=zS9.trans a3
   have ze8:=a2 _ _ ze8
   have N:=zS8.trans a2
   have ze7:=N _ _ ze7
   have X:=zS7.trans N
   have ze6:=X _ _ ze6
   have zT5:=zS6.trans X
   have ze5:=zT5 _ _ ze5
   have zT4:=zS5.trans zT5
   have ze4:=zT4 _ _ ze4
   have zT3:=zS4.trans zT4
   have ze3:=zT3 _ _ ze3
   have zT2:=zS3.trans zT3
   have ze2:=zT2 _ _ ze2
   have zT1:=zS2.trans zT2
   have ze1:=zT1 _ _ ze1
   have a0:=zS1.trans zT1
   rfl'
   refine ⟨y5,ac,_,_,rfl,rfl,a0 _ _ ye5,ze11,zt (by show 12 <= 16000000; decide),fun r gr=>?_⟩
   with_reducible first | refine yk gr fun J SJ ej=>?_ | refine yn gr fun J SJ ej=>?_
   have Z:=a0.trans SJ
   have Y:=a9.trans Z
   have S:=T3.trans Y
   rfl'
   refine xk (SqL.of (S _ _ M)) fun b gb=>?_
   with_reducible first | refine yk gb fun J2 SJ2 ej2=>?_ | refine yn gb fun J2 SJ2 ej2=>?_
   have D:=S.trans SJ2
   rfl'
   obtain ⟨v,hv,C⟩:=zn (xs:=[V.non,V.ref O,V.ref x2,V.ref y1,V.ref y2,V.ref y3,V.ref y4]++[V.ref z2,V.ref z4,V.ref z6,V.ref z8,V.ref ab]) (i:=R - 4) (by omega) (by show _ < (12:Int); omega)
   refine zh (SqL.of (SJ2 _ _ ej)) C ?_
   rfl'
   refine j9 (SqL.of (D _ _ M)) ?_
   rw [yt]
   rfl'
   refine ⟨b,_,c / 16 % (n:Int),j,rfl,rfl,ej2,?_,?_⟩
   ·rw [hj]
    unfold ixN
    rw [if_pos (by omega),if_pos (by rw [yt]; omega)]
    rfl
   have x:=(yko hR).same D
   have a6:LkB K (upd J2 b (.lst ((refs m n).set j v))) v false->Q (.ref b) (upd J2 b (.lst ((refs m n).set j v))):=fun hb=>by
    refine k _ _ (yrn yd (x.upd ej2) (by rw [yt]; exact I) (by rw [yt]; exact n6) hb) fun d o e=>yi (yc (S _ _ e) gb) (D _ _ e)
   have g:∀ {d:Addr} {o:HO},J d=some o->upd J2 b (.lst ((refs m n).set j v)) d=some o:=fun {d o} e=>yi (yc e gb) (SJ2 _ _ e)
   rfl'
   refine a6 ?_
   simp only [List.cons_append,List.nil_append,List.mem_cons,List.not_mem_nil,or_false] at hv
   generalize upd J2 b (.lst ((refs m n).set j v))=G at g
   have X1:=g (Y _ _ (S3 _ _ (S2 _ _ e1)))
   have X2:=g (Y _ _ (S3 _ _ e2))
   have X3:=g (Y _ _ e3)
   have kk:=ykf (kd j)
   have pl:∀ {t q:Addr} {xs:List V},J t=some (.tup [.str (kdS (kd j)),.ref q])->J q=some (.tup xs)->xs.length <= 100->(∀ y∈xs,∃ n,xp K G y (.type n))->uv xs=false->LkB K G (.ref t) false:=fun h1 h2 h3 h4 h5=>yyh (g h1) kk (g h2) h3 h4 h5
   rcases hv with rfl | rfl | rfl | rfl | rfl | rfl | rfl | rfl | rfl | rfl | rfl | rfl
   ·exact .inl ⟨_,.non,by decide,rfl⟩
   ·exact .inr ⟨O,_,rfl,X1,.inl ⟨by simp,rfl⟩⟩
   ·exact .inl ⟨_,.lst X2,by decide,rfl⟩
   ·exact .inr ⟨y1,_,rfl,g (Z _ _ ye1),.inr ⟨_,_,"str",rfl,.str _,.inr ⟨kk,.inl ⟨_,.lst X3,by decide,rfl⟩⟩⟩⟩
   ·exact ysg (g (Z _ _ ye2)) (.str _) (by decide)
   ·exact ysg (g (Z _ _ ye3)) (.str _) (by decide)
   ·exact ysg (g (Z _ _ ye4)) (.int _) (by decide)
   ·exact pl (SJ _ _ ze2) (SJ _ _ ze1) (by decide) (all_cons ⟨_,.int _⟩ yw) (by decide)
   ·exact pl (SJ _ _ ze4) (SJ _ _ ze3) (by decide) (all_cons ⟨_,.int _⟩ yw) (by decide)
   ·exact pl (SJ _ _ ze6) (SJ _ _ ze5) (by decide) (all_cons ⟨_,.int _⟩ (all_cons ⟨_,.int _⟩ yw)) (by decide)
   ·exact pl (SJ _ _ ze8) (SJ _ _ ze7) (by decide) (all_cons ⟨_,.int _⟩ (all_cons ⟨_,.int _⟩ yw)) (by decide)
   ·exact pl (SJ _ _ ze10) (SJ _ _ ze9) (by decide) (all_cons ⟨_,.int _⟩ (all_cons ⟨_,.int _⟩ (all_cons ⟨_,.int _⟩ (all_cons ⟨_,.int _⟩ (all_cons ⟨_,.int _⟩ yw))))) (by decide)
theorem yk7:yo ["_law_text_here","_law_cell","_law_way","_law_bad"] ["_law_text_here","_law_cell"] (yh ysv):=xc (by right)
inductive yhk (K:W.Frag) (vs:List V) (H:Hp) (Q:VK) (E':XK):Prop
 | mk (t:Addr) (c:Int) (ts:List Int):(vs=[.ref t,.int c])->(H t=some (.lst (ts.map V.int)))->(ts.length <= 100)->(∀ v n H',xp K H' v (.type n)->Bad K H' v n 1000->(∀ p,v=.ref p->H p=none)->yz H H'->Q v H')->yhk K vs H Q E'
theorem ynr (T:Txt K mg a):wa P w K mg base CX0 1 a.Jd a.Je ["_law_text_here","_law_cell"] (yhk K):=by
 refine T.Ca.F.ok yk7 (fun R H Q E h=>?_) (fun N A r s H R Q E X h=>?_)
 ·left
 ·obtain ⟨t,c,f,rfl,n,U,k⟩:=h
  refine ⟨_,(yj (vc (i:=2) yk7.nd rfl (Or.inl rfl) (yu wg (pv 1) yg)) (yj (v9 (yx ylk (pv 2) yg (vg _)) (yf (yv (uj wy (vq (ya j3 (ya (vm xq rfl T.Ba (by right) (ya (pv 0) ye (yb rfl))) (ya xh ye (yb rfl)) (yb rfl)) (yb rfl))) (pv 2) (fun _ _=>rfl)))) y8) (yj (v9 (yx ub (pv 2) yg (vg _)) (yf (yv (yu yfb (vq (ya yg ye (yb rfl))) yg))) y8) (yj (vc (i:=3) yk7.nd rfl (Or.inl rfl) (vm vi rfl T.Ab (by right) (ya (pv 0) ye (yb rfl)))) (yj (ve (yb4 PySem.F.plainAttrs_list PySem.F.slot_list_insert PySem.F.type_list_insert yew (pv 3) (ya (yu wg (yu vh (pv 1) yg) (yu w6 (yr y9 rfl T.As (by right) (ya (pv 0) ye (yb rfl))) yg)) (ya (uj wy (vq (ya yg (ya (yte yk9 yg) (ya xy (ya xh ye (yb rfl)) (yb rfl)) (yb rfl)) (yb rfl))) (yu zv (pv 2) yg) (fun _ _=>rfl)) ye (yb rfl)) (yb rfl)))) (yf (yv (pv 3)))))))),?_⟩
  exists 2,2
  rfl'
  have D:0 <= c % 8/\c % 8 < 8:=by omega
  generalize c % 8=l at D
  refine zx (fun G=>?_) (fun G=>?_)
  ·rfl'
   refine ⟨t,_,rfl,.inl ⟨SqL.of n,fun q g1=>?_⟩⟩
   with_reducible first | refine yk g1 fun H1 S1 e1=>?_ | refine yn g1 fun H1 S1 e1=>?_
   rfl'
   refine ⟨by walk_at "len",fun p g2=>?_⟩
   with_reducible first | refine yk g2 fun H2 S2 e2=>?_ | refine yn g2 fun H2 S2 e2=>?_
   rfl'
   obtain ⟨v,m,g⟩:=zn (xs:=[V.non,V.ref q,V.str "ab"]) (i:=l) D.1 (by show _ < (3:Int); exact G)
   refine zh (SqL.of e2) g ?_
   simp only [List.mem_cons,List.not_mem_nil,or_false] at m
   rcases m with rfl | rfl | rfl
   ·exact k _ _ _ .non (.inl (by decide)) (fun _ z=>nomatch z) (S1.trans S2)
   ·exact k _ _ _ (.tup (S2 _ _ e1)) (.inl (by decide)) (fun _ z=>by cases z; exact g1) (S1.trans S2)
   ·exact k _ _ _ (.str _) (.inl (by decide)) (fun _ z=>nomatch z) (S1.trans S2)
  rfl'
  refine zx (fun x=>?_) (fun x=>?_)
  ·rfl'
   refine ⟨by walk_at "len",fun q g1=>?_⟩
   with_reducible first | refine yk g1 fun H1 S1 e1=>?_ | refine yn g1 fun H1 S1 e1=>?_
   refine ⟨q,1001,_,rfl,rfl,e1,by decide,by decide,zt (by show 1 * 1001 <= 16000000; decide),fun p g2=>?_⟩
   rw [ye9]
   with_reducible first | refine yk g2 fun H2 S2 e2=>?_ | refine yn g2 fun H2 S2 e2=>?_
   refine k _ _ _ (.lst e2) (.inr ⟨p,_,rfl,e2,ja _,by rw [List.length_map,List.length_replicate]; decide,?_⟩) (fun _ z=>by cases z; exact S1.free g2) (S1.trans S2)
   rw [List.length_map,List.length_replicate]
   exact Bool.false_and _
  ·rfl'
   refine xk (SqL.of n) fun b gb=>?_
   with_reducible first | refine yk gb fun H1 S1 e1=>?_ | refine yn gb fun H1 S1 e1=>?_
   rfl'
   refine yb2 e1 ?_
   rfl'
   refine j9 (SqL.of (S1 _ _ n)) ?_
   rw [List.length_map]
   obtain ⟨j,O,u⟩:∃ j:Nat,c / 8 % ((f.length:Int)+1)=(j:Int)/\j <= f.length:=by
    have W:=Int.emod_nonneg (c / 8) (show (f.length:Int)+1≠0 by omega)
    have S:=Int.emod_lt_of_pos (c / 8) (show 0 < (f.length:Int)+1 by omega)
    exact ⟨(c / 8 % ((f.length:Int)+1)).toNat,by omega,by omega⟩
   rfl'
   rw [O]
   refine ⟨by walk_at "len",fun p g2=>?_⟩
   with_reducible first | refine yk g2 fun H2 S2 e2=>?_ | refine yn g2 fun H2 S2 e2=>?_
   rfl'
   obtain ⟨v,m,g⟩:=zn (xs:=[V.int 256,V.int (-1),V.bl true,V.str "a"]) (i:=l - 4) (by omega) (by show _ < (4:Int); omega)
   refine zh (SqL.of e2) g ?_
   have C:=S2 _ _ e1
   rfl'
   refine ⟨b,_,v,j,rfl,rfl,C,by rw [List.length_map]; exact u,by rw [List.length_map]; omega,?_⟩
   rfl'
   have M:∀ d o,H d=some o->d≠b:=fun d o e=>yc e gb
   obtain ⟨B,J,L⟩:∃ B,xp K (upd H2 b (.lst ((f.map V.int).take j++v :: (f.map V.int).drop j))) v (.type B)/\sgV v=false:=by
    simp only [List.mem_cons,List.not_mem_nil,or_false] at m
    rcases m with rfl | rfl | rfl | rfl
    ·exact ⟨_,.int _,by decide⟩
    ·exact ⟨_,.int _,by decide⟩
    ·exact ⟨_,.bl _,by decide⟩
    ·exact ⟨_,.str _,by decide⟩
   refine k _ _ _ (.lst yd) (.inr ⟨b,_,rfl,yd,fun y I=>?_,?_,?_⟩) (fun _ z=>by cases z; exact gb) fun d o e=>yi (M d o e) (S2 _ _ (S1 _ _ e))
   ·rcases List.mem_append.mp I with w | w
    ·exact ja f y (List.mem_of_mem_take w)
    ·rcases List.mem_cons.mp w with rfl | w
     ·exact ⟨B,J⟩
     ·exact ja f y (List.mem_of_mem_drop w)
   ·rw [List.length_append,List.length_take,List.length_cons,List.length_drop,List.length_map]
    omega
   ·rw [List.all_append,List.all_cons,L,Bool.false_and,Bool.and_false,Bool.and_false]
theorem ylf:yo ["_law_learned_here","_law_cell","_law_way","_law_bad"] ["_law_learned_here","_law_cell"] (yh ys9):=xc (by right)
theorem yos {H:Hp} {b:Addr} {xs ys:List V} {v:V} {n:String} (hb:H b=some (.lst xs)) (t:xp K H v (.type n)):xp K (upd H b (.lst ys)) v (.type n):=by
 have o:∀ {c:Addr} {o:HO},H c=some o->(∀ zs,o≠.lst zs)->upd H b (.lst ys) c=some o:=fun {c o} e h=>yi (fun z=>by rw [z,hb] at e; exact h xs (Option.some.inj e).symm) e
 cases t with
 | non=>exact .non
 | bl b=>exact .bl b
 | int i=>exact .int i
 | str x=>exact .str x
 | flt x=>exact .flt x
 | @lst c zs e =>
  by_cases z:c=b
  ·rw [z]
   exact .lst yd
  ·exact .lst (yi z e)
 | frz e=>exact .frz (o e fun _ z=>nomatch z)
 | tup e=>exact .tup (o e fun _ z=>nomatch z)
 | dK e=>exact .dK (o e fun _ z=>nomatch z)
 | dT e=>exact .dT (o e fun _ z=>nomatch z)
theorem yj1 (g:Nat->Addr) (n k:Nat):(refs g n).take k=refs g (min k n):=by
 unfold refs
 rw [<- List.map_take,List.take_range]
inductive yhp (K:W.Frag) (vs:List V) (H:Hp) (Q:VK) (E':XK):Prop
 | mk (l:Addr) (c:Int) (m:Nat) (tx:Nat->Addr) (tt:Nat->List Int):(vs=[.ref l,.int c])->(H l=some (.lst (refs tx m)))->(m <= 3)->((∀ i,i < m->jp H (tx i) (tt i) 1000))->(∀ v H',ypi K H' v->yz H H'->Q v H')->yhp K vs H Q E'
theorem yt1 (T:Txt K mg a):wa P w K mg base CX0 2 a.Jf a.Jg ["_law_learned_here","_law_cell"] (yhp K):=by
 refine T.Dw.F.ok ylf (fun vs H Q E h=>?_) (fun a1 A M s H vs Q E hr h=>?_)
 ·left
 ·obtain ⟨l,c,m,q,O,rfl,L,hm,J,k⟩:=h
  refine ⟨_,(yj (vc (i:=2) ylf.nd rfl (Or.inl rfl) (yu wg (pv 1) yg)) (yj (v9 (yx ylk (pv 2) yg (vg _)) (yf (yv (uj wy (va1 (yh8 (wj (ug yg) (wj (ug (vm xq rfl T.Ba (by right) (ya (wu (js:=[]) (ys:=[]) rfl (vz (pv 0)) (fun C s2 H2 fp=>(vm (r:=ygg K) vi rfl T.Ab (by right) (ya (pv 0) ye (yb rfl)))) rfl rfl (hyc:=yw) (hrel:=yw)) ye (yb rfl)))) (wj (ug (uj wy (vq (ya xy (ya xh ye (yb rfl)) (yb rfl))) (yu wg (yu vh (pv 1) yg) yg) (fun _ _=>rfl))) (wj (ug ydi) yh7 rfl) rfl) rfl) rfl))) (pv 2) (fun _ _=>rfl)))) y8) (yj (vc (i:=3) ylf.nd rfl (Or.inl rfl) (vm vi rfl T.Ab (by right) (ya (pv 0) ye (yb rfl)))) (yj (ve (yb4 PySem.F.plainAttrs_list PySem.F.slot_list_insert PySem.F.type_list_insert yew (pv 3) (ya (yu wg (yu vh (pv 1) yg) (yu w6 (yr y9 rfl T.As (by right) (ya (pv 0) ye (yb rfl))) yg)) (ya (y6 (ynr T) (hr.mono (by decide)) rfl T.Ca.m T.Ca.F.kp T.Ca.B .nil y7 (ya (vq (ya yg (ya yg ye (yb rfl)) (yb rfl))) (ya (yu vh (pv 1) yg) ye (yb rfl)) (yb rfl))) ye (yb rfl)) (yb rfl)))) (yf (yv (pv 3))))))),?_⟩
  exists 2,2
  rfl'
  have w0:0 <= c % 8/\c % 8 < 8:=by omega
  generalize c % 8=N at w0
  refine zx (fun h3=>?_) (fun h3=>?_)
  ·rfl'
   refine ⟨l,rfl,⟨_,SqL.of L⟩,fun D hD=>?_⟩
   refine x6 (K:=K) (xs:=refs q m) (fun i G=>(∃ ys:List V,ys.length=i/\G D=some (.lst ys))/\yz H G) ⟨⟨[],rfl,yd⟩,vd hD⟩ (fun i G _ ⟨_,S⟩=>SqL.of (S _ _ L)) (fun i y G Z hi z=>?_) (fun G z=>?_)
   ·obtain ⟨⟨ys,I,X⟩,S⟩:=z
    obtain ⟨rfl,W⟩:=wt Z
    rfl'
    refine xk (SqL.of (S _ _ (J i W).l)) fun b gb=>?_
    have Y:=ww (o':=HO.lst ((O i).map V.int)) gb X
    refine wb (n:=(refs q m).length) Y (vj (by omega)) hi ?_
    exact ⟨⟨ys++[V.ref b],by rw [List.length_append,I]; rfl,yd⟩,fun d o e=>yi (yc e hD) (ww gb (S d o e))⟩
   obtain ⟨⟨ys,I,X⟩,S1⟩:=z
   rfl'
   refine ⟨D,_,rfl,.inl ⟨SqL.of X,fun x1 g1=>?_⟩⟩
   with_reducible first | refine yk g1 fun H2 S2 e2=>?_ | refine yn g1 fun H2 S2 e2=>?_
   rfl'
   refine ⟨by walk_at "len",fun x2 g2=>?_⟩
   with_reducible first | refine yk g2 fun H3 S3 e3=>?_ | refine yn g2 fun H3 S3 e3=>?_
   rfl'
   obtain ⟨u,hu,R⟩:=zn (xs:=[V.bl false,V.str ""]) (i:=c / 8 % 2) (Int.emod_nonneg _ (by decide)) (by show _ < (2:Int); exact Int.emod_lt_of_pos _ (by decide))
   refine zh (SqL.of e3) R ?_
   rfl'
   intro d gd
   with_reducible first | refine yk gd fun H4 S4 e4=>?_ | refine yn gd fun H4 S4 e4=>?_
   rfl'
   refine ⟨by walk_at "len",fun x3 g3=>?_⟩
   with_reducible first | refine yk g3 fun H5 S5 e5=>?_ | refine yn g3 fun H5 S5 e5=>?_
   rfl'
   obtain ⟨v,hv,U⟩:=zn (xs:=[V.int 7,V.ref x1,u,V.ref d]) (i:=N) w0.1 (by show _ < (4:Int); exact h3)
   refine zh (SqL.of e5) U ?_
   have S:=S1.trans (S2.trans (S3.trans (S4.trans S5)))
   refine k v _ (.inl ?_) S
   simp only [List.mem_cons,List.not_mem_nil,or_false] at hv hu
   rcases hv with rfl | rfl | rfl | rfl
   ·exact ⟨_,.int _,by decide,fun z=>nomatch z⟩
   ·exact ⟨_,.tup (S5 _ _ (S4 _ _ (S3 _ _ e2))),by decide,fun z=>nomatch z⟩
   ·rcases hu with rfl | rfl
    ·exact ⟨_,.bl _,by decide,fun z=>nomatch z⟩
    ·exact ⟨_,.str _,by decide,fun z=>nomatch z⟩
   ·exact ⟨_,.dT (S5 _ _ e4),by decide,fun z=>nomatch z⟩
  ·rfl'
   refine xk (SqL.of L) fun b gb=>?_
   with_reducible first | refine yk gb fun H1 S1 e1=>?_ | refine yn gb fun H1 S1 e1=>?_
   rfl'
   refine yb2 e1 ?_
   rfl'
   refine j9 (SqL.of (S1 _ _ L)) ?_
   rw [yt]
   obtain ⟨j,hj,x⟩:∃ j:Nat,c / 8 % ((m:Int)+1)=(j:Int)/\j <= m:=by
    have h1:=Int.emod_nonneg (c / 8) (show (m:Int)+1≠0 by omega)
    have h2:=Int.emod_lt_of_pos (c / 8) (show 0 < (m:Int)+1 by omega)
    exact ⟨(c / 8 % ((m:Int)+1)).toNat,by omega,by omega⟩
   rfl'
   rw [hj]
   refine ⟨by walk_at "len",fun x2 g2=>?_⟩
   with_reducible first | refine yk g2 fun H2 S2 e2=>?_ | refine yn g2 fun H2 S2 e2=>?_
   rfl'
   refine ⟨x2,c / 24,[1,2],rfl,e2,by show 2 <= 100; decide,fun v nv H3 tv bv fv S3=>?_⟩
   have g:=S3 _ _ (S2 _ _ e1)
   refine ⟨b,_,v,j,rfl,rfl,g,by rw [yt]; exact x,by rw [yt]; omega,?_⟩
   rfl'
   have nb:∀ d o,H d=some o->d≠b:=fun d o e=>yc e gb
   have a0:=S1.trans (S2.trans S3)
   have f:∀ d o,H d=some o->upd H3 b (.lst ((refs q m).take j++v :: (refs q m).drop j)) d=some o:=fun d o e=>yi (nb d o e) (a0 _ _ e)
   refine k _ _ (.inr ⟨b,j,q,O,v,(refs q m).drop j,nv,rfl,?_,by omega,by rw [List.length_drop,yt]; omega,fun i hi=>⟨f _ _ (J i (by omega)).l,(J i (by omega)).s,(J i (by omega)).z⟩,yos g tv,?_⟩) f
   ·rw [yd,yj1,Nat.min_eq_left x]
   ·rcases bv with h | ⟨p,xs,rfl,hp,ty,hz,e⟩
    ·exact .inl h
    ·have np:p≠b:=fun z=>by
      have:=fv p rfl
      rw [z,S2 _ _ e1] at this
      cases this
     exact .inr ⟨p,xs,rfl,yi np hp,fun y Z=>let ⟨n,t⟩:=ty y Z; ⟨n,yos g t⟩,hz,e⟩
theorem yi2.same {H H1:Hp} {vl vt vx:V} {E:XK} {F:Nat->(Nat->Fin 3)->(Nat->List Int)->List Int->Nat->(Nat->List Int)->Prop} (h:yi2 K a H vl vt vx E F) (S:yz H H1):yi2 K a H1 vl vt vx E F:=by
 obtain ⟨x,p,h⟩:=h
 refine ⟨x,ud S p,?_⟩
 rcases h with ⟨d,k⟩ | ⟨L,n,A,u,i,s,e,z,j,D,r,h⟩
 ·exact .inl ⟨d.same S,fun b c=>k b (S.trans c)⟩
 refine .inr ⟨L,n,A,u,i,s,e,S _ _ z,j,D,r.same S,?_⟩
 rcases h with ⟨d,k⟩ | ⟨v,l,t,f,h⟩
 ·exact .inl ⟨d.same S,fun b c=>k b (S.trans c)⟩
 refine .inr ⟨v,l,t,f.same S,?_⟩
 rcases h with ⟨d,k⟩ | ⟨N,w,g,o,y,q,C,B,m⟩
 ·exact .inl ⟨d.same S,fun b c=>k b (S.trans c)⟩
 exact .inr ⟨N,w,g,o,y.same S,q,C,B,m⟩
def bsR (a:Ads) (C:Addr) (bs:List Bool):Prop:=(C=a.Ah/\bs=[true,false,true,false])\/(C=a.Ae/\bs=[false,true,true,false])
def vbd (K:W.Frag) (a:Ads) (H:Hp) (w:Int) (vl vt vx:V) (bs:List Bool):Prop :=
 (0 <= w/\w <= 2/\yi2 K a H vl vt vx (fun C _ _=>∃ D,C=.ref D/\bsR a D bs) (fun _ _ _ _ _ _=>bs=[])) \/
 (w=3/\((ynp K H vl/\bs=[true,false,true,false])\/∃ (L:Addr) (n:Nat) (lk:Nat->Addr) (kd:Nat->Fin 3) (tp:Nat->Addr) (ps:Nat->List Int),vl=.ref L/\H L=some (.lst (refs lk n))/\1 <= n/\n <= 6/\zg H n lk kd tp ps/\bs=[])) \/
 (w=4/\((ypi K H vx/\bs=[false,true,true,false])\/∃ (N u:Nat) (lt:Nat->Addr) (tt:Nat->List Int),ypj H vx N u lt tt/\u <= 1000/\N <= 1000/\bs=[]))
theorem yhx:yo ["_law_way","_law_looks_here","_law_text_here","_law_learned_here","_law_kinds_here","e"] ["_law_way","_law_looks_here","_law_text_here","_law_learned_here"] (yh ysr):=xc (by right)
abbrev ywn (K:W.Frag) (a:Ads):TS:=yts (ypl (yx7 (uw (tCB (ylo K) (uw (ypk 5) (uw (tC (V.ref a.Ah)) yd5))) (uw (tCB (ylo K) (uw (ypk 5) (uw (tC (V.ref a.Ae)) yd5))) (uw (tCB (ylo K) (uw (ypk 5) (uw (tC (V.ty "ValueError")) yd5))) yd5)))) (vn 4)) (yrx (tBM K "list" ydz (ypk 4) (uw (tCB (yli K) (uw (ypk 5) (uw (vac (uw (tC (V.ref a.Ad)) (uw (tC (V.ref a.Ck)) (uw (tC (V.ref a.B7)) (uw (tC (V.ref a.Af)) (uw (tC (V.ref a.Ag)) (uw (tC (V.ref a.Cl)) yd5))))))) yd5))) yd5)))
theorem ybu (T:Txt K mg a) {bs:List Bool} {r:Addr} {G:Hp} {w:Int} {vl vt vx:V} {nx bk ct:St->Hp->Prop} {rt:VK} (hb:bsR a D bs) (hn:∀ q H',G q=none->H' q=some (.lst (bs.map V.bl))->yz G H'->nx [some (.int w),some vl,some vt,some vx,some (.ref q),none] H') :
  exT K a.A4 5 (ywn K a) ⟨nx,rt,bk,ct⟩ [some (.int w),some vl,some vt,some vx,some (.ref r),none] (.ref D) none G:=by
 rcases hb with ⟨rfl,rfl⟩ | ⟨rfl,rfl⟩
 ·refine ysk T.Al fun x hx=>?_
  dsimp only [List.set]
  with_reducible first | refine yk hx fun H2 S2 e2=>?_ | refine yn hx fun H2 S2 e2=>?_
  rfl'
  refine yfh e2 T.Jy T.D8 ?_
  rfl'
  refine yfh e2 T.Jy T.D7 ?_
  rfl'
  refine yo7 e2 T.Jy T.Av ?_
  rfl'
  refine ⟨by walk_at "len",fun q gq=>?_⟩
  with_reducible first | refine yk gq fun H3 S3 e3=>?_ | refine yn gq fun H3 S3 e3=>?_
  rfl'
  refine yb2 e3 ?_
  rfl'
  refine ⟨by walk_at "len",fun c ht=>?_⟩
  with_reducible first | refine yk ht fun H4 S4 e4=>?_ | refine yn ht fun H4 S4 e4=>?_
  rfl'
  refine yle (Cs:=[a.Ad,a.Ck,a.B7,a.Af,a.Ag,a.Cl]) e4 (k:=false) (S4 _ _ (S3 _ _ e2)) T.Jy (by first | exact T.Ea | exact T.Eb) ?_
  rfl'
  refine ul (S4 _ _ e3) (vj (by show 3 <= 16000000; decide)) ?_
  rfl'
  dsimp only [List.set]
  exact hn q _ (S2.free gq) yd fun b o e=>yi (yc (S2 _ _ e) gq) (S4 _ _ (S3 _ _ (S2 _ _ e)))
 ·refine ysk T.Aj fun x hx=>?_
  dsimp only [List.set]
  with_reducible first | refine yk hx fun H2 S2 e2=>?_ | refine yn hx fun H2 S2 e2=>?_
  rfl'
  refine yfh e2 T.Jx T.D5 ?_
  rfl'
  refine yfh e2 T.Jx T.D4 ?_
  rfl'
  refine yo7 e2 T.Jx T.Au ?_
  rfl'
  refine ⟨by walk_at "len",fun q gq=>?_⟩
  with_reducible first | refine yk gq fun H3 S3 e3=>?_ | refine yn gq fun H3 S3 e3=>?_
  rfl'
  refine yb2 e3 ?_
  rfl'
  refine ⟨by walk_at "len",fun c ht=>?_⟩
  with_reducible first | refine yk ht fun H4 S4 e4=>?_ | refine yn ht fun H4 S4 e4=>?_
  rfl'
  refine yle (Cs:=[a.Ad,a.Ck,a.B7,a.Af,a.Ag,a.Cl]) e4 (k:=false) (S4 _ _ (S3 _ _ e2)) T.Jx (by first | exact T.E6 | exact T.E7) ?_
  rfl'
  refine ul (S4 _ _ e3) (vj (by show 3 <= 16000000; decide)) ?_
  rfl'
  dsimp only [List.set]
  exact hn q _ (S2.free gq) yd fun b o e=>yi (yc (S2 _ _ e) gq) (S4 _ _ (S3 _ _ (S2 _ _ e)))
inductive yeh (K:W.Frag) (a:Ads) (vs:List V) (H:Hp) (Q:VK) (E':XK):Prop
 | mk (w:Int) (vl vt vx:V) (bs:List Bool):(vs=[.int w,vl,vt,vx])->(vbd K a H w vl vt vx bs)->(∀ r H',H r=none->H' r=some (.lst (bs.map V.bl))->yz H H'->Q (.ref r) H')->yeh K a vs H Q E'
theorem ylb (T:Txt K mg a):wa P w K mg base CX0 11 a.Jh a.Ji ["_law_way","_law_looks_here","_law_text_here","_law_learned_here"] (yeh K a):=by
 refine T.Bu.F.ok yhx (fun vs H Q E h=>?_) (fun a4 A a0 s H vs Q E U h=>?_)
 ·left
 ·obtain ⟨w,I,W,J,bs,rfl,h,k⟩:=h
  refine ⟨_,(yj (vc (i:=4) yhx.nd rfl (Or.inl rfl) (vq ye)) (yj (yoi (i:=5) (fun pn Ex=>(yf (v9 (yx ub (pv 0) yg (vg _)) (yf (ve (vf (yk4 T) (U.mono (by decide)) rfl T.Ka T.Jn.kp T.K9 .nil xz (ya (pv 1) (ya (pv 2) (ya (pv 3) ye (yb rfl)) (yb rfl)) (yb rfl))))) (yf (v9 (yx ub (pv 0) yg (vg _)) (yf (ve (vf (yww T) (U.mono (by decide)) rfl T.Lz T.Lm.kp T.Ly .nil xz (ya (pv 1) (ya (pv 2) (ya (pv 3) ye (yb rfl)) (yb rfl)) (yb rfl))))) (yf (v9 (yx ub (pv 0) yg (vg _)) (yf (ve (vf (yw1 T) (U.mono (by decide)) rfl T.M4 T.Ln.kp T.M0 .nil xz (ya (pv 1) (ya (pv 2) (ya (pv 3) ye (yb rfl)) (yb rfl)) (yb rfl))))) (yf (v9 (yx ub (pv 0) yg (vg _)) (yf (ve (yaz T.Ld (yhz T) (U.mono (by decide)) rfl T.Lc T.C7.B .nil xz (ya (pv 1) ye (yb rfl))))) (yf (ve (vf (yfc T) (U.mono (by decide)) rfl T.At.m T.At.F.kp T.At.B .nil xz (ya (pv 3) ye (yb rfl)))))))))))))) ⟨rfl,rfl⟩ rfl T.Bv (fun pn x=>(yj (vc (i:=4) yhx.nd rfl (Or.inl rfl) (vq (ya (yr (id:="isinstance") (r:=ylo K) ya3 rfl T.A3 (by right) (ya (pv 5) (ya (xt rfl T.Le) ye (yb rfl)) (yb rfl))) (ya (yr (id:="isinstance") (r:=ylo K) ya3 rfl T.A3 (by right) (ya (pv 5) (ya (xt rfl T.Fc) ye (yb rfl)) (yb rfl))) (ya (yr (id:="isinstance") (r:=ylo K) ya3 rfl T.A3 (by right) (ya (pv 5) (ya (uu (T:="ValueError") rfl T.Bt (by right)) ye (yb rfl)) (yb rfl))) ye (yb rfl)) (yb rfl)) (yb rfl)))) (yf (ve (yup (K:=K) (r:=ydz) rfl PySem.F.plainAttrs_list PySem.F.slot_list_append PySem.F.type_list_append xg (pv 4) (ya (yr (id:="isinstance") (r:=yli K) yef rfl T.A3 (by right) (ya (pv 5) (ya (xo (ya (xt rfl T.Lr) (ya (xt rfl T.N2) (ya (xt rfl T.Lq) (ya (xt rfl T.Kf) (ya (xt rfl T.Kg) (ya (xt rfl T.N3) ye (yb rfl)) (yb rfl)) (yb rfl)) (yb rfl)) (yb rfl)) (yb rfl))) ye (yb rfl)) (yb rfl))) ye (yb rfl))))))) yhx.nd rfl rfl) (yf (yv (pv 4))))),?_⟩
  exists 4,2
  rfl'
  refine ⟨by walk_at "len",fun r hr0=>?_⟩
  with_reducible first | refine yk hr0 fun H1 S1 e1=>?_ | refine yn hr0 fun H1 S1 e1=>?_
  rfl'
  have d:∀ q j,(∀ c o,H1 c=some o->j c=some o)->j q=some (.lst (bs.map V.bl))->(q=r\/H1 q=none)->Q (.ref q) j:=fun q j S e hq=>by
   refine k q j ?_ e (S1.trans S)
   rcases hq with rfl | hq
   ·exact hr0
   ·exact S1.free hq
  rcases h with ⟨w0,w2,h⟩ | ⟨rfl,h⟩ | ⟨rfl,h⟩
  ·have hP:=h.same S1
   obtain rfl | rfl | rfl:w=0\/w=1\/w=2:=by omega
   ·refine yb1 rfl ?_
    rfl'
    refine ⟨I,W,J,rfl,hP.imp (fun C j S e=>?_) (fun n Z Y ts N tt hz e r' tu j _ _ S=>?_)⟩
    ·obtain ⟨D,R,v⟩:=e
     cases R
     refine ybu T v fun q g t l y=>?_
     rfl'
     exact d q g (S.trans y) l (.inr (S.free t))
    ·rfl'
     exact d r _ S (by rw [e]; exact S _ _ e1) (.inl rfl)
   ·refine zw (by decide) ?_
    rfl'
    refine yb1 rfl ?_
    rfl'
    refine ⟨I,W,J,rfl,hP.imp (fun C j S e=>?_) (fun n Z Y ts N tt hz e r' cl j _ _ _ _ _ S=>?_)⟩
    ·obtain ⟨D,R,v⟩:=e
     cases R
     refine ybu T v fun q g t l y=>?_
     rfl'
     exact d q g (S.trans y) l (.inr (S.free t))
    ·rfl'
     exact d r _ S (by rw [e]; exact S _ _ e1) (.inl rfl)
   ·refine zw (by decide) ?_
    rfl'
    refine zw (by decide) ?_
    rfl'
    refine yb1 rfl ?_
    rfl'
    refine ⟨I,W,J,rfl,hP.imp (fun C j S e=>?_) (fun n Z Y ts N tt hz e j S=>?_)⟩
    ·obtain ⟨D,R,v⟩:=e
     cases R
     refine ybu T v fun q g t l y=>?_
     rfl'
     exact d q g (S.trans y) l (.inr (S.free t))
    ·rfl'
     exact d r _ S (by rw [e]; exact S _ _ e1) (.inl rfl)
  ·refine zw (by decide) ?_
   rfl'
   refine zw (by decide) ?_
   rfl'
   refine zw (by decide) ?_
   rfl'
   refine yb1 rfl ?_
   rfl'
   intro p X np a1 a5
   have S0:yz H1 (upd (upd H1 X (.own p)) p (.ins a.A0 X [])):=fun b o e=>by rw [ym (yc e np),ym (yc e a1)]; exact e
   have SH:=S1.trans S0
   rcases h with ⟨v,z⟩ | ⟨L,n,lk,Z,tp,Y,rfl,hL,n1,n6,a2,z⟩
   ·refine ⟨p,X,I,rfl,yd,.inl ⟨v.same SH,fun j M=>?_⟩⟩
    refine ybu T (.inl ⟨rfl,z⟩) fun q g t l y=>?_
    rfl'
    exact d q g ((S0.trans M).trans y) l (.inr ((S0.trans M).free t))
   ·refine ⟨p,X,.ref L,rfl,yd,.inr ⟨L,n,lk,Z,tp,Y,rfl,SH _ _ hL,n1,n6,a2.same SH,fun A f O H2 N1 B1=>⟨rfl,?_⟩⟩⟩
    rfl'
    have G:yz H1 H2:=fun b o e=>B1 b o (S0 b o e) (yc e np)
    exact d r _ G (by rw [z]; exact G _ _ e1) (.inl rfl)
  ·refine zw (by decide) ?_
   rfl'
   refine zw (by decide) ?_
   rfl'
   refine zw (by decide) ?_
   rfl'
   refine zw (by decide) ?_
   rfl'
   rcases h with ⟨v,z⟩ | ⟨N,u,lt,tt,a3,hu,hN,z⟩
   ·refine .inl ⟨J,rfl,v.same S1,fun j M=>?_⟩
    refine ybu T (.inr ⟨rfl,z⟩) fun q g t l y=>?_
    rfl'
    exact d q g (M.trans y) l (.inr (M.free t))
   ·refine z0 (a3.same S1) hu hN fun r' cx H2 _ _ _ G=>?_
    rfl'
    exact d r _ G (by rw [z]; exact G _ _ e1) (.inl rfl)
theorem FW.fork {H:Hp} {n:Nat} {kd:Nat->Fin 3} {ps:Nat->List Int} {X:FX} {W:Addr->Prop} {Q:VK} {E:XK} (h:FW K a H p n kd ps X M W) (hM:M+20 < 100000)
  (k:∀ q W' H',FW K a H' q n kd ps X (M+6) W'->(∀ c,W' c->H c=none)->yz H H'->Q (.ref q) H'):ydo K a [.ref p] H Q E:=by
 obtain ⟨A,f,O,m,l,G,y,rfl,rfl,rfl,u,L,F⟩:=h
 have J:=l.n6
 refine ⟨p,A,X,f,O,m,rfl,l,y,by omega,fun q o s r H' B d b g C x I D t v i S=>k q (Own q o r) H' ⟨o,s,r,m+A.n,d,by omega,b,g,C,x,u,by omega,fun c=>Iff.rfl⟩ (fun c w=>?_) S⟩
 rcases w with z | z | ⟨j,e,z⟩ | ⟨j,e,z⟩ | z | z
 ·rw [z]; exact B
 ·rw [z]; exact v
 ·rw [z]; exact t j (by rw [<- g]; exact e)
 ·exact D j c (by rw [<- g]; exact e) z
 ·exact i c (.inr (.inl z))
 ·exact i c (.inr (.inr (.inl z)))
theorem ybz:yo ["_law_looks_here","_law_thing","_law_foreteller","_law_kept","_law_bad","e","_law_one"] ["_law_looks_here","_law_thing"] (yh ys2):=xc (by right)
inductive ycq (K:W.Frag) (vs:List V) (H:Hp) (Q:VK) (E':XK):Prop
 | mk (L:Addr) (x:V) (nx:String) (n:Nat) (lk:Nat->Addr) (kd:Nat->Fin 3) (tp:Nat->Addr) (ps:Nat->List Int):(vs=[.ref L,x])->(H L=some (.lst (refs lk n)))->(1 <= n)->(n <= 6)->(zg H n lk kd tp ps)->(xp K H x (.type nx))->(yai x=false)->(∀ H',yz H H'->Q (.bl true) H')->ycq K vs H Q E'
theorem ytw (T:Txt K mg a):wa P w K mg base CX0 9 a.Jj a.Jk ["_law_looks_here","_law_thing"] (ycq K):=by
 refine T.Dx.F.ok ybz (fun vs H Q E h=>?_) (fun aC A ac s H vs Q E g h=>?_)
 ·left
 ·obtain ⟨L,x,nx,n,lk,kd,tp,I,rfl,hL,n1,n6,hR,tx,hb,k⟩:=h
  refine ⟨_,(yj (vc (i:=2) ybz.nd rfl (Or.inl rfl) (yaz T.Ld (yhz T) (g.mono (by decide)) rfl T.Lc T.C7.B .nil wf (ya (pv 0) ye (yb rfl)))) (yj (ve (xj (pv 2) T.A8 T.C0.m (yhw T) (g.mono (by decide)) T.C0.B .nil wf (ya yg ye (yb rfl)))) (yj (vc (i:=3) ybz.nd rfl (Or.inl rfl) (vq (ya (vk (pv 2) T.A8 T.Be.m (ycz T) (g.mono (by decide)) T.Be.B .nil y7) (ya (vk (pv 2) T.A8 T.D2.m (yn3 T) (g.mono (by decide)) T.D2.B .nil y7) (ya (vk (pv 2) T.A8 T.D1.m (yov T) (g.mono (by decide)) T.D1.B .nil y7) ye (yb rfl)) (yb rfl)) (yb rfl)))) (yj (vc (i:=4) ybz.nd rfl (Or.inl rfl) xy) (yj (yoi (i:=5) (fun pn Ex=>(yf (ve (xj (pv 2) T.A8 T.C0.m (yhw T) (g.mono (by decide)) T.C0.B .nil xz (ya (pv 1) ye (yb rfl)))))) ⟨rfl,rfl⟩ rfl T.Lr (fun pn x=>(yf (vc (i:=4) ybz.nd rfl (Or.inl rfl) (yyf (ylg (yr (id:="isinstance") (r:=ylo K) ya3 rfl T.A3 (by right) (ya (pv 5) (ya (xt rfl T.Bv) ye (yb rfl)) (yb rfl)))) (ji (yr (id:="isinstance") (r:=yli K) yef rfl T.A3 (by right) (ya (pv 5) (ya (xo (ya (xt rfl T.Le) (ya (xt rfl T.Fc) (ya (xt rfl T.Lq) ye (yb rfl)) (yb rfl)) (yb rfl))) ye (yb rfl)) (yb rfl)))))))) ybz.nd rfl rfl) (yj (j6 PassesOwn.never rfl (vz (vq (ya (pv 2) (ya (vk (pv 2) T.A8 T.F2.m (yuo T) (g.mono (by decide)) T.F2.B .nil y7) ye (yb rfl)) (yb rfl)))) (v6 (i:=6) ybz.nd rfl (Or.inl rfl)) (yf (v9 (yx (ycv g.units) (vq (ya (vk (pv 6) T.A8 T.Be.m (ycz T) (g.mono (by decide)) T.Be.B .nil y7) (ya (vk (pv 6) T.A8 T.D2.m (yn3 T) (g.mono (by decide)) T.D2.B .nil y7) (ya (vk (pv 6) T.A8 T.D1.m (yov T) (g.mono (by decide)) T.D1.B .nil y7) ye (yb rfl)) (yb rfl)) (yb rfl))) (pv 3) (vg _)) (yf (yv xy)) y8))) (yf (yv (ylg (pv 4)))))))))),?_⟩
  exists 2,5
  rfl'
  intro p dp np ag au
  refine FW.new np ag hL n1 n6 hR fun W H1 hF nW S1=>⟨rfl,?_⟩
  obtain ⟨A1,f1,O1,m1,ae,_⟩:=id hF
  have az:=ae.me
  rfl'
  refine .inr (hF.see (by decide) (by decide) (by omega) fun W2 H2 C ai=>?_)
  obtain ⟨S2,aw⟩:=ai.bs S1 nW
  generalize (FX0 n kd).see (fa0 n I) 1=X at C
  have d:∀ {J:Hp} {q:Addr} {M:Nat} {U:Addr->Prop},FW K a J q n kd I X M U->∃ A f O m,u7 K a J q A X f O m/\X.cs A=X.cs (fa0 n I):=fun h=>by
   obtain ⟨A,f,O,m,hA,_,_,eN,_,eP,_⟩:=h
   refine ⟨A,f,O,m,hA,?_⟩
   unfold FX.cs FX.key
   rw [eN,eP]
   rfl
  obtain ⟨A2,f2,O2,m2,N,am⟩:=d C
  have aB:=N.me
  rfl'
  refine ⟨p,A2,X,f2,O2,m2,rfl,N,fun c H3 av a2 S3=>?_⟩
  have Y:=N.same S3
  have a7:=Y.me
  rfl'
  refine ⟨p,A2,X,f2,O2,m2,rfl,Y,?_⟩
  rfl'
  refine ⟨p,A2,X,f2,O2,m2,rfl,Y,fun wv H4 aA aj S4=>?_⟩
  rfl'
  refine ⟨by walk_at "len",fun kp gk=>?_⟩
  with_reducible first | refine yk gk fun H5 S5 ek=>?_ | refine yn gk fun H5 S5 ek=>?_
  have a1:=S3.trans (S4.trans S5)
  have af:=C.same a1
  have ak:=S5 _ _ (S4 _ _ a7)
  rw [am] at a2
  have a5:=S2.trans a1
  rfl'
  refine .inl ⟨p,_,_,x,nx,rfl,ak,ud a5 tx,hb,?_⟩
  refine ysk T.D6 fun e he=>?_
  dsimp only [List.set]
  with_reducible first | refine yk he fun H6 S6 e6=>?_ | refine yn he fun H6 S6 e6=>?_
  rfl'
  refine yfh e6 T.Lf T.Ak ?_
  rfl'
  refine ⟨by walk_at "len",fun ay ht'=>?_⟩
  with_reducible first | refine yk ht' fun H7 S7 e7=>?_ | refine yn ht' fun H7 S7 e7=>?_
  rfl'
  refine yle (Cs:=[a.Ah,a.Ae,a.B7]) (k:=false) e7 (S7 _ _ e6) T.Lf (by first | exact T.E8 | exact T.E9) ?_
  have a0:=S6.trans S7
  have R:=af.same a0
  obtain ⟨A7,f7,O7,m7,ad,aq⟩:=d R
  have as:=ad.me
  rfl'
  dsimp only [yb6.un,List.set]
  rfl'
  refine R.fork (by omega) fun q W8 H8 ah ar S8=>?_
  rfl'
  refine ⟨by walk_at "len",fun lo go=>?_⟩
  have S9:=vd (o:=(HO.lst [V.ref p,V.ref q])) go
  have e9:upd H8 lo (HO.lst [V.ref p,V.ref q]) lo=some (HO.lst [V.ref p,V.ref q]):=yd
  generalize upd H8 lo (HO.lst [V.ref p,V.ref q])=H9 at S9 e9 ⊢
  have a4:=S8.trans S9
  have al:=R.same a4
  have a3:=ah.same S9
  have l:=a0.trans a4
  have u:∀ {J:Hp} {r c w:Addr},J r=some (.lst [.ref c,.int X.nd,.ref w])->J c=some (.lst ((X.cs (fa0 n I)).map V.int))->J w=some (.lst (X.ws.map V.int))->Sd K J (.ref r) (.list [.list ((X.cs (fa0 n I)).map PyData.int),.int X.nd,.list (X.ws.map PyData.int)]) 2:=fun h1 h2 h3 =>
   Sd.lst (SqL.of h1) (.cons (Sd.lst (SqL.of h2) (Sds.ints _)) (.cons (Sd.int _) (.cons (Sd.lst (SqL.of h3) (Sds.ints _)) .nil)))
  have a8:=l _ _ (S5 _ _ (S4 _ _ a2))
  have ab:=l _ _ (S5 _ _ aj)
  have aa:=l _ _ ek
  refine ⟨lo,rfl,⟨_,SqL.of e9⟩,uo (K:=K) (a:=lo) (xs:=[V.ref p,V.ref q]) (D:=⟨_,_,fun _ _=>False,fun _ _=>False⟩) (fun i σ2 G=>∃ v:Option V,σ2=[some (.ref L),some x,some (.ref p),some (.ref kp),some (.bl false),none,v]/\yz H9 G) ⟨_,rfl,yz.refl _⟩ (fun i σ2 G _ ⟨_,_,S⟩=>SqL.of (S _ _ e9)) ?_ ?_⟩
  ·rintro i y σ2 G hy ⟨v,rfl,S⟩
   obtain ⟨o,M,U,rfl,a6⟩:∃ (o:Addr) (M:Nat) (U:Addr->Prop),y=.ref o/\FW K a H9 o n kd I X M U:=by
    match i,hy with
    | 0,hy=>cases hy; exact ⟨p,_,_,rfl,al⟩
    | 1,hy=>cases hy; exact ⟨q,_,_,rfl,a3⟩
   obtain ⟨Ao,fo,Oo,mo,z,a9⟩:=d (a6.same S)
   have ax:=z.me
   rfl'
   refine ⟨o,Ao,X,fo,Oo,mo,rfl,z,fun c1 G1 ap t T1=>?_⟩
   have b:=z.same T1
   have ao:=b.me
   rw [a9] at t
   rfl'
   refine ⟨o,Ao,X,fo,Oo,mo,rfl,b,?_⟩
   rfl'
   refine ⟨o,Ao,X,fo,Oo,mo,rfl,b,fun w1 G2 an Z T2=>?_⟩
   rfl'
   refine ⟨by walk_at "len",fun r1 g1=>?_⟩
   with_reducible first | refine yk g1 fun G3 T3 e3=>?_ | refine yn g1 fun G3 T3 e3=>?_
   have j:=S.trans (T1.trans (T2.trans T3))
   rfl'
   refine ym5 (u e3 (T3 _ _ (T2 _ _ t)) (T3 _ _ Z)) (u (j _ _ aa) (j _ _ a8) (j _ _ ab)) (by decide) ?_
   rfl'
   exact ⟨_,rfl,j⟩
  ·rintro σ2 G ⟨v,rfl,S⟩
   exact ⟨.bl false,rfl,false,rfl,k _ (a5.trans (l.trans S))⟩
theorem yh3:yo ["_law_learned_here","_law_kept","_law_found","_law_text_here"] ["_law_learned_here"] (yh ysp):=xc (by right)
theorem ygt {J:Hp} {tu:Nat->Addr} :∀ (is:List Nat),(∀ i∈is,J (tu i)=some (.lst ((tt i).map V.int)))->Sds K J (is.map fun i=>V.ref (tu i)) (is.map fun i=>PyData.list ((tt i).map PyData.int)) 1
 | [],_=>.nil
 | i :: r,h=>.cons (Sd.lst (SqL.of (h i (by simp))) (Sds.ints _)) (ygt r fun j a=>h j (by simp [a]))
inductive yj6 (K:W.Frag) (vs:List V) (H:Hp) (Q:VK) (E':XK):Prop
 | mk (l:Addr) (m:Nat) (tx:Nat->Addr) (tt:Nat->List Int):(vs=[.ref l])->(H l=some (.lst (refs tx m)))->(m <= 3)->((∀ i,i < m->jp H (tx i) (tt i) 900))->(∀ H',yz H H'->Q (.bl true) H')->yj6 K vs H Q E'
theorem yvs (T:Txt K mg a):wa P w K mg base CX0 6 a.Jl a.Jm ["_law_learned_here"] (yj6 K):=by
 refine T.Dy.F.ok yh3 (fun vs H Q E h=>?_) (fun ak A a9 s H vs Q E hr h=>?_)
 ·left
 ·obtain ⟨l,m,tx,W,rfl,hl,hm,ht,k⟩:=h
  refine ⟨_,(yj (yhg (i:=1) (js:=[]) (ys:=[]) yh3.nd rfl rfl rfl (vz (pv 0)) (fun C s2 H2 fp=>(vm (r:=ygg K) vi rfl T.Ab (by right) (ya (pv 0) ye (yb rfl)))) rfl rfl (hyc:=yw) (hrel:=yw)) (yj (vc (i:=2) yh3.nd rfl (Or.inl rfl) (vf (yfc T) (hr.mono (by decide)) rfl T.At.m T.At.F.kp T.At.B .nil wf (ya (pv 0) ye (yb rfl)))) (yj (v9 (PW.pt (yd1 (xv (uc (yr vy rfl T.A3 (by right) (ya (pv 2) (ya (uu (T:="list") rfl T.Ab (by right)) ye (yb rfl)) (yb rfl))))) (yd1 (yx (ycv hr.units) (pv 2) (pv 1) (vg _)) (yfi (yx (ycv hr.units) (vf (yfc T) (hr.mono (by decide)) rfl T.At.m T.At.F.kp T.At.B .nil wf (ya j3 ye (yb rfl))) (vq ye) (vg _)))))) (yf (yv xy)) y8) (yj (j6 PassesOwn.never rfl (vz (pv 2)) (v6 (i:=3) yh3.nd rfl (Or.inl rfl)) (yf (ve (yb4 PySem.F.plainAttrs_list PySem.F.slot_list_append PySem.F.type_list_append xg (pv 3) (ya yg ye (yb rfl)))))) (yj (ve (yb4 PySem.F.plainAttrs_list PySem.F.slot_list_append PySem.F.type_list_append xg (pv 2) (ya (vq ye) ye (yb rfl)))) (yf (yv (zf (jo (yk2 hr.units) (pv 0) (pv 1) (vg _)) (ji (jo (yk2 hr.units) (vf (yfc T) (hr.mono (by decide)) rfl T.At.m T.At.F.kp T.At.B .nil wf (ya (pv 0) ye (yb rfl))) (pv 1) (vg _))))))))))),?_⟩
  exists 1,3
  rfl'
  refine ⟨l,rfl,⟨_,SqL.of hl⟩,fun D hD=>?_⟩
  have t:∀ {J:Hp} {q:Addr} {tu:Nat->Addr},J q=some (.lst (refs tu m))->(∀ i,i < m->J (tu i)=some (.lst ((W i).map V.int)))->Sd K J (.ref q) (.list ((List.range m).map fun i=>PyData.list ((W i).map PyData.int))) 2:=fun {J q tu} hq p=>by
   refine Sd.lst (SqL.of hq) ?_
   exact ygt (List.range m) fun i h=>p i (List.mem_range.mp h)
  refine zy (K:=K) (xs:=refs tx m) (fun i G=>∃ Y:Nat->Addr,G D=some (.lst (refs Y i))/\(∀ j,j < i->G (Y j)=some (.lst ((W j).map V.int))/\H (Y j)=none/\Y j≠D)/\yz H G) ⟨fun _=>0,yd,fun j u=>absurd u (Nat.not_lt_zero j),vd hD⟩ (fun i G _ ⟨_,_,_,S⟩=>SqL.of (S _ _ hl)) (fun i y G hy p z=>?_) (fun H1 z=>?_)
  ·obtain ⟨Y,gD,gC,S⟩:=z
   obtain ⟨rfl,R⟩:=wt hy
   rfl'
   refine xk (SqL.of (S _ _ (ht i R).l)) fun b gb=>?_
   have ac:=ww (o':=HO.lst ((W i).map V.int)) gb gD
   have nb:b≠D:=(yc gD gb).symm
   refine wb (n:=(refs tx m).length) ac (vj (by rw [yt]; omega)) p ?_
   refine ⟨upN Y i b,?_,fun j u=>?_,fun d o e=>yi (yc e hD) (ww gb (S d o e))⟩
   ·rw [yd,w9,vw]
    congr 3
    exact wx fun j u=>(vp u).symm
   ·by_cases z:j=i
    ·rw [z,vw]
     exact ⟨yi nb yd,S.free gb,nb⟩
    ·have a3:j < i:=by omega
     rw [vp a3]
     obtain ⟨g1,g2,g3⟩:=gC j a3
     exact ⟨yi g3 (ww gb g1),g2,g3⟩
  obtain ⟨Y,gD,gC,S1⟩:=z
  rw [yt] at gD gC
  have a7:ypj H (.ref l) m 900 tx W:=⟨.inr ⟨l,rfl,hl⟩,ht⟩
  rfl'
  refine z0 (a7.same S1) (by decide) (by omega) fun f L H2 ae N a0 S2=>?_
  have ab:=S1.trans S2
  rfl'
  refine yab (.lst N) (ymw (.lst N)) ?_
  rfl'
  refine ylm rfl ?_
  rfl'
  have af:=t (S2 _ _ gD) fun i p=>S2 _ _ (gC i p).1
  refine ym5 (t N fun i p=>(a0 i p).2) af (by decide) ?_
  rfl'
  refine .inr (.inl ⟨rfl,fun x0 H3 al ag S3=>?_⟩)
  rfl'
  refine ⟨by walk_at "len",fun x1 g1=>?_⟩
  with_reducible first | refine yk g1 fun H4 S4 e4=>?_ | refine yn g1 fun H4 S4 e4=>?_
  refine yzo [] [] (SqL.of (S4 _ _ ag)) (SqL.of e4) ?_
  rfl'
  refine ylm rfl ?_
  have M:=S3.trans S4
  have aj:=ab.trans M
  have O:=M _ _ N
  have a1:∀ i,i < m->H4 (L i)=some (.lst ((W i).map V.int)):=fun i p=>M _ _ (a0 i p).2
  have a5:∀ i,i < m->H1 (L i)=none:=fun i p=>(a0 i p).1
  have a4:∀ i,i < m->L i≠f:=fun i p z=>by
   have e:=a1 i p
   rw [z,O] at e
   have e:=HO.lst.inj (Option.some.inj e)
   have ad:1 <= m:=by omega
   have e0:=yj5 (g:=L) ad
   rw [e,List.getElem?_map] at e0
   cases q:(W i)[0]? with
   | none=>rw [q] at e0; cases e0
   | some x=>rw [q] at e0; cases e0
  rfl'
  refine ⟨f,rfl,⟨_,SqL.of O⟩,uo (K:=K) (a:=f) (xs:=refs L m) (fun i σ2 G=>∃ v:Option V,σ2=[some (.ref l),some (.ref D),some (.ref f),v]/\(∀ c o,H4 c=some o->(∀ j,j < m->c≠L j)->G c=some o)/\(∀ j,j < m->∃ us:List V,G (L j)=some (.lst us)/\us.length <= 900+i)) ⟨_,rfl,fun c o e _=>e,fun j u=>⟨_,a1 j u,by rw [List.length_map]; exact (ht j u).z⟩⟩ (fun i σ2 G _ ⟨_,_,fr,_⟩=>SqL.of (fr _ _ O fun j u z=>a4 j u z.symm)) ?_ ?_⟩
  ·rintro i y σ2 G hy ⟨v,rfl,fr,Z⟩
   obtain ⟨rfl,R⟩:=wt hy
   obtain ⟨us,hu,ai⟩:=Z i R
   rfl'
   refine yb2 hu ?_
   rfl'
   refine ul hu (vj (by omega)) ?_
   rfl'
   refine ⟨_,rfl,fun c o e n=>yi (n i R) (fr c o e n),fun j u=>?_⟩
   by_cases z:L j=L i
   ·rw [z]
    exact ⟨_,yd,by rw [List.length_append]; show us.length+1 <= _; omega⟩
   ·obtain ⟨aa,h1,h2⟩:=Z j u
    exact ⟨aa,yi z h1,by omega⟩
  ·rintro σ2 H5 ⟨v,rfl,fr,Z⟩
   have a8:=fr _ _ O fun j u z=>a4 j u z.symm
   have X:∀ c o,H1 c=some o->H5 c=some o:=fun c o e=>fr _ _ (M _ _ (S2 _ _ e)) fun j u z=>by rw [z,a5 j u] at e; cases e
   rfl'
   refine yb2 a8 ?_
   rfl'
   refine ⟨by walk_at "len",fun x2 g2=>?_⟩
   with_reducible first | refine yk g2 fun H6 S6 e6=>?_ | refine yn g2 fun H6 S6 e6=>?_
   rfl'
   refine ul (S6 _ _ a8) (vj (by rw [yt]; omega)) ?_
   have I:∀ c o,H1 c=some o->upd H6 f (.lst (refs L m++[V.ref x2])) c=some o:=fun c o e=>yi (yc e ae) (S6 _ _ (X c o e))
   generalize upd H6 f (.lst (refs L m++[V.ref x2]))=H7 at I ⊢
   have U:yz H H7:=fun c o e=>I c o (S1 c o e)
   rfl'
   refine ym5 (t (U _ _ hl) fun i p=>U _ _ (ht i p).l) (t (I _ _ gD) fun i p=>I _ _ (gC i p).1) (by decide) ?_
   rfl'
   refine z0 (a7.same U) (by decide) (by omega) fun f2 am H8 ah a6 a2 S8=>?_
   rfl'
   refine ym5 (t a6 fun i p=>(a2 i p).2) (t (S8 _ _ (I _ _ gD)) fun i p=>S8 _ _ (I _ _ (gC i p).1)) (by decide) ?_
   exact k _ (U.trans S8)
theorem u5:yo ["_law_script","_law_looks_here","_law_cell","_law_text_here","_law_learned_here","_law_good","_law_due","_law_way"] ["_law_script"] (yh ys3):=xc (by right)
inductive yff (K:W.Frag) (vs:List V) (H:Hp) (Q:VK) (E':XK):Prop
 | mk (l:Addr) (ns:List Int):(vs=[.ref l])->(SqL K H l (ns.map V.int))->(ns.length <= 63)->(∀ H',Q (.bl true) H')->yff K vs H Q E'
def lB:List Bool:=[true,false,true,false]
def tB:List Bool:=[false,true,true,false]
theorem yvw (T:Txt K mg a):wa P w K mg base CX0 12 a.K7 a.Em ["_law_script"] (yff K):=by
 refine T.F3.F.ok u5 (fun vs H Q E h=>?_) (fun bp A b4 s H vs Q E p h=>?_)
 ·left
 ·obtain ⟨l,ns,rfl,hS,bf,k⟩:=h
  refine yq (vc (i:=1) u5.nd rfl (Or.inl rfl) (y6 (ywi T) (p.mono (by decide)) rfl T.Dt.m T.Dt.F.kp T.Dt.B .nil y7 (ya (pv 0) ye (yb rfl)))) ?_
  refine yq (vc (i:=2) u5.nd rfl (Or.inl rfl) (y6 (jh T) (p.mono (by decide)) rfl T.Ac.m T.Ac.F.kp T.Ac.B .nil y7 (ya (pv 0) (ya yg ye (yb rfl)) (yb rfl)))) ?_
  refine yq (vc (i:=3) u5.nd rfl (Or.inl rfl) (y6 (yok T) (p.mono (by decide)) rfl T.C9.m T.C9.F.kp T.C9.B .nil y7 (ya (pv 0) (ya yg (ya (yu wg (yu vh (pv 2) yg) yg) ye (yb rfl)) (yb rfl)) (yb rfl)))) ?_
  refine yq (vc (i:=4) u5.nd rfl (Or.inl rfl) (jx ydy (vq (ya (y6 (yok T) (p.mono (by decide)) rfl T.C9.m T.C9.F.kp T.C9.B .nil y7 (ya (pv 0) (ya yg (ya yg ye (yb rfl)) (yb rfl)) (yb rfl))) (ya (vq ye) ye (yb rfl)) (yb rfl))) ybt (ybs (yu wg (yu vh (pv 2) yg) yg)))) ?_
  refine yq (vc (i:=5) u5.nd rfl (Or.inl rfl) (vq (ya (vm vi rfl T.Ab (by right) (ya (pv 1) ye (yb rfl))) (ya (vm vi rfl T.Ab (by right) (ya (pv 3) ye (yb rfl))) (ya (wu (js:=[]) (ys:=[]) rfl (vz (pv 4)) (fun C s2 H2 fp=>(vm (r:=ygg K) vi rfl T.Ab (by right) (ya (pv 0) ye (yb rfl)))) rfl rfl (hyc:=yw) (hrel:=yw)) ye (yb rfl)) (yb rfl)) (yb rfl)))) ?_
  refine yq (vc (i:=6) u5.nd rfl (Or.inl rfl) (vq ye)) ?_
  refine yq (ybx (v9 (yx ub (yu wg (pv 2) yg) yg (vg _)) (yj (vc (i:=1) u5.nd rfl (Or.inl rfl) (y6 (yw4 T) (p.mono (by decide)) rfl T.Dv.m T.Dv.F.kp T.Dv.B .nil y7 (ya (pv 1) (ya (y6 (jh T) (p.mono (by decide)) rfl T.Ac.m T.Ac.F.kp T.Ac.B .nil y7 (ya (pv 0) (ya yg ye (yb rfl)) (yb rfl))) ye (yb rfl)) (yb rfl)))) (yf (vc (i:=6) u5.nd rfl (Or.inl rfl) (vq (ya xy (ya xy (ya xy (ya xy ye (yb rfl)) (yb rfl)) (yb rfl)) (yb rfl)))))) y8)) ?_
  refine yq (ybx (v9 (yx ub (yu wg (yu vh (pv 2) yg) yg) yg (vg _)) (yf (vc (i:=3) u5.nd rfl (Or.inl rfl) (y6 (ynr T) (p.mono (by decide)) rfl T.Ca.m T.Ca.F.kp T.Ca.B .nil y7 (ya (pv 3) (ya (y6 (jh T) (p.mono (by decide)) rfl T.Ac.m T.Ac.F.kp T.Ac.B .nil y7 (ya (pv 0) (ya yg ye (yb rfl)) (yb rfl))) ye (yb rfl)) (yb rfl))))) y8)) ?_
  refine yq (ybx (v9 (yx ub (yu wg (yu vh (pv 2) yg) yg) yg (vg _)) (yf (vc (i:=4) u5.nd rfl (Or.inl rfl) (y6 (yt1 T) (p.mono (by decide)) rfl T.Dw.m T.Dw.F.kp T.Dw.B .nil y7 (ya (pv 4) (ya (y6 (jh T) (p.mono (by decide)) rfl T.Ac.m T.Ac.F.kp T.Ac.B .nil y7 (ya (pv 0) (ya yg ye (yb rfl)) (yb rfl))) ye (yb rfl)) (yb rfl))))) y8)) ?_
  refine yq (ybx (v9 (PW.pt (yvm (yx (yk2 p.units) (pv 6) (vq ye) (vg _)) (yqt (yx ynf (yu wg (yu vh (pv 2) yg) yg) yg (vg _))))) (yf (vc (i:=6) u5.nd rfl (Or.inl rfl) (vq (ya xy (ya xy (ya xy (ya xy ye (yb rfl)) (yb rfl)) (yb rfl)) (yb rfl))))) y8)) ?_
  refine yq (vc (i:=7) u5.nd rfl (Or.inl rfl) (yu wg (y6 (jh T) (p.mono (by decide)) rfl T.Ac.m T.Ac.F.kp T.Ac.B .nil y7 (ya (pv 0) (ya yg ye (yb rfl)) (yb rfl))) yg)) ?_
  refine yq (v9 (yx (ycv p.units) (y6 (ylb T) (p.mono (by decide)) rfl T.Bu.m T.Bu.F.kp T.Bu.B .nil y7 (ya (pv 7) (ya (pv 1) (ya (pv 3) (ya (pv 4) ye (yb rfl)) (yb rfl)) (yb rfl)) (yb rfl))) (pv 6) (vg _)) (yf (yv xy)) y8) ?_
  refine yq (v9 (yx (ycv p.units) (y6 (ylb T) (p.mono (by decide)) rfl T.Bu.m T.Bu.F.kp T.Bu.B .nil y7 (ya yg (ya (pv 1) (ya (pv 3) (ya (pv 4) ye (yb rfl)) (yb rfl)) (yb rfl)) (yb rfl))) (yu yfb (vq (ya xy (ya xy (ya xy (ya xy ye (yb rfl)) (yb rfl)) (yb rfl)) (yb rfl))) (yu wg (pv 2) yg)) (vg _)) (yf (yv xy)) y8) ?_
  refine yq (v9 (yx (ycv p.units) (y6 (ylb T) (p.mono (by decide)) rfl T.Bu.m T.Bu.F.kp T.Bu.B .nil y7 (ya yg (ya (pv 1) (ya (pv 3) (ya (pv 4) ye (yb rfl)) (yb rfl)) (yb rfl)) (yb rfl))) (yu yfb (vq (ya xy (ya xy (ya xy (ya xy ye (yb rfl)) (yb rfl)) (yb rfl)) (yb rfl))) (yu wg (yu vh (pv 2) yg) yg)) (vg _)) (yf (yv xy)) y8) ?_
  refine yq (v9 (PW.pt (yd1 (xv (uc (y6 (yvs T) (p.mono (by decide)) rfl T.Dy.m T.Dy.F.kp T.Dy.B .nil y7 (ya (uj wy (pv 5) yg (fun _ _=>rfl)) ye (yb rfl))))) (yfi (xv (uc (y6 (ytw T) (p.mono (by decide)) rfl T.Dx.m T.Dx.F.kp T.Dx.B .nil y7 (ya (uj wy (pv 5) yg (fun _ _=>rfl)) (ya (uj wy (va1 (yh8 (wj (ug yg) (wj (ug (yte yk9 yg)) (wj (ug xy) (wj (ug j3) (wj (ug xh) (wj (ug (vq (ya yg ye (yb rfl)))) yh7 rfl) rfl) rfl) rfl) rfl) rfl))) (yu wg (yu vh (pv 2) yg) yg) (fun _ _=>rfl)) ye (yb rfl)) (yb rfl)))))))) (yf (yv xy)) y8) ?_
  refine ⟨_,(yf (yv (jo ub (yr y9 rfl T.As (by right) (ya (vf (yk4 T) (p.mono (by decide)) rfl T.Ka T.Jn.kp T.K9 .nil wf (ya (uj wy (pv 5) yg (fun _ _=>rfl)) (ya (uj wy (pv 5) yg (fun _ _=>rfl)) (ya (uj wy (pv 5) yg (fun _ _=>rfl)) ye (yb rfl)) (yb rfl)) (yb rfl))) ye (yb rfl))) (yu w6 (yu u4 yg (yr y9 rfl T.As (by right) (ya (uj wy (pv 5) yg (fun _ _=>rfl)) ye (yb rfl)))) yg) (vg _)))),?_⟩
  exists 1,7
  rfl'
  refine ⟨l,ns,rfl,hS,fun L n lk kd tp ps H1 bn aJ n1 n6 aF S1=>?_⟩
  rfl'
  refine ⟨l,ns,8,rfl,S1.seq hS,fun c=>?_⟩
  rfl'
  obtain ⟨z,hz,bj⟩:∃ z:Nat,c / 8 % 3=(z:Int)/\z <= 2:=⟨(c / 8 % 3).toNat,by omega,by omega⟩
  rw [hz]
  refine ⟨l,ns,9,z,rfl,S1.seq hS,by omega,fun t ts H2 bk b9 bb lt S2=>?_⟩
  have av:=S1.trans S2
  rfl'
  refine ⟨l,ns,11,1,rfl,av.seq hS,by decide,fun t1 aK H3 bo ax aS l1 S3=>?_⟩
  rfl'
  refine ⟨by walk_at "len",fun t2 h20=>?_⟩
  with_reducible first | refine yk h20 fun H4 S4 e4=>?_ | refine yn h20 fun H4 S4 e4=>?_
  rfl'
  refine ⟨by walk_at "len",fun tl htl=>?_⟩
  with_reducible first | refine yk htl fun H5 S5 e5=>?_ | refine yn htl fun H5 S5 e5=>?_
  rfl'
  refine ym7 (SqL.of e5) fun ll hll=>?_
  obtain ⟨m,hm,aO⟩:∃ m:Nat,c / 24 % 3=(m:Int)/\m <= 2:=⟨(c / 24 % 3).toNat,by omega,by omega⟩
  rw [hm,yax]
  have er:List.take m [V.ref t1,V.ref t2]=refs (fun j=>if j=0 then t1 else t2) m:=by
   obtain rfl | rfl | rfl:m=0\/m=1\/m=2:=by omega
   all_goals rfl
  rw [er]
  with_reducible first | refine yk hll fun H6 S6 e6=>?_ | refine yn hll fun H6 S6 e6=>?_
  have aa:=S3.trans (S4.trans (S5.trans S6))
  have a6:=S2.trans aa
  have N:∀ i,i < m->jp H6 ((fun j=>if j=0 then t1 else t2) i) ((fun j=>if j=0 then aK else ([]:List Int)) i) 900:=fun i u=>by
   dsimp only
   by_cases z:i=0
   ·rw [if_pos z,if_pos z]
    exact ⟨S6 _ _ (S5 _ _ (S4 _ _ ax)),aS,by omega⟩
   ·rw [if_neg z,if_neg z]
    exact ⟨S6 _ _ (S5 _ _ e4),fun _ z=>(nomatch z),Nat.zero_le _⟩
  generalize (fun j=>if j=0 then t1 else t2)=tx at e6 N
  generalize (fun j=>if j=0 then aK else ([]:List Int))=tt at N
  have au:=(S1.trans a6).seq hS
  have ao:=a6 _ _ aJ
  have aA:=aF.same a6
  have ai:jp H6 t ts 1000:=⟨aa _ _ b9,bb,by omega⟩
  clear hS S1 av S2 aa a6 aJ aF ax e4 e5 er S3 S4 S5 S6
  rfl'
  refine xk (SqL.of ao) fun g0 gg0=>?_
  with_reducible first | refine yk gg0 fun H7 S7 e7=>?_ | refine yn gg0 fun H7 S7 e7=>?_
  rfl'
  refine xk (SqL.of (S7 _ _ ai.l)) fun g1 gg1=>?_
  with_reducible first | refine yk gg1 fun H8 S8 e8=>?_ | refine yn gg1 fun H8 S8 e8=>?_
  have a0:=S7.trans S8
  rfl'
  refine ⟨ll,rfl,⟨_,SqL.of (a0 _ _ e6)⟩,fun D hD=>?_⟩
  refine zy (K:=K) (xs:=refs tx m) (fun i G=>∃ cx:Nat->Addr,G D=some (.lst (refs cx i))/\(∀ j,j < i->G (cx j)=some (.lst ((tt j).map V.int))/\cx j≠D)/\yz H8 G) ⟨fun _=>0,yd,fun j hj=>absurd hj (Nat.not_lt_zero j),vd hD⟩ (fun i G _ ⟨_,_,_,S⟩=>SqL.of (S _ _ (a0 _ _ e6))) (fun i y G hy u z=>?_) (fun H9 z=>?_)
  ·obtain ⟨cx,gD,gC,S⟩:=z
   obtain ⟨rfl,b6⟩:=wt hy
   rfl'
   refine xk (SqL.of (S _ _ (a0 _ _ (N i b6).l))) fun b gb=>?_
   have aY:=ww (o':=HO.lst ((tt i).map V.int)) gb gD
   have nb:b≠D:=(yc gD gb).symm
   refine wb (n:=(refs tx m).length) aY (vj (by rw [yt]; omega)) u ?_
   refine ⟨upN cx i b,?_,fun j hj=>?_,fun d o e=>yi (yc e hD) (ww gb (S d o e))⟩
   ·rw [yd,w9,vw]
    congr 3
    exact wx fun j hj=>(vp hj).symm
   ·by_cases z:j=i
    ·rw [z,vw]
     exact ⟨yi nb yd,nb⟩
    ·have az:j < i:=by omega
     rw [vp az]
     obtain ⟨g1,g3⟩:=gC j az
     exact ⟨yi g3 (ww gb g1),g3⟩
  obtain ⟨cx,gD,gC,S9⟩:=z
  rw [yt] at gD gC
  rfl'
  refine ⟨by walk_at "len",fun gd hgd=>?_⟩
  with_reducible first | refine yk hgd fun Ha Sa ea=>?_ | refine yn hgd fun Ha Sa ea=>?_
  rfl'
  refine ⟨by walk_at "len",fun d0 hd0=>?_⟩
  with_reducible first | refine yk hd0 fun Hb Sb eb=>?_ | refine yn hd0 fun Hb Sb eb=>?_
  have a7:=Sa.trans Sb
  have a3:=S9.trans a7
  have M:=a0.trans a3
  have a4:=M.seq au
  have ap:=M _ _ ao
  have Z:=aA.same M
  have a1:=ai.same M
  have aj:=M _ _ e6
  have I:∀ i,i < m->jp Hb (tx i) (tt i) 900:=fun i u=>(N i u).same M
  have aH:=a3 _ _ (S8 _ _ e7)
  have ah:=a3 _ _ e8
  have as:=a7 _ _ gD
  have aB:∀ i,i < m->jp Hb (cx i) (tt i) 900:=fun i u=>⟨a7 _ _ (gC i u).1,(N i u).s,(N i u).z⟩
  have W:=Sb _ _ ea
  clear a0 a3 M a7 S7 S8 S9 Sa Sb au ao aA ai e6 N e7 e8 gD gC ea
  rfl'
  refine ygn (fun σ' U=>∃ (vl:V) (dq:Addr) (R:Bool),σ'=[some (.ref l),some vl,some (.int c),some (.ref t),some (.ref ll),some (.ref gd),some (.ref dq),none]/\U dq=some (.lst ((if R=true then lB else []).map V.bl))/\((R=true/\ynp K U vl)\/(R=false/\vl=.ref L))/\R=decide (c % 2=1)/\yz Hb U) ?_ ?_
  ·rfl'
   refine zx (fun O=>?_) (fun O=>?_)
   ·rfl'
    refine ⟨l,ns,12,rfl,a4,fun bc=>?_⟩
    rfl'
    refine ⟨L,bc,n,lk,kd,tp,ps,rfl,ap,n1,n6,Z,fun v G1 bv T1=>?_⟩
    rfl'
    refine ⟨by walk_at "len",fun dq gdq=>?_⟩
    with_reducible first | refine yk gdq fun G2 T2 e2=>?_ | refine yn gdq fun G2 T2 e2=>?_
    rfl'
    exact ⟨v,dq,true,rfl,e2,.inl ⟨rfl,bv.same T2⟩,(decide_eq_true O).symm,T1.trans T2⟩
   ·rfl'
    exact ⟨.ref L,d0,false,rfl,eb,.inr ⟨rfl,rfl⟩,(decide_eq_false O).symm,yz.refl _⟩
  rintro σ1 Hc ⟨vl,dq,R,rfl,an,aq,aN,Sc⟩
  rfl'
  refine ygn (fun σ' U=>∃ (vt:V) (nt:String) (b2:Bool),σ'=[some (.ref l),some vl,some (.int c),some vt,some (.ref ll),some (.ref gd),some (.ref dq),none]/\xp K U vt (.type nt)/\((b2=true/\Bad K U vt nt 1000)\/(b2=false/\vt=.ref t))/\b2=decide (c / 2 % 2=1)/\yz Hc U) ?_ ?_
  ·rfl'
   refine zx (fun O=>?_) (fun O=>?_)
   ·rfl'
    refine ⟨l,ns,13,rfl,Sc.seq a4,fun aZ=>?_⟩
    rfl'
    refine ⟨t,aZ,ts,rfl,Sc _ _ a1.l,by omega,fun v nv G1 tv bv _ T1=>?_⟩
    rfl'
    exact ⟨v,nv,true,rfl,tv,.inl ⟨rfl,bv⟩,(decide_eq_true O).symm,T1⟩
   ·rfl'
    exact ⟨.ref t,_,false,rfl,.lst (Sc _ _ a1.l),.inr ⟨rfl,rfl⟩,(decide_eq_false O).symm,yz.refl _⟩
  rintro σ2 Hd ⟨vt,nt,b2,rfl,bd,aw,aM,aE⟩
  have a5:=Sc.trans aE
  rfl'
  refine ygn (fun σ' U=>∃ (vx:V) (X:Bool),σ'=[some (.ref l),some vl,some (.int c),some vt,some vx,some (.ref gd),some (.ref dq),none]/\((X=true/\ypi K U vx)\/(X=false/\vx=.ref ll))/\X=decide (c / 4 % 2=1)/\yz Hd U) ?_ ?_
  ·rfl'
   refine zx (fun O=>?_) (fun O=>?_)
   ·rfl'
    refine ⟨l,ns,14,rfl,a5.seq a4,fun aT=>?_⟩
    rfl'
    refine ⟨ll,aT,m,tx,tt,rfl,a5 _ _ aj,by omega,fun i u=>⟨a5 _ _ (I i u).l,(I i u).s,Nat.le_trans (I i u).z (by decide)⟩,fun v G1 bv T1=>?_⟩
    rfl'
    exact ⟨v,true,rfl,.inl ⟨rfl,bv⟩,(decide_eq_true O).symm,T1⟩
   ·rfl'
    exact ⟨.ref ll,false,rfl,.inr ⟨rfl,rfl⟩,(decide_eq_false O).symm,yz.refl _⟩
  rintro σ3 He ⟨vx,X,rfl,ad,ae,Se⟩
  have aW:=a5.trans Se
  have a2:=aE.trans Se
  obtain ⟨bs,f⟩:∃ bs:List Bool,bs=if R=true then lB else if b2=true\/X=true then tB else []:=⟨_,rfl⟩
  rfl'
  refine ygn (fun σ' U=>∃ ak:Addr,σ'=[some (.ref l),some vl,some (.int c),some vt,some vx,some (.ref gd),some (.ref ak),none]/\U ak=some (.lst (bs.map V.bl))/\yz He U) ?_ ?_
  ·rfl'
   refine ⟨by walk_at "len",fun q gq=>?_⟩
   with_reducible first | refine yk gq fun G1 T1 e1=>?_ | refine yn gq fun G1 T1 e1=>?_
   refine yh1 (if R=true then lB else []) [] (SqL.of (T1 _ _ (a2 _ _ an))) (SqL.of e1) ?_
   by_cases Y:R=true
   ·rw [if_pos Y] at f ⊢
    rfl'
    first | refine zx (fun z=>by cases z) (fun _=>?_) | skip
    rfl'
    refine ⟨dq,rfl,?_,T1⟩
    have e:=T1 _ _ (a2 _ _ an)
    rw [if_pos Y] at e
    rw [f]
    exact e
   ·rw [if_neg Y] at f ⊢
    rfl'
    refine zx (fun _=>?_) (fun z=>absurd rfl z)
    rfl'
    refine zx (fun O=>?_) (fun O=>?_)
    ·rfl'
     refine ⟨by walk_at "len",fun q2 gq2=>?_⟩
     with_reducible first | refine yk gq2 fun G2 T2 e2=>?_ | refine yn gq2 fun G2 T2 e2=>?_
     rfl'
     refine ⟨q2,rfl,?_,T1.trans T2⟩
     have ab:b2=true\/X=true:=by
      rw [aM,ae]
      by_cases y:c / 2 % 2=1
      ·exact .inl (decide_eq_true y)
      ·exact .inr (decide_eq_true (by omega))
     rw [if_pos ab] at f
     rw [f]
     exact e2
    ·rfl'
     refine ⟨dq,rfl,?_,T1⟩
     have ab:¬ (b2=true\/X=true):=fun y=>by
      rw [aM,ae] at y
      rcases y with y | y
      ·have:=of_decide_eq_true y; omega
      ·have:=of_decide_eq_true y; omega
     have e:=T1 _ _ (a2 _ _ an)
     rw [if_neg Y] at e
     rw [if_neg ab] at f
     rw [f]
     exact e
  rintro σ4 Hf ⟨ak,rfl,b7,Sf⟩
  have J:=aW.trans Sf
  have aD:=a2.trans Sf
  have aC:=Se.trans Sf
  have hw:6+6 * (m * (9 * 900+1))+6 * (9 * ts.length+1)+20 < 1000000:=by
   have:m * (9 * 900+1) <= 2 * (9 * 900+1):=Nat.mul_le_mul_right _ aO
   omega
  have aI:yi2 K a Hf vl vt vx (fun C _ _=>∃ D,C=.ref D/\bsR a D bs) (fun _ _ _ _ _ _=>bs=[]):=by
   refine ⟨nt,ud aC bd,?_⟩
   rcases aq with ⟨Y,am⟩ | ⟨Y,rfl⟩
   ·rw [if_pos Y] at f
    exact .inl ⟨am.same aD,fun _ _=>⟨_,rfl,.inl ⟨rfl,f⟩⟩⟩
   refine .inr ⟨L,n,lk,kd,tp,ps,rfl,J _ _ ap,n1,n6,Z.same J,?_⟩
   rw [if_neg (by rw [Y]; exact fun z=>nomatch z)] at f
   rcases aw with ⟨z2,be⟩ | ⟨z2,rfl⟩
   ·rw [if_pos (.inl z2)] at f
    exact .inl ⟨be.same aC,fun _ _=>⟨_,rfl,.inr ⟨rfl,f⟩⟩⟩
   refine .inr ⟨t,ts,rfl,a1.same J,?_⟩
   rcases ad with ⟨z3,ag⟩ | ⟨z3,rfl⟩
   ·rw [if_pos (.inr z3)] at f
    exact .inl ⟨ag.same Sf,fun _ _=>⟨_,rfl,.inr ⟨rfl,f⟩⟩⟩
   rw [if_neg (by rw [z2,z3]; exact fun z=>z.elim (fun y=>nomatch y) fun y=>nomatch y)] at f
   exact .inr ⟨m,900,tx,tt,⟨.inr ⟨ll,rfl,J _ _ aj⟩,fun i u=>(I i u).same J⟩,by decide,by omega,hw,f⟩
  rfl'
  refine ⟨l,ns,15,rfl,J.seq a4,fun aP=>?_⟩
  rfl'
  refine ⟨aP % 3,vl,vt,vx,bs,rfl,.inl ⟨by omega,by omega,aI⟩,fun r Hg bi b5 Sg=>?_⟩
  rfl'
  refine yh1 bs bs (SqL.of b5) (SqL.of (Sg _ _ b7)) ?_
  rw [decide_eq_true rfl]
  rfl'
  have ac:=J.trans Sg
  have aV:=aD.trans Sg
  have b0:=Sf.trans Sg
  refine ⟨3,vl,vt,vx,(if R=true then lB else []),rfl,.inr (.inl ⟨rfl,?_⟩),fun r3 Hh bh aQ Sh=>?_⟩
  ·rcases aq with ⟨Y,am⟩ | ⟨Y,rfl⟩
   ·exact .inl ⟨am.same aV,by rw [if_pos Y]; rfl⟩
   ·exact .inr ⟨L,n,lk,kd,tp,ps,rfl,ac _ _ ap,n1,n6,Z.same ac,by rw [if_neg (by rw [Y]; exact fun z=>nomatch z)]⟩
  rfl'
  refine ⟨by walk_at "len",fun q1 gq1=>?_⟩
  with_reducible first | refine yk gq1 fun Hi Si ei=>?_ | refine yn gq1 fun Hi Si ei=>?_
  have w2:∀ x:Int,0 <= x % 2/\x % 2 < 2:=fun x=>by omega
  have a9:∀ (x:Int) (b:Bool) (us:List Bool),b=decide (x % 2=1)->(List.replicate (x % 2).toNat (us.map V.bl)).flatten=(if b=true then us else []).map V.bl:=fun x b us e=>by
   rw [e]
   by_cases y:x % 2=1
   ·rw [y,if_pos (decide_eq_true rfl)]
    show us.map V.bl++[]=_
    rw [List.append_nil]
   ·have y0:x % 2=0:=by omega
    rw [y0,if_neg (by decide)]
    rfl
  rfl'
  refine ⟨q1,c % 2,_,rfl,rfl,ei,by have:=w2 c; omega,by have:=w2 c; omega,zt (by have:=w2 c; show 4 * (c % 2).toNat <= 16000000; omega),fun q2 gq2=>?_⟩
  have e2:(List.replicate (c % 2).toNat [V.bl true,V.bl false,V.bl true,V.bl false]).flatten=(if R=true then lB else []).map V.bl:=a9 c R lB aN
  rw [e2]
  with_reducible first | refine yk gq2 fun Hj Sj ej=>?_ | refine yn gq2 fun Hj Sj ej=>?_
  have aL:=Si.trans Sj
  refine yh1 (if R=true then lB else []) (if R=true then lB else []) (SqL.of (aL _ _ aQ)) (SqL.of ej) ?_
  rw [decide_eq_true rfl]
  rfl'
  have aG:=Sh.trans aL
  have af:=ac.trans aG
  have ba:=b0.trans aG
  refine ⟨4,vl,vt,vx,(if X=true then tB else []),rfl,.inr (.inr ⟨rfl,?_⟩),fun r4 Hk bg aR Sk=>?_⟩
  ·rcases ad with ⟨z3,ag⟩ | ⟨z3,rfl⟩
   ·exact .inl ⟨ag.same ba,by rw [if_pos z3]; rfl⟩
   ·exact .inr ⟨m,900,tx,tt,⟨.inr ⟨ll,rfl,af _ _ aj⟩,fun i u=>(I i u).same af⟩,by decide,by omega,by rw [if_neg (by rw [z3]; exact fun z=>nomatch z)]⟩
  rfl'
  refine ⟨by walk_at "len",fun q3 gq3=>?_⟩
  with_reducible first | refine yk gq3 fun Hl Sl el=>?_ | refine yn gq3 fun Hl Sl el=>?_
  rfl'
  refine ⟨q3,c / 4 % 2,_,rfl,rfl,el,by have:=w2 (c / 4); omega,by have:=w2 (c / 4); omega,zt (by have:=w2 (c / 4); show 4 * (c / 4 % 2).toNat <= 16000000; omega),fun q4 gq4=>?_⟩
  have e4:(List.replicate (c / 4 % 2).toNat [V.bl false,V.bl true,V.bl true,V.bl false]).flatten=(if X=true then tB else []).map V.bl:=a9 (c / 4) X tB ae
  rw [e4]
  with_reducible first | refine yk gq4 fun Hm Sm em=>?_ | refine yn gq4 fun Hm Sm em=>?_
  have ar:=Sl.trans Sm
  refine yh1 (if X=true then tB else []) (if X=true then tB else []) (SqL.of (ar _ _ aR)) (SqL.of em) ?_
  rw [decide_eq_true rfl]
  have a8:=af.trans (Sk.trans ar)
  clear aI aq aw ad
  rfl'
  refine zh (SqL.of (a8 _ _ W)) (xx (j:=2) rfl) ?_
  rfl'
  refine ⟨D,m,cx,tt,rfl,a8 _ _ as,by omega,fun i u=>(aB i u).same a8,fun Hn Sn=>?_⟩
  have ay:=a8.trans Sn
  rfl'
  refine zh (SqL.of (ay _ _ W)) (xx (j:=0) rfl) ?_
  rfl'
  refine ⟨by walk_at "len",fun y1 gy1=>?_⟩
  with_reducible first | refine yk gy1 fun Ho So eo=>?_ | refine yn gy1 fun Ho So eo=>?_
  rfl'
  refine ⟨by walk_at "len",fun y2 gy2=>?_⟩
  with_reducible first | refine yk gy2 fun Hp Sp ep=>?_ | refine yn gy2 fun Hp Sp ep=>?_
  have al:=ay.trans (So.trans Sp)
  rfl'
  obtain ⟨v,hv,aX⟩:=zn (xs:=[V.int 2,V.int (-1),V.bl true,V.non,V.str "1",V.ref y1]) (i:=c / 576 % 6) (Int.emod_nonneg _ (by decide)) (by show _ < (6:Int); exact Int.emod_lt_of_pos _ (by decide))
  refine zh (SqL.of ep) aX ?_
  obtain ⟨nv,tv,bv⟩:∃ nv,xp K Hp v (.type nv)/\yai v=false:=by
   simp only [List.mem_cons,List.not_mem_nil,or_false] at hv
   rcases hv with rfl | rfl | rfl | rfl | rfl | rfl
   ·exact ⟨_,.int _,by decide⟩
   ·exact ⟨_,.int _,by decide⟩
   ·exact ⟨_,.bl _,by decide⟩
   ·exact ⟨_,.non,by decide⟩
   ·exact ⟨_,.str _,by decide⟩
   ·exact ⟨_,.lst (Sp _ _ eo),rfl⟩
  rfl'
  refine ⟨g0,v,nv,n,lk,kd,tp,ps,rfl,al _ _ aH,n1,n6,Z.same al,tv,bv,fun Hq Sq=>?_⟩
  have g:=al.trans Sq
  rfl'
  refine zh (SqL.of (g _ _ W)) (xx (j:=0) rfl) ?_
  rfl'
  refine zh (SqL.of (g _ _ W)) (xx (j:=1) rfl) ?_
  rfl'
  refine zh (SqL.of (g _ _ W)) (xx (j:=2) rfl) ?_
  rfl'
  refine ⟨.ref g0,.ref g1,.ref D,rfl,_,.lst (g _ _ ah),.inr ⟨g0,n,lk,kd,tp,ps,rfl,g _ _ aH,n1,n6,Z.same g,.inr ⟨g1,ts,rfl,⟨g _ _ ah,a1.s,a1.z⟩,.inr ⟨m,900,cx,tt,⟨.inr ⟨D,rfl,g _ _ as⟩,fun i u=>(aB i u).same g⟩,by decide,by omega,hw,fun r' tu Hr aU _ Sr=>?_⟩⟩⟩⟩
  rfl'
  refine j9 (SqL.of aU.r) ?_
  rw [yt]
  rfl'
  refine zh (SqL.of (Sr _ _ (g _ _ W))) (xx (j:=1) rfl) ?_
  rfl'
  refine j9 (SqL.of (Sr _ _ (g _ _ ah))) ?_
  rw [List.length_map]
  rfl'
  have bm:=jn ts
  have eF:decide ((((dec ts).length:Nat):Int)=9 * (ts.length:Int)+1)=true:=decide_eq_true (by omega)
  first
   | (rw [eF]; exact k _)
   | exact k _
end
variable {X:FX} {f:Nat->List Int->Option Slt}
theorem all_mk {l:W.OpenLaw} {w:World} {K:W.Frag} {h:Heap} {mg:Str->Option Value} (X:K.In h) (G:h.Ns mainGlobals mg) (hfa:mg "law"=some (.ref fa))
  (Lj:GV K "Even" (.ref A6))
  (Kk:GV K "Quick" (.ref A5))
  (Lu:GV K "Run" (.ref Aa))
  (Lk:GV K "Book" (.ref A9))
  (M8:GV K "Mixer" (.ref B6))
  (M9:GV K "Foreteller" (.ref A0))
  (Ma:GV K "NoText" (.ref Ae))
  (Mb:GV K "NoChance" (.ref B7))
  (Mc:GV K "NoBit" (.ref Ad))
  (Md:GV K "NoLooks" (.ref Ah))
  (Cf:GV K "ForetellError" (.ref A4))
  (Me:GV K "NoBytes" (.ref Ck))
  (K1:GV K "NoMost" (.ref Af))
  (K2:GV K "NoName" (.ref Ag))
  (Mf:GV K "NoPress" (.ref Cl))
  (C4:Dgf K mg "is_whole" yz4 Kr Ks)
  (Js:Dgf K mg "is_bit" yz2 Kt Ku)
  (Jt:Dgf K mg "is_chance" vag Kv Kw)
  (Ju:Dgf K mg "is_sign" yz6 Kx Ky)
  (Jv:Dgf K mg "is_list_of_signs" vae Kz L0)
  (Bw:Dgf K mg "checked_text" vai L1 L3)
  (Jw:Dgf K mg "check_chance" vab L6 L7)
  (B9:Dgf K mg "check_bit" yz7 L8 L9)
  (E5:Dgf K mg "gives" yz3 La Lb)
  (Dj:Dgf K mg "bits_of" yr8 Fj Fk)
  (C5:Dgf K mg "decisions_of" ysb Fl Fm)
  (Cq:Dgm K A6 "__init__" "Even.__init__" ytm Eg Fn)
  (En:Dgm K A6 "chance" "Even.chance" ytj Fo Fp)
  (Cr:Dgm K A6 "seen" "Even.seen" yr5 Fq Fr)
  (Eo:Dgm K A6 "twin" "Even.twin" ysj Fs Ft)
  (Ct:Dgm K A5 "__init__" "Quick.__init__" yss Eh Fu)
  (Ep:Dgm K A5 "chance" "Quick.chance" ysn Fv Fw)
  (Cu:Dgm K A5 "seen" "Quick.seen" ysw Fx Fz)
  (Er:Dgm K A5 "twin" "Quick.twin" yr2 G0 G6)
  (Cv:Dgm K Aa "__init__" "Run.__init__" yry Ei G7)
  (Es:Dgm K Aa "chance" "Run.chance" ysm G8 G9)
  (Cw:Dgm K Aa "seen" "Run.seen" ytf Ga Gb)
  (Et:Dgm K Aa "twin" "Run.twin" ysz Gc Gd)
  (Dk:Dgf K mg "slot_of" ytn Ge Gf)
  (Dl:Dgf K mg "is_kind" ysh Gg Gh)
  (Dm:Dgf K mg "is_place" ys5 Gi Gj)
  (Dn:Dgf K mg "are_places" ys0 Gk Gm)
  (C6:Dgf K mg "is_look" yr9 Gn Gp)
  (Do:Dgf K mg "checked_looks" yse Gq Gr)
  (Dp:Dgf K mg "sign_back" yrz Gs Gt)
  (Dq:Dgf K mg "context_of" ys7 Gu Gv)
  (Cy:Dgm K A9 "__init__" "Book.__init__" ysl Ej Gw)
  (Eu:Dgm K A9 "slot_at" "Book.slot_at" ysf Gx Gy)
  (Ev:Dgm K A9 "twin" "Book.twin" ys1 Gz Hs)
  (Cz:Dgm K B6 "__init__" "Mixer.__init__" yrv Ek Ht)
  (Ew:Dgm K B6 "weights" "Mixer.weights" ys4 Hu Hv)
  (Ey:Dgm K B6 "mixed" "Mixer.mixed" yr3 Hw Hx)
  (D0:Dgm K B6 "learn" "Mixer.learn" yst Hy Hz)
  (Ez:Dgm K B6 "twin" "Mixer.twin" ysy I0 I1)
  (C7:Dgm K A0 "__init__" "Foreteller.__init__" yr0 El I2)
  (Bz:Dgm K A0 "arrive" "Foreteller.arrive" ytc I3 I4)
  (Be:Dgm K A0 "chances" "Foreteller.chances" ytb I5 I6)
  (F0:Dgm K A0 "chance" "Foreteller.chance" ys8 I7 I8)
  (D1:Dgm K A0 "weights" "Foreteller.weights" ysi I9 Ia)
  (D2:Dgm K A0 "node" "Foreteller.node" ytl Ib Ic)
  (C0:Dgm K A0 "see" "Foreteller.see" ytd Ie If)
  (D3:Dgm K A0 "step" "Foreteller.step" ytk Ig Ih)
  (F1:Dgm K A0 "step_in_sign" "Foreteller.step_in_sign" ysa Ii Ij)
  (F2:Dgm K A0 "fork" "Foreteller.fork" yr6 Ik Il)
  (At:Dgf K mg "checked_learned" ysd Im Io)
  (Dr:Dgf K mg "teach" ysx Ip Iq)
  (C8:Dgf K mg "rows_of" ys6 Ir Is)
  (Mg:W.nsIn K mainGlobals "foretold"=some (some (.ref Cn)))
  (Mh:K.lookup Cn=some ⟨oc_q53,od_q53,.func (W.fnOf "foretold" "foretold" (wn yiy) (v8 yiy) (yh yiy) (.ref Iv) kV_q53 dc_q53 pm_q53 an_q53 cd_q53 ct_q53),sl_q53⟩)
  (Kl:K.lookup Iv=some ⟨.type "tuple",Do_q53,.seq #[.none] Dn_q53,Ds_q53⟩)
  (Mi:W.codeIn K cd_q53 "foretold"=true)
  (Mj:W.keepIn K (.ref Cn)=true)
  (Ml:W.nsIn K mainGlobals "by_looks"=some (some (.ref Co)))
  (Mm:K.lookup Co=some ⟨oc_q54,od_q54,.func (W.fnOf "by_looks" "by_looks" (wn yiv) (v8 yiv) (yh yiv) (.ref Ix) kV_q54 dc_q54 pm_q54 an_q54 cd_q54 ct_q54),sl_q54⟩)
  (Km:K.lookup Ix=some ⟨.type "tuple",Do_q54,.seq #[.none] Dn_q54,Ds_q54⟩)
  (Mn:W.codeIn K cd_q54 "by_looks"=true)
  (Mo:W.keepIn K (.ref Co)=true)
  (Mq:W.nsIn K mainGlobals "cost"=some (some (.ref Cp)))
  (Mr:K.lookup Cp=some ⟨oc_q55,od_q55,.func (W.fnOf "cost" "cost" (wn yiw) (v8 yiw) (yh yiw) (.ref Iz) kV_q55 dc_q55 pm_q55 an_q55 cd_q55 ct_q55),sl_q55⟩)
  (Kn:K.lookup Iz=some ⟨.type "tuple",Do_q55,.seq #[.none] Dn_q55,Ds_q55⟩)
  (Ms:W.codeIn K cd_q55 "cost"=true)
  (Mt:W.keepIn K (.ref Cp)=true)
  (Ac:Dgf K mg "_law_cell_at" yr7 J0 J1)
  (Ds:Dgf K mg "_law_look" ysc J3 J4)
  (Dt:Dgf K mg "_law_looks" yr1 J5 J6)
  (Du:Dgf K mg "_law_sign" ysq J7 J8)
  (C9:Dgf K mg "_law_text" yti J9 Ja)
  (Dv:Dgf K mg "_law_bad_looks" ytg Jb Jc)
  (Ca:Dgf K mg "_law_bad_text" ysv Jd Je)
  (Dw:Dgf K mg "_law_bad_learned" ys9 Jf Jg)
  (Bu:Dgf K mg "_law_kinds" ysr Jh Ji)
  (Dx:Dgf K mg "_law_unseen" ys2 Jj Jk)
  (Dy:Dgf K mg "_law_learned" ysp Jl Jm)
  (F3:Dgf K mg "law" ys3 K7 Em)
  (Fg:KC K A6)
  (Ai:FN K A6 "noughts")
  (B0:FN K A6 "ones")
  (Ed:KC K A5)
  (An:FN K A5 "held")
  (Ko:KC K Aa)
  (Bg:FN K Aa "last")
  (Ap:FN K Aa "length")
  (Fh:KC K A9)
  (B4:FN K A9 "look")
  (Aq:FN K A9 "slots")
  (Lv:KC K B6)
  (Bp:FN K B6 "kept")
  (Lx:KC K A0)
  (Am:FN K A0 "looks")
  (Bh:FN K A0 "books")
  (Bi:FN K A0 "mixer")
  (Bj:FN K A0 "ended")
  (Bk:FN K A0 "place")
  (Ar:FN K A0 "present")
  (Jx:XCls K Ae)
  (Fd:XMk K Ae)
  (M7:XCls K B7)
  (Ls:XMk K B7)
  (Lf:XCls K Ad)
  (Lt:XMk K Ad)
  (Jy:XCls K Ah)
  (Lg:XMk K Ah)
  (Aw:W.subIn K (.ref A4) (.type "BaseException")=some true)
  (Ax:W.hasDictIn K A4=true)
  (Ay:W.typeIn K (.ref A4)=some (.type "type"))
  (Aj:W.subIn K (.ref Ae) (.ref A4)=some true)
  (B8:W.subIn K (.ref Ad) (.ref A4)=some true)
  (Al:W.subIn K (.ref Ah) (.ref A4)=some true)
  (Mu:W.subIn K (.ref Ad) (.type "BaseException")=some true)
  (Mv:W.hasDictIn K Ad=true)
  (Mw:W.typeIn K (.ref Ad)=some (.type "type"))
  (D6:W.subIn K (.ref Ad) (.ref Ad)=some true)
  (Au:W.kitOne K (.ref Ae) (.type "ValueError")=some true)
  (D4:W.kitOne K (.ref Ae) (.ref Ae)=some true)
  (D5:W.kitOne K (.ref Ae) (.ref Ah)=some false)
  (E6:W.kitAny K (.ref Ae) [.ref Ah,.ref Ae,.ref B7]=some true)
  (E7:W.kitAny K (.ref Ae) [.ref Ad,.ref Ck,.ref B7,.ref Af,.ref Ag,.ref Cl]=some false)
  (Ak:W.kitOne K (.ref Ad) (.ref A4)=some true)
  (Bq:W.kitOne K (.ref Ad) (.type "ValueError")=some true)
  (F6:W.kitOne K (.ref Ad) (.ref Ae)=some false)
  (E8:W.kitAny K (.ref Ad) [.ref Ah,.ref Ae,.ref B7]=some false)
  (E9:W.kitAny K (.ref Ad) [.ref Ad,.ref Ck,.ref B7,.ref Af,.ref Ag,.ref Cl]=some true)
  (Av:W.kitOne K (.ref Ah) (.type "ValueError")=some true)
  (D7:W.kitOne K (.ref Ah) (.ref Ae)=some false)
  (D8:W.kitOne K (.ref Ah) (.ref Ah)=some true)
  (Ea:W.kitAny K (.ref Ah) [.ref Ah,.ref Ae,.ref B7]=some true)
  (Eb:W.kitAny K (.ref Ah) [.ref Ad,.ref Ck,.ref B7,.ref Af,.ref Ag,.ref Cl]=some false)
  (A3:GZ K "isinstance")
  (Kh:GZ K "int")
  (Fe:GZ K "bool")
  (Ab:GZ K "list")
  (D9:GZ K "all")
  (As:GZ K "len")
  (Jq:GZ K "min")
  (Jr:GZ K "max")
  (Ki:GZ K "str")
  (Ba:GZ K "tuple")
  (F7:GZ K "zip")
  (Dz:GZ K "sum")
  (Cb:GZ K "range")
  (Bt:GZ K "ValueError")
  (Ll:GV K "LEAST" (.int 32768 E4))
  (Mx:GV K "ONE" (.int 16777216 K8))
  (Ee:GV K "MOST_SIGNS" (.int 1000 Br))
  (Dc:GV K "MOST_COUNTED" (.int 255 Bb))
  (Fi:GV K "FARTHEST" (.int 8 C3))
  (Di:GV K "MOST_PLACES" (.int 4 Bm))
  (Ef:GV K "MOST_LOOKS" (.int 6 Bs))
  (K3:GV K "NO_SIGN" (.int 256 Cd))
  (Dd:GV K "FIRST_WEIGHT" (.int 1099511627776 Bc))
  (Fa:GV K "OWN_PARTS" (.int 31 Bx))
  (De:GV K "MOST_FIGURES" (.int 48 Bd))
  (Fb:GV K "NODES_END" (.int 256 By))
  (K4:GV K "FIGURES" (.int 24 Ce))
  (K5:GV K "WORTHS" (.ref Bo))
  (K6:K.lookup Bo=some ⟨.type "tuple",wd_WORTHS,.seq #[.int 128 wt_WORTHS_0,.int 64 wt_WORTHS_1,.int 32 wt_WORTHS_2,.int 16 wt_WORTHS_3,.int 8 wt_WORTHS_4,.int 4 wt_WORTHS_5,.int 2 wt_WORTHS_6,.int 1 wt_WORTHS_7] wn_WORTHS,ws_WORTHS⟩)
  (Kp:GV K "KINDS" (.ref C2))
  (Kq:K.lookup C2=some ⟨.type "tuple",wd_KINDS,.seq #[.str "even" wt_KINDS_0,.str "quick" wt_KINDS_1,.str "run" wt_KINDS_2] wn_KINDS,ws_KINDS⟩)
 :∃ fd:FuncData,(∀ (s:Shared) (v:Value),BindsTo s fd ⟨[v],[]⟩ [("_law_script",v)])/\∀ base:Heap,K.In base->base.Ns mainGlobals mg->wa l.prog w K mg base CX0 12 fa fd ["_law_script"] (yff K):=by
 have e:=hfa.symm.trans F3.m
 cases e
 have c:=ygk (st:=yiy) Mh Mi Mj
 have a:=ygk (st:=yiv) Mm Mn Mo
 have b:=ygk (st:=yiw) Mr Ms Mt
 have T:Txt K mg ⟨Kr,Ks,Kt,Ku,Kv,Kw,Kx,Ky,Kz,L0,L1,L3,L6,L7,L8,L9,La,Lb,Fj,Fk,Fl,Fm,Eg,Fn,Fo,Fp,Fq,Fr,Fs,Ft,Eh,Fu,Fv,Fw,Fx,Fz,G0,G6,Ei,G7,G8,G9,Ga,Gb,Gc,Gd,Ge,Gf,Gg,Gh,Gi,Gj,Gk,Gm,Gn,Gp,Gq,Gr,Gs,Gt,Gu,Gv,Ej,Gw,Gx,Gy,Gz,Hs,Ek,Ht,Hu,Hv,Hw,Hx,Hy,Hz,I0,I1,El,I2,I3,I4,I5,I6,I7,I8,I9,Ia,Ib,Ic,Ie,If,Ig,Ih,Ii,Ij,Ik,Il,Im,Io,Ip,Iq,Ir,Is,Cn,_,Iv,Co,_,Ix,Cp,_,Iz,J0,J1,J3,J4,J5,J6,J7,J8,J9,Ja,Jb,Jc,Jd,Je,Jf,Jg,Jh,Ji,Jj,Jk,Jl,Jm,fa,Em,A6,A5,Aa,A9,B6,A0,Ae,B7,Ad,Ah,A4,Ck,Af,Ag,Cl,E4,K8,Br,Bb,C3,Bm,Bs,Cd,Bc,Bx,Bd,By,Ce,Bo,C2⟩:=⟨
  C4.d1 fun _ _ _ _ _ _ _=>rfl,
  Js.d1 fun _ _ _ _ _ _ _=>rfl,
  Jt.d1 fun _ _ _ _ _ _ _=>rfl,
  Ju.d1 fun _ _ _ _ _ _ _=>rfl,
  Jv.d2 fun _ _ _ _ _ _ _ _=>rfl,
  Bw.d1 fun _ _ _ _ _ _ _=>rfl,
  Jw.d1 fun _ _ _ _ _ _ _=>rfl,
  B9.d1 fun _ _ _ _ _ _ _=>rfl,
  E5.d2 fun _ _ _ _ _ _ _ _=>rfl,
  Dj.d1 fun _ _ _ _ _ _ _=>rfl,
  C5.d1 fun _ _ _ _ _ _ _=>rfl,
  Cq.d1 fun _ _ _ _ _ _ _=>rfl,
  En.d1 fun _ _ _ _ _ _ _=>rfl,
  Cr.d2 fun _ _ _ _ _ _ _ _=>rfl,
  Eo.d1 fun _ _ _ _ _ _ _=>rfl,
  Ct.d1 fun _ _ _ _ _ _ _=>rfl,
  Ep.d1 fun _ _ _ _ _ _ _=>rfl,
  Cu.d2 fun _ _ _ _ _ _ _ _=>rfl,
  Er.d1 fun _ _ _ _ _ _ _=>rfl,
  Cv.d1 fun _ _ _ _ _ _ _=>rfl,
  Es.d1 fun _ _ _ _ _ _ _=>rfl,
  Cw.d2 fun _ _ _ _ _ _ _ _=>rfl,
  Et.d1 fun _ _ _ _ _ _ _=>rfl,
  Dk.d1 fun _ _ _ _ _ _ _=>rfl,
  Dl.d1 fun _ _ _ _ _ _ _=>rfl,
  Dm.d1 fun _ _ _ _ _ _ _=>rfl,
  Dn.d1 fun _ _ _ _ _ _ _=>rfl,
  C6.d1 fun _ _ _ _ _ _ _=>rfl,
  Do.d1 fun _ _ _ _ _ _ _=>rfl,
  Dp.d2 fun _ _ _ _ _ _ _ _=>rfl,
  Dq.d3 fun _ _ _ _ _ _ _ _ _=>rfl,
  Cy.d2 fun _ _ _ _ _ _ _ _=>rfl,
  Eu.d3 fun _ _ _ _ _ _ _ _ _=>rfl,
  Ev.d1 fun _ _ _ _ _ _ _=>rfl,
  Cz.d2 fun _ _ _ _ _ _ _ _=>rfl,
  Ew.d1 fun _ _ _ _ _ _ _=>rfl,
  Ey.d2 fun _ _ _ _ _ _ _ _=>rfl,
  D0.d3 fun _ _ _ _ _ _ _ _ _=>rfl,
  Ez.d1 fun _ _ _ _ _ _ _=>rfl,
  C7.d2 fun _ _ _ _ _ _ _ _=>rfl,
  Bz.d1 fun _ _ _ _ _ _ _=>rfl,
  Be.d1 fun _ _ _ _ _ _ _=>rfl,
  F0.d1 fun _ _ _ _ _ _ _=>rfl,
  D1.d1 fun _ _ _ _ _ _ _=>rfl,
  D2.d1 fun _ _ _ _ _ _ _=>rfl,
  C0.d2 fun _ _ _ _ _ _ _ _=>rfl,
  D3.d2 fun _ _ _ _ _ _ _ _=>rfl,
  F1.d2 fun _ _ _ _ _ _ _ _=>rfl,
  F2.d1 fun _ _ _ _ _ _ _=>rfl,
  At.d1 fun _ _ _ _ _ _ _=>rfl,
  Dr.d2 fun _ _ _ _ _ _ _ _=>rfl,
  C8.d3 fun _ _ _ _ _ _ _ _ _=>rfl,
  c,
  yfl.binds (ps:=["looks","text","learned"]) (ds:=[.none]) (j:=2) rfl c Kl rfl fun _ _ _ _ _ _ d f=>match d,f with | [_,_],_=>⟨_,rfl,rfl⟩,
  yfl.binds (ps:=["looks","text","learned"]) (ds:=[]) (j:=3) rfl c Kl rfl fun _ _ _ _ _ _ d f=>match d,f with | [_,_,_],_=>⟨_,rfl,rfl⟩,
  W.mg_of X G Mg,
  a,
  yfl.binds (ps:=["looks","text","learned"]) (ds:=[.none]) (j:=2) rfl a Km rfl fun _ _ _ _ _ _ d f=>match d,f with | [_,_],_=>⟨_,rfl,rfl⟩,
  yfl.binds (ps:=["looks","text","learned"]) (ds:=[]) (j:=3) rfl a Km rfl fun _ _ _ _ _ _ d f=>match d,f with | [_,_,_],_=>⟨_,rfl,rfl⟩,
  W.mg_of X G Ml,
  b,
  yfl.binds (ps:=["looks","text","learned"]) (ds:=[.none]) (j:=2) rfl b Kn rfl fun _ _ _ _ _ _ d f=>match d,f with | [_,_],_=>⟨_,rfl,rfl⟩,
  yfl.binds (ps:=["looks","text","learned"]) (ds:=[]) (j:=3) rfl b Kn rfl fun _ _ _ _ _ _ d f=>match d,f with | [_,_,_],_=>⟨_,rfl,rfl⟩,
  W.mg_of X G Mq,
  Ac.d2 fun _ _ _ _ _ _ _ _=>rfl,
  Ds.d1 fun _ _ _ _ _ _ _=>rfl,
  Dt.d1 fun _ _ _ _ _ _ _=>rfl,
  Du.d2 fun _ _ _ _ _ _ _ _=>rfl,
  C9.d3 fun _ _ _ _ _ _ _ _ _=>rfl,
  Dv.d2 fun _ _ _ _ _ _ _ _=>rfl,
  Ca.d2 fun _ _ _ _ _ _ _ _=>rfl,
  Dw.d2 fun _ _ _ _ _ _ _ _=>rfl,
  Bu.d4 fun _ _ _ _ _ _ _ _ _ _=>rfl,
  Dx.d2 fun _ _ _ _ _ _ _ _=>rfl,
  Dy.d1 fun _ _ _ _ _ _ _=>rfl,
  F3.d1 fun _ _ _ _ _ _ _=>rfl,
  Fg.cls,
  W.mg_of X G Lj,
  ⟨Fg.mk',Cq.m.1,Cq.m.2,Fg.kc⟩,
  Ai,
  B0,
  Ed.cls,
  W.mg_of X G Kk,
  ⟨Ed.mk',Ct.m.1,Ct.m.2,Ed.kc⟩,
  An,
  Ko.cls,
  W.mg_of X G Lu,
  ⟨Ko.mk',Cv.m.1,Cv.m.2,Ko.kc⟩,
  Bg,
  Ap,
  Fh.cls,
  W.mg_of X G Lk,
  ⟨Fh.mk',Cy.m.1,Cy.m.2,Fh.kc⟩,
  B4,
  Aq,
  Lv.cls,
  W.mg_of X G M8,
  ⟨Lv.mk',Cz.m.1,Cz.m.2,Lv.kc⟩,
  Bp,
  Lx.cls,
  W.mg_of X G M9,
  ⟨Lx.mk',C7.m.1,C7.m.2,Lx.kc⟩,
  Am,
  Bh,
  Bi,
  Bj,
  Bk,
  Ar,
  W.mg_of X G Ma,
  W.mg_of X G Mb,
  W.mg_of X G Mc,
  W.mg_of X G Md,
  W.mg_of X G Cf,
  W.mg_of X G Me,
  W.mg_of X G K1,
  W.mg_of X G K2,
  W.mg_of X G Mf,
  Jx,
  Fd,
  M7,
  Ls,
  Lf,
  Lt,
  Jy,
  Lg,
  Au,
  D4,
  D5,
  E6,
  E7,
  yht Aw Ax Ay Aj,
  Ak,
  Bq,
  F6,
  E8,
  E9,
  yht Aw Ax Ay B8,
  yht Mu Mv Mw D6,
  Av,
  D7,
  D8,
  Ea,
  Eb,
  yht Aw Ax Ay Al,
  W.mg_none_of X G A3,
  W.mg_none_of X G Kh,
  W.mg_none_of X G Fe,
  W.mg_none_of X G Ab,
  W.mg_none_of X G D9,
  W.mg_none_of X G As,
  W.mg_none_of X G Jq,
  W.mg_none_of X G Jr,
  W.mg_none_of X G Ki,
  W.mg_none_of X G Ba,
  W.mg_none_of X G F7,
  W.mg_none_of X G Dz,
  W.mg_none_of X G Cb,
  W.mg_none_of X G Bt,
  W.mg_of X G Ll,
  W.mg_of X G Mx,
  W.mg_of X G Ee,
  W.mg_of X G Dc,
  W.mg_of X G Fi,
  W.mg_of X G Di,
  W.mg_of X G Ef,
  W.mg_of X G K3,
  W.mg_of X G Dd,
  W.mg_of X G Fa,
  W.mg_of X G De,
  W.mg_of X G Fb,
  W.mg_of X G K4,
  W.mg_of X G K5,
  fun H=>.inr ⟨_,_,_,K6,rfl,rfl,(by show 8 <= sizeLine; decide),(.cons ⟨_,rfl⟩ (.cons ⟨_,rfl⟩ (.cons ⟨_,rfl⟩ (.cons ⟨_,rfl⟩ (.cons ⟨_,rfl⟩ (.cons ⟨_,rfl⟩ (.cons ⟨_,rfl⟩ (.cons ⟨_,rfl⟩ .nil))))))))⟩,
  W.mg_of X G Kp,
  fun H=>.inr ⟨_,_,_,Kq,rfl,rfl,(by show 3 <= sizeLine; decide),(.cons ⟨_,rfl⟩ (.cons ⟨_,rfl⟩ (.cons ⟨_,rfl⟩ .nil)))⟩⟩
 refine ⟨Em,fun s v=>?_,fun base _ _=>yvw T⟩
 obtain ⟨_,_,_,_,_,_,_,_,_,rfl,_,_⟩:=F3.F.ex
 exact .of_eq rfl
theorem walk {l:W.OpenLaw} {q:Program} {loose:List Str} {XP:(Str->Option Value)->Heap->Prop} {YP:World->Heap->Prop} {d:DefRec} {K:Params->W.Frag} (hn:l.most=some 63) (hdf:d.params.defaults=[])
  (hY:∀ (w:World) (h:Heap),YP w h->(K w.params).In h)
  (F:∀ (w:World) (mg:Str->Option Value) (fa:Addr) (h:Heap),(K w.params).In h->h.Ns mainGlobals mg->mg d.name=some (.ref fa) ->
   ∃ fd:FuncData,(∀ (s:Shared) (u:Value),BindsTo s fd ⟨[u],[]⟩ [("_law_script",u)])/\∀ base:Heap,(K w.params).In base->base.Ns mainGlobals mg->wa l.prog w (K w.params) mg base CX0 12 fa fd ["_law_script"] (yff (K w.params))) :
  W.WalkO q loose XP YP l.row.toRowW d [] (fun f vs=>PySem.call f vs) :=
 L2.walk_of (n:=63) (k:=12) (x:="_law_script") (CX:=fun _=>CX0) (sp:=fun w=>yff (K w.params)) hn (by decide) hdf ⟨rfl,by decide,by decide⟩ hY F (fun _ _ a b c _ e=>⟨a,b,rfl,e,c,fun _=>rfl⟩) fun _ _ _ _ _ z=>z
end Law
open PySem PySem.W PyProof.Rows
set_option maxRecDepth 100000 in
set_option maxHeartbeats 0 in
theorem PySem.Challenge.cw_foretell_k28_telling_refused_holds : PySem.Challenge.rw_foretell_k28_telling_refused.Holds := by
 refine H0.2 ?_
 unfold H0
 dsimp only []
 k_fill
 refine Law.walk (l := PySem.Challenge.rw_foretell_k28_telling_refused) rfl rfl (fun w h Y => PySem.W.kIn_of Y) ?F
 case F =>
  intro w mg fa h KX G hmg
  refine' Law.all_mk KX G hmg ?_ ?_ ?_ ?_ ?_ ?_ ?_ ?_ ?_ ?_ ?_ ?_ ?_ ?_ ?_ ?_ ?_ ?_ ?_ ?_ ?_ ?_ ?_ ?_ ?_ ?_ ?_ ?_ ?_ ?_ ?_ ?_ ?_ ?_ ?_ ?_ ?_ ?_ ?_ ?_ ?_ ?_ ?_ ?_ ?_ ?_ ?_ ?_ ?_ ?_ ?_ ?_ ?_ ?_ ?_ ?_ ?_ ?_ ?_ ?_ ?_ ?_ ?_ ?_ ?_ ?_ ?_ ?_ ?_ ?_ ?_ ?_ ?_ ?_ ?_ ?_ ?_ ?_ ?_ ?_ ?_ ?_ ?_ ?_ ?_ ?_ ?_ ?_ ?_ ?_ ?_ ?_ ?_ ?_ ?_ ?_ ?_ ?_ ?_ ?_ ?_ ?_ ?_ ?_ ?_ ?_ ?_ ?_ ?_ ?_ ?_ ?_ ?_ ?_ ?_ ?_ ?_ ?_ ?_ ?_ ?_ ?_ ?_ ?_ ?_ ?_ ?_ ?_ ?_ ?_ ?_ ?_ ?_ ?_ ?_ ?_ ?_ ?_ ?_ ?_ ?_ ?_ ?_ ?_ ?_ ?_ ?_ ?_ ?_ ?_ ?_ ?_ ?_ ?_ ?_ ?_ ?_ ?_ ?_ ?_ ?_ ?_ ?_ ?_ ?_ ?_ ?_ ?_ ?_ ?_ ?_ ?_ ?_ ?_ ?_ ?_ ?_ ?_
  any_goals first | (refine' L2.dgf_mk KX G ?_ ?_ ?_ ?_; any_goals k_is; done) | (refine' L2.dgm_mk ?_ ?_ ?_ ?_ ?_; any_goals k_is; done) | (refine' L2.XCls.mk ?_ ?_ ?_ ?_ ?_ ?_ ?_ ?_ <;> k_is) | (refine' L2.KC.mk ?_ ?_ ?_ ?_ ?_ ?_ <;> k_is) | k_is | kit_is | k_exc | (with_reducible show _ = _; first | k_is | k_exc)
#print axioms PySem.Challenge.cw_foretell_k28_telling_refused_holds
