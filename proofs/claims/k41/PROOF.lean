import PyProof.Rows.All
import Wide.All
import OpenK.AllK
import Wide.FinOn
import PyProof.EqAt
import PyProof.EqKinds
import PyProof.TupleCall
import Lean
import PySem.Challenge.RW_foretell_k41_learned_of
set_option Elab.async false
set_option linter.all false
set_option compiler.extract_closed false
set_option maxRecDepth 100000
set_option maxHeartbeats 4000000
namespace PySem.W.Fast
local macro_rules
 | `(#synth $k:ident $ns*)=>do return Lean.mkNullNode ((<-ns.mapM fun n=>`(theorem $(Lean.mkIdent (.mkSimple s!"tw{((`H0).str s!"{k.getId}_{n.raw.isNatLit?.get!}").hash}")) : True:=⟨⟩)).map (·.raw))
 | `(#synth $k:ident)=>`(theorem $(Lean.mkIdent (.mkSimple s!"tw{k.getId.hash}")) : True:=⟨⟩)
#synth PySem.Challenge.pw_foretell_k41_learned_of
#synth tree 70 85 100 115 130 145 160 175 190 205 220 235 250 298 343 380 423 466 516 561 612 659 746 775 840 898 933 984 1026 1166 1252 1281
#synth heap 39 46 1282
#synth view 39
#synth sts 49 71 86 101 116 131 146 161 176 191 206 221 251 299 344 381 424 467 517 562 613 660 747 776 841 899 934 985 1027 1256
#synth o 45 49 55 56 57 60 63 66 67 71 73 76 79 82 83 86 88 91 94 97 98 101 103 106 109 112 113 116 118 121 124 127 128 131 133 136 139 142 143 146 148 151 154 157 158 161 163 166 169 172 173 176 178 181 184 187 188 191 193 196 199 202 203 206 208 211 214 217 218 221 223 226 229 232 233 236 238 241 244 247 248 251 253 256 259 262 263 270 271 272 277 278 279 284 285 286 291 292 293 296 297 298 299 305 306 307 312 313 314 319 320 321 326 327 328 333 334 335 340 341 342 343 344 348 351 357 358 359 364 365 366 371 372 373 375 376 381 383 386 389 395 396 397 402 403 404 409 410 411 416 417 418 420 421 424 426 429 432 438 439 440 445 446 447 450 452 453 454 459 460 461 463 464 467 469 472 475 481 482 483 488 489 490 495 496 497 502 503 504 506 507 514 515 516 517 523 524 525 530 531 532 535 536 537 542 543 544 547 548 549 554 555 556 559 560 561 562 566 569 575 576 577 580 582 583 584 587 589 590 591 594 596 597 598 603 604 605 607 608 613 617 620 626 627 628 633 634 635 638 639 640 643 644 645 650 651 652 654 655 660 664 667 671 672 673 676 677 678 681 682 683 688 689 690 695 696 697 702 703 704 709 710 711 714 716 717 718 723 724 725 730 731 732 737 738 739 740 741 742 747 752 753 754 757 759 760 761 764 766 767 768 773 774 775 776 780 783 789 790 791 796 797 798 803 804 805 808 810 811 812 817 818 819 824 825 826 829 831 832 833 834 835 836 841 845 848 854 855 856 861 862 863 868 869 870 873 875 876 877 882 883 884 889 890 891 892 893 894 899 903 905 906 907 910 912 913 914 917 918 919 922 924 925 926 929 931 932 933 934 938 941 947 948 949 952 954 955 956 959 961 962 963 966 968 969 970 975 976 977 978 979 980 985 989 990 991 996 997 998 1003 1004 1005 1008 1011 1015 1017 1018 1019 1021 1022 1027 1031 1034 1039 1041 1042 1043 1048 1049 1050 1055 1056 1057 1062 1063 1064 1068 1070 1071 1072 1075 1077 1078 1079 1084 1085 1086 1089 1091 1092 1093 1098 1099 1100 1103 1105 1106 1107 1110 1112 1113 1114 1117 1118 1119 1124 1125 1126 1131 1132 1133 1138 1139 1140 1145 1146 1147 1150 1151 1152 1157 1158 1159 1160 1161 1162 1170 1173 1178 1180 1181 1182 1187 1188 1189 1194 1195 1196 1201 1202 1203 1207 1209 1210 1211 1214 1216 1217 1218 1223 1224 1225 1228 1230 1231 1232 1237 1238 1239 1242 1244 1245 1246 1249 1251 1252 1256 1260 1262 1263 1264 1267 1268 1269 1272 1273 1274 1277 1279 1280 1281
end PySem.W.Fast
section
open PySem PySem.W PyProof.Rows
local macro_rules | `(tactic| refine $f:ident $as*)=>do
 unless f.getId==`PySem.W.holds_open do Lean.Macro.throwUnsupported
 `(tactic| (refine ($f $as*); case $(Lean.mkIdent `hc):ident=>exact $(Lean.mkIdent `hP)))
set_option maxRecDepth 100000 in
set_option maxHeartbeats 0 in
def H0:PSigma fun P:Prop=>P->PySem.Challenge.rw_foretell_k41_learned_of.Holds:=by
 refine' ⟨_,fun hP=>?_⟩
 rotate_left
 w_on; o_law; k_head
 w_witness2
end
namespace L2
open PySem PySem.Spec PyProof.Rows
abbrev Key:=Sum Int Str
def yk3:Key->Value->Bool
 | .inl k,v=>Value.isInt k v
 | .inr x,v=>Value.isStrOf x v
def vg8 (w:World):Key->Int
 | .inl k=>hashInt k
 | .inr x=>hashStr w x
theorem wo:∀ {k:Key} {v:Value},yk3 k v=true->(∃ i t,k=Sum.inl i/\v=Value.int i t)\/(∃ x t,k=Sum.inr x/\v=Value.str x t)
 | .inl i,v,h=>by
  obtain ⟨t,e⟩:=Value.isInt_shape (k:=i) (v:=v) h
  exact .inl ⟨i,t,rfl,e⟩
 | .inr x,v,h=>by
  obtain ⟨t,e⟩:=Value.isStrOf_shape (x:=x) (v:=v) h
  exact .inr ⟨x,t,rfl,e⟩
theorem yl6 (i:Int) (t:Tok):yk3 (.inl i) (.int i t)=true:=by simp [yk3,Value.isInt]
theorem ymb (x:Str) (t:Tok):yk3 (.inr x) (.str x t)=true:=by simp [yk3,Value.isStrOf]
theorem vau (a b:Int):decide ((Sum.inl a:Key)=Sum.inl b)=(a == b):=by
 by_cases e:a=b
 ·subst e; simp
 ·have h:¬ (Sum.inl a:Key)=Sum.inl b:=fun q=>e (Sum.inl.inj q)
  rw [decide_eq_false h]
  exact (beq_eq_false_iff_ne.mpr e).symm
theorem yzq (a b:Str):decide ((Sum.inr a:Key)=Sum.inr b)=decide (a=b):=by
 by_cases e:a=b
 ·subst e; simp
 ·have h:¬ (Sum.inr a:Key)=Sum.inr b:=fun q=>e (Sum.inr.inj q)
  rw [decide_eq_false h,decide_eq_false e]
theorem vaz (a:Int) (b:Str):decide ((Sum.inl a:Key)=Sum.inr b)=false:=decide_eq_false (fun q=>nomatch q)
theorem yzu (a:Str) (b:Int):decide ((Sum.inr a:Key)=Sum.inl b)=false:=decide_eq_false (fun q=>nomatch q)
def wl (prog:Program) (w:World):PySem.KeyKind prog w Key where
 is:=yk3
 hash:=vg8 w
 inj:=fun v a b ha hb=>by
  rcases wo ha with ⟨i,t,rfl,rfl⟩ | ⟨x,t,rfl,rfl⟩
  ·rcases wo hb with ⟨j,u,rfl,e⟩ | ⟨y,u,rfl,e⟩
   ·injection e with e1 _; rw [e1]
   ·exact nomatch e
  ·rcases wo hb with ⟨j,u,rfl,e⟩ | ⟨y,u,rfl,e⟩
   ·exact nomatch e
   ·injection e with e1 _; rw [e1]
 byValue:=fun k v h=>by
  rcases wo h with ⟨i,t,rfl,rfl⟩ | ⟨x,t,rfl,rfl⟩ <;> rfl
 pyHash:=fun hv h=>by
  rcases wo hv with ⟨i,t,rfl,rfl⟩ | ⟨x,t,rfl,rfl⟩
  ·exact wpAny_pyHash_int h
  ·exact wpAny_pyHash_str h
 eqBool:=fun hu hv h=>by
  rcases wo hu with ⟨i,t,rfl,rfl⟩ | ⟨x,t,rfl,rfl⟩
  ·rcases wo hv with ⟨j,u,rfl,rfl⟩ | ⟨y,u,rfl,rfl⟩
   ·rw [vau] at h; exact wpAny_eqBool_int h
   ·rw [vaz] at h; exact SeqAt.EqAt.int_str i t y u _ _ _ _ h
  ·rcases wo hv with ⟨j,u,rfl,rfl⟩ | ⟨y,u,rfl,rfl⟩
   ·rw [yzu] at h; exact SeqAt.EqAt.str_int x t j u _ _ _ _ h
   ·rw [yzq] at h; exact wpAny_eqBool_str h
 «strs»:=fun k x t v h=>by
  rcases wo h with ⟨i,u,rfl,e⟩ | ⟨y,u,rfl,e⟩
  ·exact nomatch e
  ·injection e with e1 _
   subst e1
   cases v <;> rfl
theorem yhf (prog:Program) (w:World) (i:Int) (t:Tok):(wl prog w).is (.inl i) (.int i t)=true:=yl6 i t
theorem yg8 (prog:Program) (w:World) (x:Str) (t:Tok):(wl prog w).is (.inr x) (.str x t)=true:=ymb x t
end L2
namespace L2
open PySem PySem.Spec PyProof.Rows
inductive V where
 | non | bl (b:Bool) | int (i:Int) | str (x:Str) | byt (b:Array UInt8) | flt (b:UInt64) | ref (a:Addr) | ty (n:String)
 deriving DecidableEq
def xl:V->Value->Prop
 | .non,u=>u=Value.none
 | .bl b,u=>u=Value.bool b
 | .int i,u=>∃ t,u=Value.int i t
 | .str x,u=>∃ t,u=Value.str x t
 | .byt b,u=>∃ t,u=Value.bytes b t
 | .flt b,u=>∃ t,u=Value.float b t
 | .ref a,u=>u=Value.ref a
 | .ty n,u=>u=Value.type n
abbrev wt:List V->List Value->Prop:=Paired xl
theorem wt.length {xs:List V} {us:List Value} (r:wt xs us):xs.length=us.length:=Paired.length r
theorem wt.get:∀ {xs:List V} {us:List Value} {i:Nat} {x:V},wt xs us->xs[i]?=some x->∃ u,us[i]?=some u/\xl x u
 | _,_,_,_,.nil,e=>by simp at e
 | _,_,0,_,.cons r _,e=>by simp at e; subst e; exact ⟨_,rfl,r⟩
 | _,_,i+1,x,.cons _ t,e=>by
  obtain ⟨u,a,b⟩:=wt.get (i:=i) (x:=x) t (by simpa using e)
  exact ⟨u,by simpa using a,b⟩
theorem wt.append:∀ {xs ys:List V} {us ws:List Value},wt xs us->wt ys ws->wt (xs++ys) (us++ws)
 | _,_,_,_,.nil,s=>s
 | _,_,_,_,.cons r t,s=>.cons r (wt.append t s)
theorem wt.take:∀ {xs:List V} {us:List Value} (n:Nat),wt xs us->wt (xs.take n) (us.take n)
 | _,_,0,_=>.nil
 | _,_,_+1,.nil=>.nil
 | _,_,n+1,.cons r t=>.cons r (wt.take n t)
theorem wt.drop:∀ {xs:List V} {us:List Value} (n:Nat),wt xs us->wt (xs.drop n) (us.drop n)
 | _,_,0,r=>r
 | _,_,_+1,.nil=>.nil
 | _,_,n+1,.cons _ t=>wt.drop n t
def ygq:Option V->Option Value->Prop
 | some v,some u=>xl v u
 | none,none=>True
 | _,_=>False
def KV {κ:Type}:List (κ × V)->List (κ × Value)->Prop:=Paired fun (p:κ × V) (q:κ × Value)=>p.1=q.1/\xl p.2 q.2
def kV:Key->V
 | .inl i=>.int i
 | .inr x=>.str x
inductive HO where
 | lst (xs:List V)
 | tup (xs:List V)
 | dK (kvs:List (Key × V)) | dT (kvs:List (List Key × V))
 | set (S:Int->Bool) (n:Nat)
 | ins (C dx:Addr) (fs:List (Str × V))
 | own (x:Addr)
 | xd (fs:List (Str × V))
 | met (f x:Addr)
 | rng (lo hi:Int)
 | frz (o:Obj) (u:HO)
 | tbl (ps:Array Value)
 | ext (φ:Heap->Prop)
abbrev Hp:=Addr->Option HO
def upd (H:Hp) (a:Addr) (o:HO):Hp:=fun b=>if b=a then some o else H b
theorem ya {H:Hp} {a:Addr} {o:HO}:upd H a o a=some o:=by unfold upd; rw [if_pos rfl]
theorem ym {H:Hp} {a b:Addr} {o:HO} (h:b≠a):upd H a o b=H b:=by unfold upd; rw [if_neg h]
theorem xi {H:Hp} {a b:Addr} {o u:HO} (h:H a=some o) (h':H b=some u) (d:o≠u):a≠b:=by
 intro e; subst e; rw [h] at h'; exact d (Option.some.inj h')
theorem yd {H:Hp} {a b:Addr} {o:HO} (h:H a=some o) (h':H b=none):a≠b:=by
 intro e; subst e; rw [h] at h'; cases h'
section
variable (P:Program) (w:World)
def xk (H:Hp) (h:Heap) (a:Addr):HO->Prop
 | .lst xs=>xs.length <= sizeLine/\∃ (its:List Value) (n:Nat),wt xs its/\h.get? a=some { cls:=.type "list",data:=.seq its.toArray n }
 | .tup xs=>xs.length <= sizeLine/\∃ its:List Value,wt xs its/\IsTup h a its.toArray
 | .dK kvs=>kvs.length <= sizeLine/\(a == sysModules)=false/\∃ vs,KV kvs vs/\h.DictOf (wl P w) a vs
 | .dT kvs=>kvs.length <= sizeLine/\(a == sysModules)=false/\∃ xs:List (List Key × Addr × Value),
   Paired (fun (p:List Key × V) (q:List Key × Addr × Value)=>p.1=q.1/\H q.2.1=some (.tup (p.1.map kV))/\xl p.2 q.2.2) kvs xs /\
   ∃ o es ep,h.get? a=some o/\o.ExactDict/\o.data=.dict es ep/\es.toList=xs.map (entryOfKey (tupleKind (wl P w)))/\(xs.map (·.1)).Nodup
 | .set S n=>h.SetOf (intKind P w) a S n
 | .ins C dx fs=>H dx=some (.own a)/\fs.length <= 1000/\dx≠a/\h.get? a=some (W.instObj C dx) /\
   ∃ mA,h.Ns1 dx mA/\(∀ f,ygq (fs.lookup f) (mA f))/\PySem.Within mA (fs.map (·.1))
 | .own _=>∃ o,h.get? a=some o
 | .xd fs=>∃ mA,h.Ns1 a mA/\∀ f,ygq (fs.lookup f) (mA f)
 | .rng lo hi=>∃ t u v,h.get? a=some { cls:=.type "range",data:=.fields #[.int lo t,.int hi u,.int 1 v] }
 | .frz o u=>h.get? a=some o/\xk H h a u
 | .tbl ps=>h.get? a=some { cls:=.none,data:=.fields ps }
 | .met f x=>h.get? a=some (W.methodObj (.ref f) (.ref x))
 | .ext φ=>φ h/\(∃ o,h.get? a=some o)/\∀ h1 h2:Heap,φ h1->(∀ o,h1.get? a=some o->h2.get? a=some o)->φ h2
def HOk (H:Hp) (h:Heap):Prop:=∀ a o,H a=some o->xk P w H h a o
end
section
variable {P:Program} {w:World} {H H':Hp} {h h':Heap} {a:Addr} {o:HO}
theorem xk.lt (x:xk P w H h a o):a < h.objs.size:=by
 cases o with
 | lst xs=>obtain ⟨_,_,_,_,e⟩:=x; exact Heap.lt_size e
 | tup xs=>obtain ⟨_,_,_,p⟩:=x; exact p.lt
 | dK kvs=>obtain ⟨_,_,_,_,o,_,_,e,_⟩:=x; exact Heap.lt_size e
 | dT kvs=>obtain ⟨_,_,_,_,o,_,_,e,_⟩:=x; exact Heap.lt_size e
 | set S n=>obtain ⟨o,_,_,_,e,_⟩:=x; exact Heap.lt_size e
 | ins C dx fs=>obtain ⟨_,_,_,e,_⟩:=x; exact Heap.lt_size e
 | own y=>obtain ⟨_,e⟩:=x; exact Heap.lt_size e
 | xd fs=>obtain ⟨_,⟨_,_,_,e,_⟩,_⟩:=x; exact Heap.lt_size e
 | rng lo hi=>obtain ⟨_,_,_,e⟩:=x; exact Heap.lt_size e
 | frz ob u=>obtain ⟨e,_⟩:=x; exact Heap.lt_size e
 | tbl ps=>exact Heap.lt_size (show h.get? a=some _ from x)
 | met f y=>exact Heap.lt_size (show h.get? a=some _ from x)
 | ext φ=>obtain ⟨_,⟨_,e⟩,_⟩:=x; exact Heap.lt_size e
theorem Paired.mapP {α β:Type} {F G:α->β->Prop}:∀ {l₁:List α} {l₂:List β},Paired F l₁ l₂->(∀ a b,F a b->G a b)->Paired G l₁ l₂
 | _,_,.nil,_=>.nil
 | _,_,.cons r t,f=>.cons (f _ _ r) (Paired.mapP t f)
theorem xk.stay (x:xk P w H h a o) (k:∀ b u,(b=a\/H b=some (.own a))->h.get? b=some u->h'.get? b=some u)
  (ho:∀ b,H b=some (.own a)->H' b=some (.own a)) (ht:∀ b xs,H b=some (.tup xs)->H' b=some (.tup xs)):xk P w H' h' a o:=by
 induction o with
 | lst xs=>obtain ⟨z,j,n,r,e⟩:=x; exact ⟨z,j,n,r,k _ _ (.inl rfl) e⟩
 | tup xs=>obtain ⟨z,j,r,ob,e,c⟩:=x; exact ⟨z,j,r,ob,k _ _ (.inl rfl) e,c⟩
 | dK kvs=>obtain ⟨z,y,A,r,ob,g,i,e,c⟩:=x; exact ⟨z,y,A,r,ob,g,i,k _ _ (.inl rfl) e,c⟩
 | dT kvs =>
  obtain ⟨z,y,xs,r,ob,g,i,e,c⟩:=x
  exact ⟨z,y,xs,Paired.mapP r fun p q z=>⟨z.1,ht _ _ z.2.1,z.2.2⟩,ob,g,i,k _ _ (.inl rfl) e,c⟩
 | set S n=>obtain ⟨ob,g,i,t,e,c⟩:=x; exact ⟨ob,g,i,t,k _ _ (.inl rfl) e,c⟩
 | ins C dx fs =>
  obtain ⟨d,z,D,e,l,⟨m,g,i,B,c⟩,r⟩:=x
  exact ⟨ho _ d,z,D,k _ _ (.inl rfl) e,l,⟨m,g,i,k _ _ (.inr d) B,c⟩,r⟩
 | own y=>obtain ⟨ob,e⟩:=x; exact ⟨ob,k _ _ (.inl rfl) e⟩
 | xd fs=>obtain ⟨l,⟨m,g,i,e,c⟩,r⟩:=x; exact ⟨l,⟨m,g,i,k _ _ (.inl rfl) e,c⟩,r⟩
 | rng lo hi=>obtain ⟨t,u,v,e⟩:=x; exact ⟨t,u,v,k _ _ (.inl rfl) e⟩
 | frz ob u ih=>obtain ⟨e,q⟩:=x; exact ⟨k _ _ (.inl rfl) e,ih q⟩
 | tbl ps =>
  have e:h.get? a=some { cls:=.none,data:=.fields ps }:=x
  show h'.get? a=some { cls:=.none,data:=.fields ps }
  exact k a _ (.inl rfl) e
 | met f y =>
  have e:h.get? a=some (W.methodObj (.ref f) (.ref y)):=x
  show h'.get? a=some (W.methodObj (.ref f) (.ref y))
  exact k a _ (.inl rfl) e
 | ext φ=>obtain ⟨p,⟨o,e⟩,s⟩:=x; exact ⟨s _ _ p fun o q=>k _ _ (.inl rfl) q,⟨o,k _ _ (.inl rfl) e⟩,s⟩
theorem HOk.lt (x:HOk P w H h) (e:H a=some o):a < h.objs.size:=(x a o e).lt
theorem HOk.fresh (x:HOk P w H h) (e:h.objs.size <= a):H a=none:=by
 cases q:H a with
 | none=>rfl
 | some u=>exact absurd (Nat.lt_of_lt_of_le (x.lt q) e) (Nat.lt_irrefl _)
theorem HOk.kept (x:HOk P w H h) (k:∀ b u,h.get? b=some u->h'.get? b=some u):HOk P w H h':=fun a o e =>
 (x a o e).stay (fun b u _ q=>k b u q) (fun _ q=>q) fun _ _ q=>q
theorem HOk.laid (x:HOk P w H h) (k:∀ b u,h.get? b=some u->h'.get? b=some u) (hp:h.objs.size <= a) (new:xk P w (upd H a o) h' a o):HOk P w (upd H a o) h':=fun b u e=>by
 have d:=x.fresh hp
 by_cases hb:b=a
 ·subst hb; rw [ya] at e; cases e; exact new
 ·rw [ym hb] at e
  exact (x b u e).stay (fun c v _ q=>k c v q) (fun c q=>by rw [ym (yd q d)]; exact q) fun c f q=>by rw [ym (yd q d)]; exact q
end
def Rd (H:Hp) (a:Addr) (u:HO):Prop:=H a=some u\/∃ o,H a=some (.frz o u)
theorem Rd.of {H:Hp} {a:Addr} {u:HO} (h:H a=some u):Rd H a u:=.inl h
theorem Rd.ok {P:Program} {w:World} {H:Hp} {h:Heap} {a:Addr} {u:HO} (r:Rd H a u) (x:HOk P w H h):xk P w H h a u:=by
 rcases r with r | ⟨o,r⟩
 ·exact x a u r
 ·obtain ⟨_,q⟩:=x a _ r
  exact q
def Mut:Option HO->Prop
 | some (.lst _)=>True
 | some (.dK _)=>True
 | some (.dT _)=>True
 | some (.set _ _)=>True
 | some (.ins _ _ _)=>True
 | some (.ext _)=>True
 | _=>False
section
variable {P:Program} {w:World} {H:Hp} {h h':Heap} {x e:Addr} {o':HO}
theorem HOk.write (ok:HOk P w H h) (mu:Mut (H x)) (he:e=x\/H e=some (.own x)) (k:∀ b u,b≠e->h.get? b=some u->h'.get? b=some u) (heo:∃ u,h'.get? e=some u)
  (new:xk P w (upd H x o') h' x o'):HOk P w (upd H x o') h':=fun b u q=>by
 have a:∀ c y,H c=some (.own y)->c≠x:=fun c y r z=>by subst z; rw [r] at mu; exact mu
 have d:∀ c g,H c=some (.tup g)->c≠x:=fun c g r z=>by subst z; rw [r] at mu; exact mu
 by_cases hb:b=x
 ·subst hb; rw [ya] at q; cases q; exact new
 ·rw [ym hb] at q
  by_cases hbe:b=e
  ·have i:H b=some (.own x):=by
    rcases he with z | z
    ·exact absurd (hbe.trans z) hb
    ·rw [hbe]; exact z
   rw [q] at i; cases i
   obtain ⟨v,j⟩:=heo
   exact ⟨v,by rw [hbe]; exact j⟩
  ·refine (ok b u q).stay (fun c v f r=>k c v ?_ r) (fun c r=>by rw [ym (a c b r)]; exact r) fun c g r=>by rw [ym (d c g r)]; exact r
   rcases f with rfl | f
   ·exact hbe
   ·rintro rfl
    rcases he with z | z
    ·exact a c b f z
    ·rw [f] at z; cases z; exact hb rfl
end
structure Un (fs ex:List Addr) (H H':Hp) (h h':Heap):Prop where
 keep:∀ b o,h.get? b=some o->H b=none->b∉fs->b∉ex->h'.get? b=some o
 slot:∀ b o,h.get? b=some o->H b=none->b∈fs->b∉ex->∃ sl,h'.get? b=some { o with slots:=sl }
 free:∀ b o,h.get? b=some o->H b=none->b∉ex->H' b=none
 there:∀ b o,h.get? b=some o->b∉ex->∃ o',h'.get? b=some o'
 tups:∀ b xs,H b=some (.tup xs)->H' b=some (.tup xs)
 frzs:∀ b o u,H b=some (.frz o u)->H' b=some (.frz o u)
 tbls:∀ b ps,H b=some (.tbl ps)->∃ more,H' b=some (.tbl (ps++more))
section
variable {fs fs' ex ex':List Addr} {H H1 H2:Hp} {h h1 h2 h':Heap} {a x e:Addr} {o:HO}
theorem Un.any (u:Un fs ex H H1 h h1) {b:Addr} {ob:Obj} (q:h.get? b=some ob) (n:H b=none) (hx:b∉ex):∃ sl,h1.get? b=some { ob with slots:=sl }:=by
 by_cases hb:b∈fs
 ·exact u.slot b ob q n hb hx
 ·exact ⟨ob.slots,u.keep b ob q n hb hx⟩
theorem Un.kept (k:∀ b u,h.get? b=some u->h'.get? b=some u):Un fs ex H H h h' :=
 ⟨fun b a q _ _ _=>k b a q,fun b a q _ _ _=>⟨a.slots,k b a q⟩,fun _ _ _ n _=>n,fun b a q _=>⟨a,k b a q⟩,fun _ _ q=>q,fun _ _ _ q=>q,fun _ c q=>⟨#[],by rw [q]; simp⟩⟩
theorem Un.refl:Un fs ex H H h h:=Un.kept fun _ _ q=>q
theorem Un.laid (k:∀ b u,h.get? b=some u->h'.get? b=some u) (hp:h.objs.size <= a) (hn:H a=none):Un fs ex H (upd H a o) h h' where
 keep:=fun b u q _ _ _=>k b u q
 slot:=fun b u q _ _ _=>⟨u.slots,k b u q⟩
 free:=fun b u q n _=>by rw [ym (Nat.ne_of_lt (Nat.lt_of_lt_of_le (Heap.lt_size q) hp))]; exact n
 there:=fun b u q _=>⟨u,k b u q⟩
 tups:=fun b c q=>by rw [ym (yd q hn)]; exact q
 frzs:=fun b u c q=>by rw [ym (yd q hn)]; exact q
 tbls:=fun b d q=>⟨#[],by rw [ym (yd q hn),q]; simp⟩
theorem Un.write (mu:Mut (H x)) (he:e=x\/H e=some (.own x)) (k:∀ b u,b≠e->h.get? b=some u->h'.get? b=some u) (heo:∃ u,h'.get? e=some u):Un fs ex H (upd H x o) h h':=by
 have c:∀ b,H b=none->b≠x:=fun b n z=>by subst z; rw [n] at mu; exact mu
 have d:∀ b,H b=none->b≠e:=fun b n z=>by
  subst z
  rcases he with r | r
  ·exact c b n r
  ·rw [n] at r; cases r
 have a:∀ b u,H b=some u->¬ Mut (some u)->b≠x:=fun b u q f z=>by subst z; rw [q] at mu; exact f mu
 refine ⟨fun b u q n _ _=>k b u (d b n) q,fun b u q n _ _=>⟨u.slots,k b u (d b n) q⟩,fun b u q n _=>by rw [ym (c b n)]; exact n,fun b u q _=>?_,
  fun b g q=>by rw [ym (a b _ q fun z=>z)]; exact q,fun b u g q=>by rw [ym (a b _ q fun z=>z)]; exact q,fun b i q=>⟨#[],by rw [ym (a b _ q fun z=>z),q]; simp⟩⟩
 by_cases hbe:b=e
 ·subst hbe; exact heo
 ·exact ⟨u,k b u hbe q⟩
end
def trk (h:Heap) (H:Hp):List Addr:=(List.range h.objs.size).filter fun a=>(H a).isSome
def yqm (h:Heap) (H:Hp):Heap:=W.hideAll h (trk h H)
theorem yl0 (h:Heap) (H:Hp):(yqm h H).objs.size=h.objs.size:=W.hideAll_size _ _
theorem yo1 {h:Heap} {H:Hp} {b:Addr} {o:Obj} (e:h.get? b=some o) (n:H b=none):(yqm h H).get? b=some o :=
 W.hideAll_get _ e fun a=>by
  have q:(H b).isSome=true:=(List.mem_filter.mp a).2
  rw [n] at q; simp at q
theorem yvj {h:Heap} {H:Hp} {b:Addr} {o:Obj} (e:(yqm h H).get? b=some o):h.get? b=some o/\H b=none:=by
 have a:h.get? b=some o:=W.of_hideAll (trk h H) e
 refine ⟨a,?_⟩
 cases q:H b with
 | none=>rfl
 | some x =>
  have c:b∈trk h H:=List.mem_filter.mpr ⟨List.mem_range.mpr (Heap.lt_size a),by simp [q]⟩
  have z:(yqm h H).get? b=none:=W.hideAll_none (trk h H) c
  rw [z] at e; cases e
def ys4 (g h:Heap) (L:Addr):List (Addr × Obj):=(List.range h.objs.size).filterMap fun a=>if a=L\/(g.get? a).isSome=true then none else (h.get? a).map fun o=>(a,o)
def ybb (g h:Heap) (L d:Addr):List (Addr × Obj):=(ys4 g h L).filter fun p=>decide (p.1≠d)
end L2
namespace L2
open PySem PySem.Spec PyProof.Rows
structure Mod (K:W.Frag) (mg:Str->Option Value) (base:Heap):Prop where
 kin:K.In base
 glob:base.Ns mainGlobals mg
 blt:∃ mb,base.Ns builtinsNs mb/\∀ x:Str,x≠"__name__"->mb x=bootBuiltins x
 nolimit:base.NoLimit
structure Cx where
 prog:Program
 w:World
 K:W.Frag
 mg:Str->Option Value
 base:Heap
 A:Around
 N:List Str
 s₀:Shared
 H₀:Hp
 env:Env
 outer:List Env
 stack:List Env
 ex:List Addr
 fn:Str->Bool
 calm:Bool
 pn:List (Addr × Obj)
 xe:Value->Shared->Prop
def frs (l:List Env):List Addr:=l.filterMap (·.frame)
abbrev Cx.fs (X:Cx):List Addr:=frs X.outer
def Vis (sc:Scope) (x:Str):Prop:=sc.names.lookup x=some .local\/sc.names.lookup x=some .cell\/sc.names.lookup x=some .free
def Loc (sc:Scope) (x:Str):Prop:=sc.names.lookup x=some .local\/sc.names.lookup x=some .cell
def vgx (env:Env) (h:Heap) (m:Str->Option Value) (x:Str) (u:Value):Prop :=
 (env.kindOf x=some .local/\m x=some u)\/((env.kindOf x=some .cell\/env.kindOf x=some .free)/\∃ c,env.cells.lookup x=some c/\h.IsCell c (some u))
structure Cx.Ok (X:Cx):Prop where
 mod:Mod X.K X.mg X.base
 kind:X.env.scope.kind=.function
 glob:X.env.globals=mainGlobals
 blt:X.env.builtins=builtinsNs
 above:X.s₀.heap.objs.size <= X.env.locals
 inj:∀ x y c,X.env.cells.lookup x=some c->X.env.cells.lookup y=some c->x=y
 has:∀ x,(X.env.kindOf x=some .cell\/X.env.kindOf x=some .free)->∃ c,X.env.cells.lookup x=some c
 cab:∀ x c,X.fn x=true->X.env.cells.lookup x=some c->X.s₀.heap.objs.size <= c
 hd:X.calm=true->X.A.handled=none
 frames:X.A.frames=some X.stack
 stk:X.stack=X.outer\/(X.stack=X.env :: X.outer/\X.env.frame=some X.env.locals)
 exf:∀ b∈X.ex,b≠X.env.locals/\∀ x c,X.env.cells.lookup x=some c->c≠b
 bs:∀ b o,X.base.get? b=some o->X.s₀.heap.get? b=some o/\X.H₀ b=none
 bsz:X.base.objs.size <= X.s₀.heap.objs.size
 noex:∀ b o,X.base.get? b=some o->b∉X.ex
 exfs:∀ b∈X.ex,b∉X.fs
 funs:X.s₀.heap.FunFrames X.base X.outer
 frf:∀ b∈X.fs,X.H₀ b=none
structure Inv (X:Cx) (pins:List (Addr × Obj)) (σ:List (Option V)) (H:Hp) (s:Shared):Prop where
 ok:X.Ok
 os:s.os=X.s₀.os
 bare:AllBare s.gens
 base:Un X.fs X.ex X.H₀ H X.s₀.heap s.heap
 loc:∃ m,s.heap.Ns X.env.locals m/\∀ (i:Nat) (x:Str) (v:V),X.N[i]?=some x->σ[i]?=some (some v)->Vis X.env.scope x->∃ u,xl v u/\vgx X.env s.heap m x u
 cell:∀ x c,X.env.cells.lookup x=some c->∃ v,s.heap.IsCell c v
 free:H X.env.locals=none
 freeC:∀ x c,X.env.cells.lookup x=some c->H c=none
 pin:∀ p∈X.pn++pins,s.heap.get? p.1=some p.2/\H p.1=none/\p.1≠X.env.locals/\p.1∉X.fs/\∀ v,p.2.data≠.cell v
 hok:HOk X.prog X.w H s.heap
 len:σ.length=X.N.length
section
variable {X:Cx} {pins:List (Addr × Obj)} {σ:List (Option V)} {H H':Hp} {s:Shared} {h':Heap}
theorem Cx.Ok.nofr (ok:X.Ok) {b:Addr} {o:Obj} (e:X.base.get? b=some o):b∉X.fs:=fun a=>by
 have:=(ok.funs.mem a).1
 rw [e] at this; cases this
theorem Inv.bs (I:Inv X pins σ H s):∀ b o,X.base.get? b=some o->s.heap.get? b=some o/\H b=none:=fun b o e =>
 ⟨I.base.keep b o (I.ok.bs b o e).1 (I.ok.bs b o e).2 (I.ok.nofr e) (I.ok.noex b o e),I.base.free b o (I.ok.bs b o e).1 (I.ok.bs b o e).2 (I.ok.noex b o e)⟩
theorem Inv.bk (I:Inv X pins σ H s):∀ b o,X.base.get? b=some o->s.heap.get? b=some o:=fun b o e=>(I.bs b o e).1
theorem Inv.mod (I:Inv X pins σ H s):Mod X.K X.mg X.base:=I.ok.mod
theorem Inv.kIn (I:Inv X pins σ H s):X.K.In s.heap:=I.ok.mod.kin.keeps I.bk
theorem Inv.lt (I:Inv X pins σ H s):X.env.locals < s.heap.objs.size:=let ⟨_,hn,_⟩:=I.loc; hn.lt
theorem Inv.sz (I:Inv X pins σ H s):X.s₀.heap.objs.size <= s.heap.objs.size:=Nat.le_trans I.ok.above (Nat.le_of_lt I.lt)
theorem Inv.nofs (I:Inv X pins σ H s) {a:Addr} (h:s.heap.objs.size <= a):a∉X.fs:=fun b=>by
 obtain ⟨_,o,c,_⟩:=I.ok.funs.mem b
 exact absurd (Nat.lt_of_lt_of_le (Heap.lt_size c) (Nat.le_trans I.sz h)) (Nat.lt_irrefl _)
theorem Inv.cne (I:Inv X pins σ H s):∀ x c,X.env.cells.lookup x=some c->c≠X.env.locals:=fun x c e z=>by
 obtain ⟨v,o,d,f⟩:=I.cell x c e
 obtain ⟨m,⟨h,g,i,b,a,_⟩,_⟩:=I.loc
 rw [z,b] at d; cases d; rw [a] at f; cases f
theorem Inv.funs (I:Inv X pins σ H s):s.heap.FunFrames X.base X.outer:=by
 have d:∀ (l:List Env),(∀ b∈frs l,b∈X.fs)->X.s₀.heap.FunFrames X.base l->s.heap.FunFrames X.base l:=by
  intro l
  induction l with
  | nil=>intro _ _; trivial
  | cons env r ih =>
   intro g m
   obtain ⟨j,⟨L,o,c,n,h,k⟩,i⟩:=m
   have f:L∈X.fs:=g L (by unfold frs; rw [List.filterMap_cons,c]; exact List.mem_cons_self)
   obtain ⟨p,e⟩:=I.base.slot L o h (I.ok.frf L f) f fun z=>I.ok.exfs L z f
   exact ⟨j,⟨L,_,c,n,e,k⟩,ih (fun b a=>g b (by unfold frs; rw [List.filterMap_cons,c]; exact List.mem_cons_of_mem _ a)) i⟩
 exact d X.outer (fun _ a=>a) I.ok.funs
theorem Inv.stack (I:Inv X pins σ H s):s.heap.FunFrames X.base X.stack:=by
 rcases I.ok.stk with e | ⟨e,a⟩
 ·rw [e]; exact I.funs
 ·rw [e]
  obtain ⟨m,b,_⟩:=I.loc
  refine .cons (by rw [I.ok.kind]; decide) a b ?_ I.funs
  exact Heap.get?_none_of_le (Nat.le_trans I.ok.bsz I.ok.above)
theorem Inv.stkSub (I:Inv X pins σ H s):∀ b∈frs X.stack,b∈X.env.locals :: X.fs:=fun b a=>by
 rcases I.ok.stk with e | ⟨e,c⟩
 ·rw [e] at a; exact List.mem_cons_of_mem _ a
 ·rw [e] at a
  unfold frs at a
  rw [List.filterMap_cons,c] at a
  exact a
theorem Inv.stkFree (I:Inv X pins σ H s):∀ b∈frs X.stack,H b=none:=fun b a=>by
 rcases List.mem_cons.mp (I.stkSub b a) with e | a
 ·rw [e]; exact I.free
 ·obtain ⟨_,o,c,_⟩:=I.ok.funs.mem a
  exact I.base.free b o c (I.ok.frf b a) fun z=>I.ok.exfs b z a
theorem Inv.step {g':Array GenState} {t':Nat} {d':Drawn} {ch:List Addr} (I:Inv X pins σ H s)
  (hch:∀ b∈ch,(b∈X.ex\/X.s₀.heap.objs.size <= b)/\b≠X.env.locals/\(∀ x c,X.env.cells.lookup x=some c->c≠b)/\∀ p∈X.pn++pins,p.1≠b)
  (keep:∀ b o,b≠X.env.locals->b∉X.fs->b∉ch->s.heap.get? b=some o->H b=none->h'.get? b=some o)
  (slot:∀ b o,b≠X.env.locals->b∈X.fs->b∉ch->s.heap.get? b=some o->H b=none->∃ sl,h'.get? b=some { o with slots:=sl }) (free:∀ b o,b∉ch->s.heap.get? b=some o->H b=none->H' b=none)
  (there:∀ b o,b∉ch->s.heap.get? b=some o->∃ o',h'.get? b=some o')
  (tups:∀ b xs,H b=some (.tup xs)->H' b=some (.tup xs)) (frzs:∀ b o u,H b=some (.frz o u)->H' b=some (.frz o u)) (tbls:∀ b ps,H b=some (.tbl ps)->∃ more,H' b=some (.tbl (ps++more)))
  (ns:∀ m,s.heap.Ns X.env.locals m->h'.Ns X.env.locals m) (hok:HOk X.prog X.w H' h') (hg:AllBare g') :
  Inv X pins σ H' { s with heap:=h',gens:=g',drawn:=d',toks:=t' }:=by
 have B:∀ b o,X.s₀.heap.get? b=some o->b≠X.env.locals:=fun b o e=>Nat.ne_of_lt (Nat.lt_of_lt_of_le (Heap.lt_size e) I.ok.above)
 have h:∀ b o,X.s₀.heap.get? b=some o->b∉X.ex->b∉ch:=fun b o e a t=>by
  rcases (hch b t).1 with z | z
  ·exact a z
  ·exact absurd (Nat.lt_of_lt_of_le (Heap.lt_size e) z) (Nat.lt_irrefl _)
 have f:∀ x c,X.env.cells.lookup x=some c->∀ v,s.heap.IsCell c v->h'.IsCell c v:=fun x c e v ⟨o,y,D⟩=>by
  have g:c∉ch:=fun z=>(hch c z).2.2.1 x c e rfl
  by_cases hc:c∈X.fs
  ·obtain ⟨sl,q⟩:=slot c o (I.cne x c e) hc g y (I.freeC x c e)
   exact ⟨_,q,D⟩
  ·exact ⟨o,keep c o (I.cne x c e) hc g y (I.freeC x c e),D⟩
 refine ⟨I.ok,I.os,hg,⟨fun b o e n t a=>?_,fun b o e n t a=>?_,fun b o e n a=>?_,fun b o e a=>?_,fun b xs e=>tups b xs (I.base.tups b xs e),fun b o xs e=>frzs b o xs (I.base.frzs b o xs e),fun b ps e=>?_⟩,?_,fun x c e=>?_,?_,fun x c e=>?_,fun p E=>?_,hok,I.len⟩
 ·exact keep b o (B b o e) t (h b o e a) (I.base.keep b o e n t a) (I.base.free b o e n a)
 ·obtain ⟨sl,j⟩:=I.base.slot b o e n t a
  obtain ⟨C,A⟩:=slot b _ (B b o e) t (h b o e a) j (I.base.free b o e n a)
  exact ⟨C,A⟩
 ·obtain ⟨o',j⟩:=I.base.there b o e a
  exact free b o' (h b o e a) j (I.base.free b o e n a)
 ·obtain ⟨o',j⟩:=I.base.there b o e a
  exact there b o' (h b o e a) j
 ·obtain ⟨N,j⟩:=I.base.tbls b ps e
  obtain ⟨J,A⟩:=tbls b _ j
  exact ⟨N++J,by rw [A,Array.append_assoc]⟩
 ·obtain ⟨m,L,K⟩:=I.loc
  refine ⟨m,ns m L,fun i x v j A M=>?_⟩
  obtain ⟨u,r,l⟩:=K i x v j A M
  refine ⟨u,r,?_⟩
  rcases l with l | ⟨k,c,e,z⟩
  ·exact .inl l
  ·exact .inr ⟨k,c,e,f x c e _ z⟩
 ·obtain ⟨v,z⟩:=I.cell x c e
  exact ⟨v,f x c e v z⟩
 ·obtain ⟨m,⟨o,_,_,y,_⟩,_⟩:=I.loc
  exact free _ o (fun z=>(hch _ z).2.1 rfl) y I.free
 ·obtain ⟨v,o,y,D⟩:=I.cell x c e
  exact free c o (fun z=>(hch c z).2.2.1 x c e rfl) y (I.freeC x c e)
 ·obtain ⟨e,n,G,F,d⟩:=I.pin p E
  have g:p.1∉ch:=fun z=>(hch p.1 z).2.2.2 p E rfl
  exact ⟨keep p.1 p.2 G F g e n,free p.1 p.2 g e n,G,F,d⟩
theorem Inv.un {t':Nat} (I:Inv X pins σ H s) (u:Un X.fs [] H H' s.heap h') (hok:HOk X.prog X.w H' h'):Inv X pins σ H' { s with heap:=h',toks:=t' }:=by
 obtain ⟨m,⟨o,k,t,g,r⟩,_⟩:=id I.loc
 obtain ⟨l,h⟩:=u.any g I.free (by simp)
 exact I.step (g':=s.gens) (d':=s.drawn) (ch:=[]) (fun _ z=>nomatch z) (fun b o _ c _ e n=>u.keep b o e n c (by simp)) (fun b o _ c _ e n=>u.slot b o e n c (by simp)) (fun b o _ e n=>u.free b o e n (by simp)) (fun b o _ e=>u.there b o e (by simp)) u.tups u.frzs u.tbls (fun q j=>by
  obtain ⟨p,d,f,a,i⟩:=j
  rw [g] at a; cases a
  exact ⟨_,d,f,h,i⟩) hok I.bare
theorem Inv.call {g':Array GenState} {t':Nat} {d':Drawn} {ch:List Addr} (I:Inv X pins σ H s) (u:Un (frs X.stack) ch H H' s.heap h') (hok:HOk X.prog X.w H' h') (hg:AllBare g')
  (hch:∀ b∈ch,(b∈X.ex\/X.s₀.heap.objs.size <= b)/\b≠X.env.locals/\(∀ x c,X.env.cells.lookup x=some c->c≠b)/\∀ p∈X.pn++pins,p.1≠b) :
  Inv X pins σ H' { s with heap:=h',gens:=g',drawn:=d',toks:=t' }:=by
 obtain ⟨m,⟨o,q,A,i,r⟩,_⟩:=id I.loc
 obtain ⟨t,h⟩:=u.any i I.free fun z=>(hch _ z).2.1 rfl
 exact I.step (ch:=ch) hch (fun b o h j a e n=>u.keep b o e n (fun z=>(List.mem_cons.mp (I.stkSub b z)).elim h j) a) (fun b o _ _ a e n=>u.any e n a) (fun b o a e n=>u.free b o e n a) (fun b o a e=>u.there b o e a) u.tups u.frzs u.tbls (fun y l=>by
  obtain ⟨v,f,g,d,k⟩:=l
  rw [i] at d; cases d
  exact ⟨_,f,g,h,k⟩) hok hg
theorem Inv.turned {t':Nat} {it:Addr} (I:Inv X pins σ H s) (k:∀ b o,b≠it->s.heap.get? b=some o->h'.get? b=some o) (hn:H it=none) (hL:it≠X.env.locals)
  (h1:it∈X.ex\/X.s₀.heap.objs.size <= it) (h2:∀ x c,X.env.cells.lookup x=some c->c≠it) (h3:∀ p∈X.pn++pins,p.1≠it):Inv X pins σ H { s with heap:=h',toks:=t' }:=by
 have d:∀ b u,H b=some u->b≠it:=fun b u e z=>by rw [z,hn] at e; cases e
 refine I.step (g':=s.gens) (d':=s.drawn) (ch:=[it]) (fun b g=>?_) (fun b o _ _ a e _=>k b o (fun z=>a (by simp [z])) e) (fun b o _ _ a e _=>⟨o.slots,k b o (fun z=>a (by simp [z])) e⟩) (fun _ _ _ _ n=>n)
  (fun b o a e=>⟨o,k b o (fun z=>a (by simp [z])) e⟩) (fun _ _ e=>e) (fun _ _ _ e=>e) (fun b l e=>⟨#[],by rw [e]; simp⟩) (fun m j=>?_) (fun b u e=>?_) I.bare
 ·have e:b=it:=by simpa using g
  subst e
  exact ⟨h1,hL,h2,h3⟩
 ·obtain ⟨o,f,i,h,r⟩:=j
  exact ⟨o,f,i,k _ o (Ne.symm hL) h,r⟩
 ·refine (I.hok b u e).stay (fun c v a q=>k c v ?_ q) (fun _ q=>q) fun _ _ q=>q
  rcases a with z | z
  ·rw [z]; exact d b u e
  ·exact d c _ z
theorem Inv.tok (I:Inv X pins σ H s) (t:Nat):Inv X pins σ H { s with toks:=t }:=I.un (h':=s.heap) (t':=t) Un.refl I.hok
theorem Inv.kept {t':Nat} (I:Inv X pins σ H s) (k:∀ b u,s.heap.get? b=some u->h'.get? b=some u):Inv X pins σ H { s with heap:=h',toks:=t' }:=I.un (Un.kept k) (I.hok.kept k)
theorem Inv.laid {a:Addr} {o:HO} {t':Nat} (I:Inv X pins σ H s) (k:∀ b u,s.heap.get? b=some u->h'.get? b=some u) (hp:s.heap.objs.size <= a) (new:xk X.prog X.w (upd H a o) h' a o) :
  Inv X pins σ (upd H a o) { s with heap:=h',toks:=t' }:=I.un (Un.laid k hp (I.hok.fresh hp)) (I.hok.laid k hp new)
theorem Inv.write {x e:Addr} {o:HO} {t':Nat} (I:Inv X pins σ H s) (mu:Mut (H x)) (he:e=x\/H e=some (.own x)) (k:∀ b u,b≠e->s.heap.get? b=some u->h'.get? b=some u) (heo:∃ u,h'.get? e=some u)
  (new:xk X.prog X.w (upd H x o) h' x o):Inv X pins σ (upd H x o) { s with heap:=h',toks:=t' }:=I.un (Un.write mu he k heo) (I.hok.write mu he k heo new)
theorem Inv.pins_of {pins':List (Addr × Obj)} (I:Inv X pins σ H s) (h:∀ p∈pins',s.heap.get? p.1=some p.2/\H p.1=none/\p.1≠X.env.locals/\p.1∉X.fs/\∀ v,p.2.data≠.cell v):Inv X pins' σ H s :=
 ⟨I.ok,I.os,I.bare,I.base,I.loc,I.cell,I.free,I.freeC,fun p a=>(List.mem_append.mp a).elim (fun z=>I.pin p (List.mem_append_left _ z)) (h p),I.hok,I.len⟩
theorem yil {N:List Str} (hN:N.Nodup) {i j:Nat} {x:Str} (a:N[i]?=some x) (b:N[j]?=some x):i=j:=by
 obtain ⟨e,c⟩:=List.getElem?_eq_some_iff.mp a
 obtain ⟨f,d⟩:=List.getElem?_eq_some_iff.mp b
 exact (List.getElem_inj hN).mp (c.trans d.symm)
theorem j3 {M:Model} {A:Around} {E:Value->Shared->Prop} {i:Nat} {x:Str} {v:V} {u:Value} {Q:Unit->Shared->Prop} (I:Inv X pins σ H s) (hN:X.N.Nodup) (hi:X.N[i]?=some x) (hx:Loc X.env.scope x) (r:xl v u)
  (h:∀ s',Inv X pins (σ.set i (some v)) H s'->(∃ a,Heap.SameBut a s.heap s'.heap/\(a=X.env.locals\/X.env.cells.lookup x=some a))->Q () s') (hf:X.fn x=true\/X.env.scope.names.lookup x=some .local:=by first | exact .inl rfl | exact .inr rfl | assumption):wpAny M A (storeName X.env x u) Q E s:=by
 obtain ⟨m,hn,hl⟩:=id I.loc
 have L:(X.env.scope.kind == .class || (X.env.scope.kind == .module && X.env.locals != X.env.globals))=false:=by rw [I.ok.kind]; rfl
 have hiσ:i < σ.length:=by rw [I.len]; exact (List.getElem?_eq_some_iff.mp hi).1
 have G:=I.cne
 have l:∀ {a:Addr} {K:Heap},(∃ o,s.heap.get? a=some o/\H a=none)->Heap.SameBut a s.heap K->HOk X.prog X.w H K:=fun {a K} ha f b ob e=>by
  obtain ⟨_,_,B⟩:=ha
  refine (I.hok b ob e).stay (fun c S t q=>(f.2 c ?_).trans q) (fun _ q=>q) fun _ _ q=>q
  rintro rfl
  rcases t with rfl | t
  ·rw [B] at e; cases e
  ·rw [B] at t; cases t
 rcases hx with D | D
 ·refine wpAny_storeName_local D hn (fun K Z f=>?_) L
  obtain ⟨oL,_,_,a0,_⟩:=id hn
  refine h _ ⟨I.ok,I.os,I.bare,⟨fun b o e n F hx=>?_,fun b o e n F hx=>?_,I.base.free,fun b o e hx=>?_,I.base.tups,I.base.frzs,I.base.tbls⟩,⟨_,Z,fun j y v' g C e3=>?_⟩,fun y c e=>?_,I.free,I.freeC,fun p Y=>?_,l ⟨oL,a0,I.free⟩ f,by simpa using I.len⟩ ⟨_,f,.inl rfl⟩
  ·exact (f.2 b (Nat.ne_of_lt (Nat.lt_of_lt_of_le (Heap.lt_size e) I.ok.above))).trans (I.base.keep b o e n F hx)
  ·obtain ⟨sl,g⟩:=I.base.slot b o e n F hx
   exact ⟨sl,(f.2 b (Nat.ne_of_lt (Nat.lt_of_lt_of_le (Heap.lt_size e) I.ok.above))).trans g⟩
  ·obtain ⟨o',g⟩:=I.base.there b o e hx
   exact ⟨o',(f.2 b (Nat.ne_of_lt (Nat.lt_of_lt_of_le (Heap.lt_size e) I.ok.above))).trans g⟩
  ·by_cases hj:j=i
   ·subst hj
    rw [hi] at g; cases g
    rw [List.getElem?_set_self hiσ] at C
    cases C
    exact ⟨u,r,.inl ⟨D,by simp⟩⟩
   ·rw [List.getElem?_set_ne (Ne.symm hj)] at C
    obtain ⟨W,r',q⟩:=hl j y v' g C e3
    refine ⟨W,r',?_⟩
    rcases q with ⟨k,e⟩ | ⟨k,c,e,z⟩
    ·refine .inl ⟨k,?_⟩
     have:y≠x:=fun e=>hj (yil hN g (e ▸ hi))
     simp [this,e]
    ·exact .inr ⟨k,c,e,z.sameBut f (G y c e)⟩
  ·obtain ⟨S,z⟩:=I.cell y c e
   exact ⟨S,z.sameBut f (G y c e)⟩
  ·obtain ⟨e,n,U,nf,d⟩:=I.pin p Y
   exact ⟨(f.2 p.1 U).trans e,n,U,nf,d⟩
 ·have J:X.fn x=true:=by
   rcases hf with z | z
   ·exact z
   ·rw [z] at D; cases D
  obtain ⟨c,t⟩:=I.ok.has x (.inl D)
  obtain ⟨S,z⟩:=I.cell x c t
  refine wpAny_storeName_cell I.ok.kind D t z (fun K P f=>?_)
  obtain ⟨oc,O,R⟩:=id z
  refine h { s with heap:=K } ⟨I.ok,I.os,I.bare,⟨fun b o e n F hx=>?_,fun b o e n F hx=>?_,I.base.free,fun b o e hx=>?_,I.base.tups,I.base.frzs,I.base.tbls⟩,⟨m,hn.sameBut f (Ne.symm (G x c t)),fun j y v' g C e3=>?_⟩,fun y T e=>?_,I.free,I.freeC,fun p Y=>?_,l ⟨oc,O,I.freeC x c t⟩ f,by simpa using I.len⟩ ⟨c,f,.inr t⟩
  ·exact (f.2 b (Nat.ne_of_lt (Nat.lt_of_lt_of_le (Heap.lt_size e) (I.ok.cab x c J t)))).trans (I.base.keep b o e n F hx)
  ·obtain ⟨sl,g⟩:=I.base.slot b o e n F hx
   exact ⟨sl,(f.2 b (Nat.ne_of_lt (Nat.lt_of_lt_of_le (Heap.lt_size e) (I.ok.cab x c J t)))).trans g⟩
  ·obtain ⟨o',g⟩:=I.base.there b o e hx
   exact ⟨o',(f.2 b (Nat.ne_of_lt (Nat.lt_of_lt_of_le (Heap.lt_size e) (I.ok.cab x c J t)))).trans g⟩
  ·by_cases hj:j=i
   ·subst hj
    rw [hi] at g; cases g
    rw [List.getElem?_set_self hiσ] at C
    cases C
    exact ⟨u,r,.inr ⟨.inl D,c,t,P⟩⟩
   ·rw [List.getElem?_set_ne (Ne.symm hj)] at C
    obtain ⟨W,r',q⟩:=hl j y v' g C e3
    refine ⟨W,r',?_⟩
    rcases q with q | ⟨k,T,e,z'⟩
    ·exact .inl q
    ·refine .inr ⟨k,T,e,z'.sameBut f ?_⟩
     rintro rfl
     exact hj (yil hN g (I.ok.inj _ _ _ e t ▸ hi))
  ·by_cases hcc:T=c
   ·subst hcc; exact ⟨_,P⟩
   ·obtain ⟨w2,z2⟩:=I.cell y T e
    exact ⟨w2,z2.sameBut f hcc⟩
  ·obtain ⟨e,n,U,nf,d⟩:=I.pin p Y
   refine ⟨(f.2 p.1 ?_).trans e,n,U,nf,d⟩
   intro q
   rw [q,O] at e
   have q':oc=p.2:=Option.some.inj e
   exact d S (by rw [<- q']; exact R)
theorem yes {M:Model} {A:Around} {E:Value->Shared->Prop} {i:Nat} {x:Str} {v:V} {u:Value} {Q:Unit->Shared->Prop} (I:Inv X pins σ H s) (hN:X.N.Nodup) (hi:X.N[i]?=some x) (hx:Loc X.env.scope x) (r:xl v u)
  (h:∀ s',Inv X pins (σ.set i (some v)) H s'->Q () s') (hf:X.fn x=true\/X.env.scope.names.lookup x=some .local:=by first | exact .inl rfl | exact .inr rfl | assumption):wpAny M A (storeName X.env x u) Q E s :=
 j3 I hN hi hx r (fun s' a _=>h s' a) hf
theorem Inv.call' {s':Shared} {ch:List Addr} (I:Inv X pins σ H s) (ho:s'.os=s.os) (u:Un (frs X.stack) ch H H' s.heap s'.heap) (hok:HOk X.prog X.w H' s'.heap) (hg:AllBare s'.gens)
  (hch:∀ b∈ch,(b∈X.ex\/X.s₀.heap.objs.size <= b)/\b≠X.env.locals/\(∀ x c,X.env.cells.lookup x=some c->c≠b)/\∀ p∈X.pn++pins,p.1≠b):Inv X pins σ H' s':=by
 obtain ⟨d,g',d',t',a⟩:=s'
 have e:a=s.os:=ho
 subst e
 exact I.call (g':=g') (t':=t') (d':=d') u hok hg hch
end
abbrev XK:=Value->Option Addr->Hp->Prop
abbrev St:=List (Option V)
abbrev VK:=V->Hp->Prop
abbrev TE:=St->Hp->VK->Prop
abbrev TT:=St->Hp->(Bool->Hp->Prop)->Prop
abbrev TA:=St->Hp->(List V->Hp->Prop)->Prop
structure ye7 where
 nx:St->Hp->Prop
 rt:VK
 bk:St->Hp->Prop:=fun _ _=>False
 ct:St->Hp->Prop:=fun _ _=>False
abbrev TS:=ye7->St->Hp->Prop
def EP (X:Cx) (pins:List (Addr × Obj)) (σ:St) (Q:VK) (u:Value) (s':Shared):Prop:=∃ v H',Inv X pins σ H' s'/\xl v u/\Q v H'
def TP (X:Cx) (pins:List (Addr × Obj)) (σ:St) (Q:Bool->Hp->Prop) (b:Bool) (s':Shared):Prop:=∃ H',Inv X pins σ H' s'/\Q b H'
def AP (X:Cx) (pins:List (Addr × Obj)) (σ:St) (Q:List V->Hp->Prop) (us:List Value) (s':Shared):Prop:=∃ vs H',Inv X pins σ H' s'/\wt vs us/\Q vs H'
def SP (X:Cx) (pins:List (Addr × Obj)) (D:ye7) (f:Flow) (s':Shared):Prop :=
 match f with
 | .next=>∃ σ' H',Inv X pins σ' H' s'/\D.nx σ' H'
 | .brk=>∃ σ' H',Inv X pins σ' H' s'/\D.bk σ' H'
 | .cont=>∃ σ' H',Inv X pins σ' H' s'/\D.ct σ' H'
 | .ret u=>∃ v σ' H',Inv X pins σ' H' s'/\xl v u/\D.rt v H'
def PE (X:Cx) (e:Expr) (t:TE):Prop :=
 ∀ (pins:List (Addr × Obj)) (s:Shared) (σ:St) (H:Hp) (Q:VK),Inv X pins σ H s->t σ H Q->wpAny (model X.prog X.w) X.A (eval e X.env) (EP X pins σ Q) X.xe s
def PT (X:Cx) (e:Expr) (t:TT):Prop :=
 ∀ (pins:List (Addr × Obj)) (s:Shared) (σ:St) (H:Hp) (Q:Bool->Hp->Prop),Inv X pins σ H s->t σ H Q->wpAny (model X.prog X.w) X.A (isTrue e X.env (eval e X.env)) (TP X pins σ Q) X.xe s
def PW (X:Cx) (e:Expr) (t:TT):Prop :=
 ∀ (whole:Sem Value) (pins:List (Addr × Obj)) (s:Shared) (σ:St) (H:Hp) (Q:Bool->Hp->Prop),Inv X pins σ H s->t σ H Q->wpAny (model X.prog X.w) X.A (isTrue e X.env whole) (TP X pins σ Q) X.xe s
theorem PW.pt {X:Cx} {e:Expr} {t:TT} (h:PW X e t):PT X e t:=h _
def PA (X:Cx) (es:List Expr) (t:TA):Prop :=
 ∀ (pos:Pos) (pins:List (Addr × Obj)) (s:Shared) (σ:St) (H:Hp) (Q:List V->Hp->Prop),Inv X pins σ H s->t σ H Q->wpAny (model X.prog X.w) X.A (spliced (backTo pos (starEach es X.env))) (AP X pins σ Q) X.xe s
def PS (X:Cx) (st:Stmt) (t:TS):Prop :=
 ∀ (pins:List (Addr × Obj)) (s:Shared) (σ:St) (H:Hp) (D:ye7),Inv X pins σ H s->t D σ H->wpAny (model X.prog X.w) X.A (exec st X.env) (SP X pins D) X.xe s
def PSs (X:Cx) (st:List Stmt) (t:TS):Prop :=
 ∀ (pins:List (Addr × Obj)) (s:Shared) (σ:St) (H:Hp) (D:ye7),Inv X pins σ H s->t D σ H->wpAny (model X.prog X.w) X.A (execs st X.env) (SP X pins D) X.xe s
theorem thn {α:Type} {t:Sem α} {Q Q':α->Shared->Prop} {M:Model} {A:Around} {E:Value->Shared->Prop} {s:Shared} (h:wpAny M A t Q E s) (hQ:∀ a s,Q a s->Q' a s):wpAny M A t Q' E s:=wpAny_mono h hQ fun _ _ x=>x
end L2
namespace L2
open PySem PySem.Spec PyProof.Rows
section
variable {X:Cx}
def vfn (i:Nat):TE:=fun σ H Q=>∃ v,σ[i]?=some (some v)/\Q v H
def tC (v:V):TE:=fun _ H Q=>Q v H
theorem yy8 {i:Nat} {x:Str} {pos:Pos} (hN:X.N[i]?=some x) (hv:Vis X.env.scope x) (hd:(x == ("__debug__":Str))=false:=by decide) (hcd:(x == ("__classdict__":Str))=false:=by decide):PE X (.Name x pos) (vfn i):=by
 intro f s σ H Q I h
 obtain ⟨v,e,h⟩:=h
 obtain ⟨m,n,k⟩:=I.loc
 obtain ⟨u,r,l⟩:=k i x v hN e hv
 have b:EP X f σ Q u s:=⟨v,H,I,r,h⟩
 rcases l with ⟨d,j⟩ | ⟨d,c,g,a⟩
 ·exact wpAny_Name (wpAny_loadName_local I.ok.kind d n j b) hd
 ·rcases d with d | d
  ·exact wpAny_Name (wpAny_loadName_cell I.ok.kind d g a b) hd
  ·exact wpAny_Name (wpAny_loadName_free I.ok.kind d g a b hcd) hd
theorem yi {i j pos}:PE X (.Constant (.int i) j pos) (tC (.int i)):=fun _ _ _ H _ I h=>wpAny_Constant_int ⟨.int i,H,I.tok _,⟨_,rfl⟩,h⟩
theorem vdt {b j pos}:PE X (.Constant (.bool b) j pos) (tC (.bl b)):=fun _ _ _ H _ I h=>Constant_bool ⟨.bl b,H,I,rfl,h⟩
theorem yaj {j pos}:PE X (.Constant .none j pos) (tC .non):=fun _ _ _ H _ I h=>Constant_none ⟨.non,H,I,rfl,h⟩
theorem xf {x j pos}:PE X (.Constant (.str x) j pos) (tC (.str x)):=fun _ _ _ H _ I h=>Calls.Constant_str ⟨.str x,H,I.tok _,⟨_,rfl⟩,h⟩
def Gl (X:Cx) (x:Str):Prop:=X.env.kindOf x=some .globalImplicit
theorem jn {E:Value->Shared->Prop} {pins:List (Addr × Obj)} {s:Shared} {σ:St} {H:Hp} {x:Str} {u:Value} {pos:Pos} {Q:Value->Shared->Prop} (I:Inv X pins σ H s) (hg:Gl X x) (hm:X.mg x=some u) (h:Q u s)
  (hd:(x == ("__debug__":Str))=false:=by decide):wpAny (model X.prog X.w) X.A (eval (.Name x pos) X.env) Q E s :=
 Calls.Name_function_global I.ok.kind hg (Calls.loadGlobal_global (by rw [I.ok.glob]; exact I.mod.glob.keeps I.bk) hm h) hd
theorem ycr {E:Value->Shared->Prop} {pins:List (Addr × Obj)} {s:Shared} {σ:St} {H:Hp} {x:Str} {u:Value} {pos:Pos} {Q:Value->Shared->Prop} (I:Inv X pins σ H s) (hg:Gl X x) (hm:X.mg x=none) (hv:bootBuiltins x=some u) (h:Q u s)
  (hn:x≠"__name__":=by decide) (hd:(x == ("__debug__":Str))=false:=by decide):wpAny (model X.prog X.w) X.A (eval (.Name x pos) X.env) Q E s:=by
 obtain ⟨c,a,b⟩:=I.mod.blt
 exact Calls.Name_function_global I.ok.kind hg (Calls.loadGlobal_builtin (by rw [I.ok.glob]; exact I.mod.glob.keeps I.bk) hm (by rw [I.ok.blt]; exact a.keeps I.bk) ((b x hn).trans hv) h) hd
theorem yht {x:Str} {v:V} {u:Value} {pos:Pos} (hg:Gl X x) (hm:X.mg x=some u) (r:xl v u) (hd:(x == ("__debug__":Str))=false:=by decide):PE X (.Name x pos) (tC v) :=
 fun _ _ _ H _ I h=>jn I hg hm ⟨v,H,I,r,h⟩ hd
theorem yto {x:Str} {v:V} {u:Value} {pos:Pos} (hg:Gl X x) (hm:X.mg x=none) (hv:bootBuiltins x=some u) (r:xl v u) (hn:x≠"__name__":=by decide) (hd:(x == ("__debug__":Str))=false:=by decide):PE X (.Name x pos) (tC v) :=
 fun _ _ _ H _ I h=>ycr I hg hm hv ⟨v,H,I,r,h⟩ hn hd
variable {a b:Expr} {ta tb:TE} {pos:Pos}
def PC (X:Cx) (op:CmpOp) (a b:Expr) (t:TE):Prop :=
 ∀ (pins:List (Addr × Obj)) (s:Shared) (σ:St) (H:Hp) (Q:VK),Inv X pins σ H s->t σ H Q ->
  wpAny (model X.prog X.w) X.A (eval a X.env) (fun v s₁=>wpAny (model X.prog X.w) X.A (eval b X.env) (fun u s₂=>wpAny (model X.prog X.w) X.A (compareOp op v u) (EP X pins σ Q) X.xe s₂) X.xe s₁) X.xe s
def tB (t:TE):TT:=fun σ H Q=>t σ H fun x H1=>∃ c,x=.bl c/\Q c H1
theorem yn9 {op:CmpOp} {t:TE} (h:PC X op a b t) (h1:behindInMarks op b=false:=by first | exact nobehind _ (by decide) (by decide) | rfl):PT X (.Compare a [op] [b] pos) (tB t):=by
 intro e s σ H Q I k
 refine wpAny_isTrue_Compare1 (thn (h e s σ H _ I k) fun v o h1=>thn h1 fun u m l=>thn l fun c n h'=>?_) h1
 obtain ⟨x,i,f,g,j⟩:=h'
 obtain ⟨d,rfl,q⟩:=j
 cases g
 exact wpAny_truthy_bool ⟨i,f,q⟩
theorem ue {e:Expr} {t:TE} (h:PE X e t) (he:∀ whole,isTrue e X.env whole=(do let v <- whole; standAt e.pos; holding [v] (truthy v)):=by intro _; rfl):PT X e (tB t):=by
 intro a s σ H Q I g
 refine isTrue_plain (thn (h a s σ H _ I g) fun v j h'=>?_) (he _)
 obtain ⟨x,c,i,b,f⟩:=h'
 obtain ⟨d,rfl,q⟩:=f
 cases b
 exact wpAny_truthy_bool ⟨c,i,q⟩
variable {tA tB':TT} {ybb:List Expr}
def vgg (t u:TT):TT:=fun σ H Q=>t σ H fun c H1=>if c=true then u σ H1 Q else Q false H1
def tOr (t u:TT):TT:=fun σ H Q=>t σ H fun c H1=>if c=true then Q true H1 else u σ H1 Q
def vgm (t:TT):TT:=fun σ H Q=>t σ H fun c H1=>Q (!c) H1
theorem ym4 (ha:PT X a tA):PW X (.BoolOp .And [a] pos) tA:=by
 intro d b s σ H Q I h
 refine isTrue_and (thn (ha b s σ H Q I h) fun c f e=>?_)
 cases c with
 | true=>exact isTrue_and_nil e
 | false=>exact e
theorem ydm (ha:PT X a tA):PW X (.BoolOp .Or [a] pos) tA:=by
 intro d b s σ H Q I h
 refine isTrue_or (thn (ha b s σ H Q I h) fun c f e=>?_)
 cases c with
 | false=>exact isTrue_or_nil e
 | true=>exact e
theorem yqx (ha:PT X a tA) (hb:PW X (.BoolOp .And (b :: ybb) pos) tB'):PW X (.BoolOp .And (a :: b :: ybb) pos) (vgg tA tB'):=by
 intro i d s σ H Q I h
 refine isTrue_and (thn (ha d s σ H _ I h) fun c j ⟨e,g,f⟩=>?_)
 cases c with
 | true=>exact hb i d j σ e Q g f
 | false=>exact ⟨e,g,f⟩
theorem ye4 (ha:PT X a tA) (hb:PW X (.BoolOp .Or (b :: ybb) pos) tB'):PW X (.BoolOp .Or (a :: b :: ybb) pos) (tOr tA tB'):=by
 intro i d s σ H Q I h
 refine isTrue_or (thn (ha d s σ H _ I h) fun c j ⟨e,g,f⟩=>?_)
 cases c with
 | true=>exact ⟨e,g,f⟩
 | false=>exact hb i d j σ e Q g f
theorem x6 (ha:PT X a tA):PT X (.UnaryOp .Not a pos) (vgm tA):=by
 intro b s σ H Q I h
 exact isTrue_not (ha b s σ H (fun c d=>Q (!c) d) I h)
def vde (ta tb:TE):TE:=fun σ H Q=>ta σ H fun x H1=>∃ c,x=.bl c/\if c=true then tb σ H1 Q else Q (.bl false) H1
def vf5 (ta tb:TE):TE:=fun σ H Q=>ta σ H fun x H1=>∃ c,x=.bl c/\if c=true then Q (.bl true) H1 else tb σ H1 Q
def vc2 (ta:TE):TE:=fun σ H Q=>ta σ H fun x H1=>∃ c,x=.bl c/\Q (.bl (!c)) H1
theorem zv {op} {t:TE} (h:PE X a t):PE X (.BoolOp op [a] pos) t:=fun b s σ H Q I c=>BoolOp_one (h b s σ H Q I c)
theorem ul (ha:PE X a ta) (hb:PE X (.BoolOp .And (b :: ybb) pos) tb):PE X (.BoolOp .And (a :: b :: ybb) pos) (vde ta tb):=by
 intro d s σ H Q I h
 refine BoolOp_and (thn (ha d s σ H _ I h) fun v j h'=>?_)
 obtain ⟨x,f,g,i,e⟩:=h'
 obtain ⟨c,rfl,e⟩:=e
 cases i
 refine wpAny_truthy_bool ?_
 cases c with
 | true=>exact hb d j σ f Q g e
 | false=>exact ⟨.bl false,f,g,rfl,e⟩
theorem vep (ha:PE X a ta) (hb:PE X (.BoolOp .Or (b :: ybb) pos) tb):PE X (.BoolOp .Or (a :: b :: ybb) pos) (vf5 ta tb):=by
 intro d s σ H Q I h
 refine BoolOp_or (thn (ha d s σ H _ I h) fun v j h'=>?_)
 obtain ⟨x,f,g,i,e⟩:=h'
 obtain ⟨c,rfl,e⟩:=e
 cases i
 refine wpAny_truthy_bool ?_
 cases c with
 | false=>exact hb d j σ f Q g e
 | true=>exact ⟨.bl true,f,g,rfl,e⟩
theorem van (ha:PE X a ta):PE X (.UnaryOp .Not a pos) (vc2 ta):=by
 intro b s σ H Q I h
 refine UnaryOp_ (thn (ha b s σ H _ I h) fun v i h'=>?_)
 obtain ⟨x,f,g,e,d⟩:=h'
 obtain ⟨c,rfl,d⟩:=d
 cases e
 exact not_of (wpAny_truthy_bool ⟨.bl (!c),f,g,rfl,d⟩)
def tIf (t:TT) (ta tb:TE):TE:=fun σ H Q=>t σ H fun c H1=>if c=true then ta σ H1 Q else tb σ H1 Q
theorem j9 {c:Expr} (hc:PT X c tA) (ha:PE X a ta) (hb:PE X b tb):PE X (.IfExp c a b pos) (tIf tA ta tb):=by
 intro e s σ H Q I h
 refine wpAny_IfExp (thn (hc e s σ H _ I h) fun d g ⟨f,j,i⟩=>?_)
 cases d with
 | true=>exact ha e g σ f Q j i
 | false=>exact hb e g σ f Q j i
end
end L2
namespace L2
open PySem PySem.Spec PyProof.Rows
def SqL (K:W.Frag) (H:Hp) (a:Addr) (xs:List V):Prop :=
 Rd H a (.lst xs) \/
  ∃ (o:Obj) (its:Array Value) (n:Nat),K.lookup a=some o/\o.cls=.type "list"/\o.dict=none/\o.data=.seq its n/\its.size <= sizeLine/\wt xs its.toList
def SqT (K:W.Frag) (H:Hp) (a:Addr) (xs:List V):Prop :=
 Rd H a (.tup xs) \/
  ∃ (o:Obj) (its:Array Value) (n:Nat),K.lookup a=some o/\o.cls=.type "tuple"/\o.data=.seq its n/\its.size <= sizeLine/\wt xs its.toList
def vg6:Value->Option V
 | .none=>some .non
 | .bool b=>some (.bl b)
 | .int i _=>some (.int i)
 | .str x _=>some (.str x)
 | .bytes b _=>some (.byt b)
 | .float b _=>some (.flt b)
 | .ref a=>some (.ref a)
 | .type n=>some (.ty n)
 | _=>none
theorem xl.abs {x:V} {u:Value} (r:xl x u):vg6 u=some x:=by
 cases x with
 | non=>cases r; rfl
 | bl _=>cases r; rfl
 | int _=>obtain ⟨t,rfl⟩:=r; rfl
 | str _=>obtain ⟨t,rfl⟩:=r; rfl
 | byt _=>obtain ⟨t,rfl⟩:=r; rfl
 | flt _=>obtain ⟨t,rfl⟩:=r; rfl
 | ref _=>cases r; rfl
 | ty _=>cases r; rfl
theorem xl.inj {x y:V} {u:Value} (r:xl x u) (q:xl y u):x=y:=Option.some.inj (r.abs.symm.trans q.abs)
theorem wt.inj:∀ {xs ys:List V} {us:List Value},wt xs us->wt ys us->xs=ys
 | _,_,_,.nil,.nil=>rfl
 | _,_,_,.cons r t,.cons r' t'=>by rw [r.inj r',wt.inj t t']
section
variable {X:Cx} {pins:List (Addr × Obj)} {σ:St} {H:Hp} {s:Shared} {a:Addr} {xs ys:List V}
theorem SqL.of {K:W.Frag} (h:H a=some (.lst xs)):SqL K H a xs:=.inl (.inl h)
theorem SqT.of {K:W.Frag} (h:H a=some (.tup xs)):SqT K H a xs:=.inl (.inl h)
theorem Inv.list (I:Inv X pins σ H s) (h:SqL X.K H a xs):∃ its:List Value,wt xs its/\PlainL s.heap a its.toArray/\xs.length <= sizeLine:=by
 rcases h with h | ⟨o,its,n,b,d,c,f,g,r⟩
 ·obtain ⟨z,its,n,r,e⟩:=h.ok I.hok
  exact ⟨its,r,⟨_,n,e,rfl,rfl,rfl⟩,z⟩
 ·refine ⟨its.toList,r,⟨o,n,I.kIn a o b,d,c,by simpa using f⟩,?_⟩
  have e:=r.length
  simp only [Array.length_toList] at e
  omega
theorem Inv.tuple (I:Inv X pins σ H s) (h:SqT X.K H a xs):∃ its:List Value,wt xs its/\IsTup s.heap a its.toArray/\xs.length <= sizeLine:=by
 rcases h with h | ⟨o,its,n,b,d,c,f,r⟩
 ·obtain ⟨z,its,r,p⟩:=h.ok I.hok
  exact ⟨its,r,p,z⟩
 ·refine ⟨its.toList,r,⟨o,I.kIn a o b,d,n,by simpa using c⟩,?_⟩
  have e:=r.length
  simp only [Array.length_toList] at e
  omega
theorem Inv.list_inj (I:Inv X pins σ H s) (h:SqL X.K H a xs) (h':SqL X.K H a ys):xs=ys:=by
 obtain ⟨c,r,⟨o,n,e,_,_,d⟩,_⟩:=I.list h
 obtain ⟨b,i,⟨j,k,g,_,_,f⟩,_⟩:=I.list h'
 rw [e] at g; cases g
 rw [d] at f
 injection f with d1 _
 have:c=b:=by simpa using congrArg Array.toList d1
 subst this
 exact r.inj i
theorem Inv.tuple_inj (I:Inv X pins σ H s) (h:SqT X.K H a xs) (h':SqT X.K H a ys):xs=ys:=by
 obtain ⟨c,r,⟨o,e,_,n,d⟩,_⟩:=I.tuple h
 obtain ⟨b,i,⟨j,g,_,k,f⟩,_⟩:=I.tuple h'
 rw [e] at g; cases g
 rw [d] at f
 injection f with d1 _
 have:c=b:=by simpa using congrArg Array.toList d1
 subst this
 exact r.inj i
end
abbrev Cx.wish (X:Cx) (E:Value->Shared->Prop):Cx:={ X with xe:=E }
abbrev Cx.nox (X:Cx):Cx:=X.wish fun _ _=>False
theorem Cx.Ok.wish {X:Cx} (ok:X.Ok) (E:Value->Shared->Prop):(X.wish E).Ok :=
 ⟨ok.mod,ok.kind,ok.glob,ok.blt,ok.above,ok.inj,ok.has,ok.cab,ok.hd,ok.frames,ok.stk,ok.exf,ok.bs,ok.bsz,ok.noex,ok.exfs,ok.funs,ok.frf⟩
theorem Cx.Ok.unwish {X:Cx} {E:Value->Shared->Prop} (ok:(X.wish E).Ok):X.Ok :=
 ⟨ok.mod,ok.kind,ok.glob,ok.blt,ok.above,ok.inj,ok.has,ok.cab,ok.hd,ok.frames,ok.stk,ok.exf,ok.bs,ok.bsz,ok.noex,ok.exfs,ok.funs,ok.frf⟩
section
variable {X:Cx} {pins:List (Addr × Obj)} {σ:St} {H:Hp} {s:Shared} {E:Value->Shared->Prop}
theorem Inv.wish (I:Inv X pins σ H s) (E:Value->Shared->Prop):Inv (X.wish E) pins σ H s:=⟨I.ok.wish E,I.os,I.bare,I.base,I.loc,I.cell,I.free,I.freeC,I.pin,I.hok,I.len⟩
theorem Inv.unwish (I:Inv (X.wish E) pins σ H s):Inv X pins σ H s:=⟨I.ok.unwish,I.os,I.bare,I.base,I.loc,I.cell,I.free,I.freeC,I.pin,I.hok,I.len⟩
theorem SP.unwish {D:ye7} {f:Flow} {s':Shared} (h:SP (X.wish E) pins D f s'):SP X pins D f s':=by
 cases f with
 | next=>obtain ⟨σ',a,I,q⟩:=h; exact ⟨σ',a,I.unwish,q⟩
 | brk=>obtain ⟨σ',a,I,q⟩:=h; exact ⟨σ',a,I.unwish,q⟩
 | cont=>obtain ⟨σ',a,I,q⟩:=h; exact ⟨σ',a,I.unwish,q⟩
 | ret u=>obtain ⟨v,σ',a,I,r,q⟩:=h; exact ⟨v,σ',a,I.unwish,r,q⟩
theorem PSs.nox {st:List Stmt} {t:TS} (h:PSs X.nox st t):PSs X st t:=fun a s σ H D I b =>
 wpAny_mono (h a s σ H D (I.wish _) b) (fun _ _ q=>q.unwish) fun _ _ z=>False.elim z
end
section
variable {X:Cx} {st:Stmt} {ybb:List Stmt} {t u:TS} {e:Expr} {te:TE} {pos:Pos}
def vdi:TS:=fun D σ H=>D.nx σ H
def vfo (t u:TS):TS:=fun D σ H=>t { D with nx:=u D } σ H
theorem vk:PSs X [] vdi:=fun _ _ σ H _ I h=>wpAny_execs_nil ⟨σ,H,I,h⟩
theorem yh (h1:PS X st t) (h2:PSs X ybb u):PSs X (st :: ybb) (vfo t u):=by
 intro a s σ H D I h
 refine wpAny_execs_cons (thn (h1 a s σ H { D with nx:=u D } I h) fun f c q=>?_)
 cases f with
 | next =>
  obtain ⟨σ',d,b,q⟩:=q
  exact h2 a c σ' d D b q
 | ret v=>exact q
 | brk=>exact q
 | cont=>exact q
theorem yf (h1:PS X st t):PSs X [st] t:=by
 intro a s σ H D I h
 refine wpAny_execs_cons (thn (h1 a s σ H D I h) fun f b q=>?_)
 cases f with
 | next=>exact wpAny_execs_nil q
 | ret v=>exact q
 | brk=>exact q
 | cont=>exact q
theorem Inv.quiet {pins:List (Addr × Obj)} {σ:St} {H:Hp} {s:Shared} (I:Inv X pins σ H s):interactive X.env=false:=by simp [interactive,I.ok.kind]
def vdb (te:TE):TS:=fun D σ H=>te σ H fun _ H1=>D.nx σ H1
theorem yu (he:PE X e te) (hs:swapsWith e none pos.line X.env=pure false:=by rfl):PS X (.Expr e pos) (vdb te):=by
 intro a s σ H D I h
 exact wpAny_Expr_any (thn (he a s σ H _ I h) fun v g ⟨x,b,d,f,c⟩=>⟨σ,b,d,c⟩) I.quiet hs
def vgk (te:TE):TS:=fun D σ H=>te σ H D.rt
theorem y7 (he:PE X e te):PS X (.Return (some e) pos) (vgk te):=by
 intro a s σ H D I h
 exact wpAny_Return_some (thn (he a s σ H _ I h) fun v g ⟨x,c,f,b,d⟩=>⟨x,σ,c,f,b,d⟩)
def vft (c:TT) (t u:TS):TS:=fun D σ H=>c σ H fun b H1=>if b=true then t D σ H1 else u D σ H1
theorem ww {c:Expr} {a b:List Stmt} {tc:TT} (hc:PT X c tc) (ha:PSs X a t) (hb:PSs X b u):PS X (.If c a b pos) (vft tc t u):=by
 intro e s σ H D I h
 refine wpAny_If (thn (hc e s σ H _ I h) fun d g ⟨f,j,i⟩=>?_)
 cases d with
 | true=>exact ha e g σ f D j i
 | false=>exact hb e g σ f D j i
def yyt:TS:=fun _ _ _=>False
theorem ypi:PS X st yyt:=fun _ _ _ _ _ _ h=>h.elim
end
abbrev TG:=V->St->Hp->(St->Hp->Prop)->Prop
abbrev TGs:=List V->St->Hp->(St->Hp->Prop)->Prop
def PG (X:Cx) (target:Expr) (t:TG):Prop :=
 ∀ (pins:List (Addr × Obj)) (s:Shared) (σ:St) (H:Hp) (v:V) (u:Value) (Q:St->Hp->Prop),Inv X pins σ H s->xl v u->t v σ H Q ->
  wpAny (model X.prog X.w) X.A (assign target X.env u) (fun _ s'=>∃ σ' H',Inv X pins σ' H' s'/\Q σ' H') X.xe s
def PGs (X:Cx) (ts:List Expr) (t:TGs):Prop :=
 ∀ (pins:List (Addr × Obj)) (s:Shared) (σ:St) (H:Hp) (vs:List V) (us:List Value) (Q:St->Hp->Prop),Inv X pins σ H s->wt vs us->t vs σ H Q ->
  wpAny (model X.prog X.w) X.A (assignInOrder ((assignEach ts X.env).map (·.2)) us) (fun _ s'=>∃ σ' H',Inv X pins σ' H' s'/\Q σ' H') X.xe s
section
variable {X:Cx} {pos:Pos}
def w4 (i:Nat):TG:=fun v σ H Q=>Q (σ.set i (some v)) H
theorem xc {i:Nat} {x:Str} (hN:X.N.Nodup) (hi:X.N[i]?=some x) (hx:Loc X.env.scope x) (hf:X.fn x=true\/X.env.scope.names.lookup x=some .local:=by first | exact .inl rfl | exact .inr rfl | assumption):PG X (.Name x pos) (w4 i):=by
 intro a s σ H v u Q I r h
 exact wpAny_assign_Name (yes I hN hi hx r (fun c b=>⟨_,H,b,h⟩) hf)
def yqn:TGs:=fun vs σ H Q=>vs=[]/\Q σ H
def ja (t:TG) (u:TGs):TGs:=fun vs σ H Q=>∃ v r,vs=v :: r/\t v σ H fun σ' H'=>u r σ' H' Q
theorem yh1:PGs X [] yqn:=by
 intro a s σ H b c Q I r h
 obtain ⟨e,h⟩:=h
 subst e
 cases r
 exact assignInOrder_nil ⟨σ,H,I,h⟩
theorem zz {e:Expr} {es:List Expr} {t:TG} {u:TGs} (h1:PG X e t) (h2:PGs X es u)
  (hs:(assignEach (e :: es) X.env).map (·.2)=assign e X.env :: (assignEach es X.env).map (·.2):=by rfl):PGs X (e :: es) (ja t u):=by
 intro a s σ H j k Q I r h
 obtain ⟨v,i,b,h⟩:=h
 subst b
 cases r with
 | cons r rr =>
  rw [hs]
  refine assignInOrder_cons (thn (h1 a s σ H _ _ _ I r h) fun _ d ⟨σ1,c,g,f⟩=>?_)
  exact h2 a d σ1 c _ _ Q g rr f
def yx2 (K:W.Frag) (n:Nat) (t:TGs):TG:=fun v σ H Q=>∃ a xs,v=.ref a/\SqT K H a xs/\xs.length=n/\t xs σ H Q
theorem yoa {es:List Expr} {k:Nat} {t:TGs} {n:Nat} (hc:X.calm=true) (h:PGs X es t)
  (hn:(assignEach es X.env).length=n:=by rfl) (hst:(assignEach es X.env).findIdx? (·.1)=none:=by rfl):PG X (.Tuple es k pos) (yx2 X.K n t):=by
 intro c s σ H v u Q I r d
 obtain ⟨a,q,g,j,w,d⟩:=d
 subst g
 cases r
 obtain ⟨l,f,m,y⟩:=I.tuple j
 refine assign_Tuple_tuple (I.ok.hd hc) m (by simp [hn,<- w,f.length]) hst fun p i=>?_
 have x:Inv X c σ H { s with heap:=p }:=I.kept (t':=s.toks) fun b o e=>i b o (Nat.ne_of_lt (Heap.lt_size e)) e
 exact h c _ σ H q _ Q x (by simpa using f) d
def vdw (te:TE) (g:TG):TS:=fun D σ H=>te σ H fun x H1=>g x σ H1 D.nx
theorem yy {i:Nat} {x:Str} {e:Expr} {te:TE} {pos':Pos} (hN:X.N.Nodup) (hi:X.N[i]?=some x) (hx:Loc X.env.scope x) (he:PE X e te) (hs:swapsWith e (some (.Name x pos')) pos.line X.env=pure false:=by rfl) (hf:X.fn x=true\/X.env.scope.names.lookup x=some .local:=by first | exact .inl rfl | exact .inr rfl | assumption) :
  PS X (.Assign [.Name x pos'] e pos) (vdw te (w4 i)):=by
 intro a s σ H D I h
 refine wpAny_Assign_Name (thn (he a s σ H _ I h) fun v j h'=>?_) hs
 obtain ⟨y,d,g,b,f⟩:=h'
 exact yes g hN hi hx b (fun k c=>⟨_,d,c,f⟩) hf
end
section
variable {X:Cx} {pos:Pos}
def vco (c:TT) (tb:TS):TS:=fun D σ H=>∃ W:Nat->St->Hp->Prop,(∃ m,W m σ H)/\∀ m σ H,W m σ H ->
 c σ H fun b H1=>if b=true then ∃ N:St->Hp->Prop,(∀ σ' H',N σ' H'->∃ m',m' < m/\W m' σ' H')/\tb { D with nx:=N,ct:=N,bk:=D.nx } σ H1 else D.nx σ H1
theorem z8 {c:Expr} {body:List Stmt} {tc:TT} {tb:TS} (hp:PassesOwn (model X.prog X.w) X.A X.env X.xe) (hc:PT X c tc) (hb:PSs X body tb):PS X (.While c body [] pos) (vco tc tb):=by
 intro a s σ H D I h
 obtain ⟨W,⟨y,C⟩,d⟩:=h
 refine wpAny_While (codeAny_whileLoop (fun n x=>∃ σ' H',Inv X a σ' H' x/\W n σ' H') ?_ y ⟨σ,H,I,C⟩)
 rintro n z ⟨σ1,r,u,E⟩
 refine wpAny_passesOwn hp (thn (hc a z σ1 r _ u (d n σ1 r E)) fun b B ⟨p,q,i⟩=>?_)
 cases b with
 | true =>
  obtain ⟨N,t,i⟩:=i
  rw [if_pos rfl]
  refine wpAny_passesOwn hp (thn (hb a B σ1 p _ q i) fun f F g=>?_)
  cases f with
  | next =>
   obtain ⟨σ3,e,o,j⟩:=g
   obtain ⟨k,l,m⟩:=t σ3 e j
   exact ⟨k,l,σ3,e,o,m⟩
  | cont =>
   obtain ⟨σ3,e,o,j⟩:=g
   obtain ⟨k,l,m⟩:=t σ3 e j
   exact ⟨k,l,σ3,e,o,m⟩
  | brk=>exact g
  | ret v=>exact g
 | false =>
  rw [if_neg Bool.false_ne_true]
  exact wpAny_execs_nil ⟨σ1,p,q,i⟩
end
structure It where
 go:Nat->Hp->Prop
 yld:Nat->Hp->V->Hp->Prop
 stop:Nat->Hp->Prop
def yid (X:Cx) (pins:List (Addr × Obj)) (H:Hp) (b:Addr):Prop :=
 H b=none/\b≠X.env.locals/\b∉X.fs/\(b∈X.ex\/X.s₀.heap.objs.size <= b)/\(∀ x c,X.env.cells.lookup x=some c->c≠b)/\∀ p∈X.pn++pins,p.1≠b
theorem Inv.fpOk {X:Cx} {pins:List (Addr × Obj)} {σ:St} {H H':Hp} {s:Shared} {b:Addr} (I:Inv X pins σ H s) (hb:s.heap.objs.size <= b) (hn:H' b=none):yid X pins H' b:=by
 refine ⟨hn,Nat.ne_of_gt (Nat.lt_of_lt_of_le I.lt hb),I.nofs hb,.inr (Nat.le_trans I.sz hb),fun x c e z=>?_,fun p a z=>?_⟩
 ·obtain ⟨v,q⟩:=I.cell x c e
  exact absurd (Nat.lt_of_lt_of_le q.lt (by rw [z]; exact hb)) (Nat.lt_irrefl _)
 ·exact absurd (Nat.lt_of_lt_of_le (Heap.lt_size (I.pin p a).1) (by rw [z]; exact hb)) (Nat.lt_irrefl _)
structure yk9 (P:Program) (w:World) (K:W.Frag) (tg:Expr) (J:It) (fp:List Addr) (it:Addr) (tn:Nat->Heap->Prop):Prop where
 mem:it∈fp
 obj:∀ i h,tn i h->∀ b∈fp,∃ o,h.get? b=some o/\∀ v,o.data≠.cell v
 keep:∀ i h h',tn i h->(∀ b∈fp,∀ o,h.get? b=some o->h'.get? b=some o)->tn i h'
 item:∀ (X:Cx),X.prog=P->X.w=w->X.K=K->X.calm=true->∀ (i:Nat) (pins:List (Addr × Obj)) (s:Shared) (σ:St) (H:Hp) (E:Value->Shared->Prop),Inv X pins σ H s->(∀ b∈fp,yid X pins H b)->tn i s.heap->J.go i H ->
  wpAny (model P w) X.A (pyNext (.ref it)) (fun r s1=>∃ u,r=some u /\
   wpAny (model P w) X.A (letOwnedTupleGo tg (.ref it) u) (fun _ s2=>∃ x H',Inv X pins σ H' s2/\xl x u/\J.yld i H x H'/\tn (i+1) s2.heap/\∀ b∈fp,H' b=none) E s1) E s
 done:∀ (X:Cx),X.prog=P->X.w=w->X.K=K->X.calm=true->∀ (i:Nat) (pins:List (Addr × Obj)) (s:Shared) (σ:St) (H:Hp) (E:Value->Shared->Prop),Inv X pins σ H s->(∀ b∈fp,yid X pins H b)->tn i s.heap->J.stop i H ->
  wpAny (model P w) X.A (pyNext (.ref it)) (fun r s1=>r=none/\Inv X pins σ H s1) E s
 self:∀ (A:Around) (i:Nat) (s:Shared) (Q:Value->Shared->Prop) (E:Value->Shared->Prop),tn i s.heap->Q (.ref it) s->wpAny (model P w) A (pyIter (.ref it)) Q E s
abbrev TI:=St->Hp->(It->Hp->Prop)->Prop
def PIE (X:Cx) (pins:List (Addr × Obj)) (σ:St) (tg:Expr) (R:It->Hp->Prop) (itv:Value) (s2:Shared):Prop :=
 ∃ (it:Addr) (fp:List Addr) (tn:Nat->Heap->Prop) (J:It) (H':Hp),itv=.ref it/\Inv X pins σ H' s2/\yk9 X.prog X.w X.K tg J fp it tn/\tn 0 s2.heap/\(∀ b∈fp,yid X pins H' b)/\R J H'
def PI (X:Cx) (tg iter:Expr) (wi:TI):Prop :=
 ∀ (pins:List (Addr × Obj)) (s:Shared) (σ:St) (H:Hp) (R:It->Hp->Prop),Inv X pins σ H s->wi σ H R ->
  wpAny (model X.prog X.w) X.A (eval iter X.env) (fun v s1=>wpAny (model X.prog X.w) X.A (pyIter v) (PIE X pins σ tg R) X.xe s1) X.xe s
theorem yk4 {M:Model} {A:Around} {E:Value->Shared->Prop} {s:Shared} {tg:Expr} {it:Addr} {u:Value} {o:Obj} {n:String} {vs:Array Value} {Q:Unit->Shared->Prop} (ho:s.heap.get? it=some o) (hc:o.cls=.type n) (hd:o.data=.fields vs)
  (hn:["enumerate","zip","dict_itemiterator","dict_reverseitemiterator","odict_iterator","itertools.zip_longest","itertools.pairwise"].contains n=false) (hQ:Q () s):wpAny M A (letOwnedTupleGo tg (.ref it) u) Q E s:=by
 unfold letOwnedTupleGo
 cases tg <;> first
  | exact wpAny_pure hQ
  | (cases u <;> first
    | exact wpAny_pure hQ
    | (refine wpAny_bind (wpAny_load ho ?_)
       rw [hc,hd]
       show wpAny M A (if (["enumerate","zip","dict_itemiterator","dict_reverseitemiterator","odict_iterator","itertools.zip_longest","itertools.pairwise"].contains n && vs[0]? == some (rawInt _))=true then _ else _) Q E s
       rw [if_neg (by intro h; rw [hn,Bool.false_and] at h; cases h)]
       exact wpAny_pure hQ))
def Itl (K:W.Frag) (a:Addr):It :=
 ⟨fun i H=>∃ xs x,SqL K H a xs/\xs[i]?=some x,fun i H x H'=>H'=H/\∀ xs,SqL K H a xs->xs[i]?=some x,fun i H=>∃ xs,SqL K H a xs/\xs.length <= i⟩
def Itt (K:W.Frag) (a:Addr):It :=
 ⟨fun i H=>∃ xs x,SqT K H a xs/\xs[i]?=some x,fun i H x H'=>H'=H/\∀ xs,SqT K H a xs->xs[i]?=some x,fun i H=>∃ xs,SqT K H a xs/\xs.length <= i⟩
def Itr (lo:Int) (n:Nat):It:=⟨fun i _=>i < n,fun i H x H'=>H'=H/\x=.int (lo+i),fun i _=>n <= i⟩
theorem yme {P:Program} {w:World} {K:W.Frag} {tg:Expr} (a it:Addr):yk9 P w K tg (Itl K a) [it] it (fun i h=>h.IsListIter it a i) where
 mem:=by simp
 obj:=fun i h f b j=>by
  have e:b=it:=by simpa using j
  subst e
  obtain ⟨o,e,c,d⟩:=f
  exact ⟨o,e,fun v z=>by rw [d] at z; cases z⟩
 keep:=fun i h q f k=>f.at fun o e=>k it (by simp) o e
 item:=by
  intro X F M r N i g s σ H E I m f J
  subst F M r
  obtain ⟨R,x,n,t⟩:=J
  obtain ⟨G,D,p,Y⟩:=I.list n
  obtain ⟨u,hu,U⟩:=D.get t
  obtain ⟨L,B,T,y,A,C⟩:=m it (by simp)
  refine wpAny_pyNext_list_item f p.isList (x:=u) (by simpa using hu) fun q l O=>?_
  have S:Inv X g σ H { s with heap:=q }:=I.turned (t':=s.toks) (fun b o j e=>(O.2 b j).trans e) L B y A C
  obtain ⟨o,e,c,d⟩:=id l
  exact ⟨u,rfl,yk4 (s:={ s with heap:=q }) e c d (by decide) ⟨x,H,S,U,⟨rfl,fun ys Z=>by rw [I.list_inj Z n]; exact t⟩,l,fun b j=>(m b j).1⟩⟩
 done:=by
  intro X F M r N i g s σ H E I m f J
  subst F M r
  obtain ⟨R,n,t⟩:=J
  obtain ⟨G,D,p,Y⟩:=I.list n
  obtain ⟨L,B,T,y,A,C⟩:=m it (by simp)
  have hl:=D.length
  exact wpAny_pyNext_list_end (I.ok.hd N) f p.isList (by simp; omega) fun q Q=>⟨rfl,I.turned (t':=s.toks) (fun b o j e=>Q b o j e) L B y A C⟩
 self:=fun _ _ _ _ _ f h=>wpAny_pyIter_listiter f h
theorem yks {P:Program} {w:World} {K:W.Frag} {tg:Expr} (a it:Addr):yk9 P w K tg (Itt K a) [it] it (fun i h=>h.IsTupleIter it a i) where
 mem:=by simp
 obj:=fun i h f b l=>by
  have e:b=it:=by simpa using l
  subst e
  obtain ⟨o,e,c,d⟩:=f
  exact ⟨o,e,fun v z=>by rw [d] at z; cases z⟩
 keep:=fun i h r f k=>f.at fun o e=>k it (by simp) o e
 item:=by
  intro X G M t N i g s σ H E I n f J
  subst G M t
  obtain ⟨R,x,q,y⟩:=J
  obtain ⟨j,F,p,Y⟩:=I.tuple q
  obtain ⟨u,hu,U⟩:=F.get y
  obtain ⟨L,C,T,A,B,D⟩:=n it (by simp)
  refine wpAny_pyNext_tuple_item f (show s.heap.IsTuple a j.toArray from p) (x:=u) (by simpa using hu) fun r m O=>?_
  have S:Inv X g σ H { s with heap:=r }:=I.turned (t':=s.toks) (fun b o l e=>(O.2 b l).trans e) L C A B D
  obtain ⟨o,e,c,d⟩:=id m
  exact ⟨u,rfl,yk4 (s:={ s with heap:=r }) e c d (by decide) ⟨x,H,S,U,⟨rfl,fun ys Z=>by rw [I.tuple_inj Z q]; exact y⟩,m,fun b l=>(n b l).1⟩⟩
 done:=by
  intro X G M t N i g s σ H E I n f J
  subst G M t
  obtain ⟨R,q,y⟩:=J
  obtain ⟨j,F,p,Y⟩:=I.tuple q
  obtain ⟨L,C,T,A,B,D⟩:=n it (by simp)
  have hl:=F.length
  exact wpAny_pyNext_tuple_end (I.ok.hd N) f (show s.heap.IsTuple a j.toArray from p) (by simp; omega) fun r Q=>⟨rfl,I.turned (t':=s.toks) (fun b o l e=>Q b o l e) L C A B D⟩
 self:=fun _ _ _ _ _ f h=>wpAny_pyIter_tupleiter f h
theorem yjv {P:Program} {w:World} {K:W.Frag} {tg:Expr} (it:Addr) (lo:Int) (n:Nat):yk9 P w K tg (Itr lo n) [it] it (fun i h=>IsRangeIter h it (lo+(i:Nat) * 1) ((n:Int) - (i:Nat)) 1) where
 mem:=by simp
 obj:=fun i h a b d=>by
  have e:b=it:=by simpa using d
  subst e
  exact ⟨_,a,fun v z=>by
   have M:Data.fields _=Data.cell v:=z
   cases M⟩
 keep:=fun i h j a k=>k it (by simp) _ a
 item:=by
  intro X x B l m i c s σ H E I g a y
  subst x B l
  obtain ⟨A,r,J,p,q,u⟩:=g it (by simp)
  have W:=Walks.range (prog:=X.prog) (w:=X.w) (I.ok.hd m) it lo 1 n
  refine W.item i s _ _ y a fun v j C F f L=>?_
  obtain ⟨t,rfl⟩:=F
  have G:Inv X c σ H { s with heap:=j,toks:=C }:=I.turned (fun b o d e=>L b o (by simpa using d) e) A r p q u
  refine ⟨_,rfl,yk4 (s:={ s with heap:=j,toks:=C }) (n:="range_iterator") f rfl rfl (by decide) ⟨.int (lo+i),H,G,⟨t,?_⟩,⟨rfl,rfl⟩,f,fun b d=>(g b d).1⟩⟩
  rw [Int.mul_one]
 done:=by
  intro X x B l m i c s σ H E I g a y
  subst x B l
  obtain ⟨A,r,J,p,q,u⟩:=g it (by simp)
  exact wpAny_pyNext_range_end (I.ok.hd m) a (by have:n <= i:=y; omega) fun j D=>⟨rfl,I.turned (t':=s.toks) (fun b o d e=>D b o d e) A r p q u⟩
 self:=fun _ _ _ _ _ a h=>wpAny_pyIter_rangeiter a h
end L2
namespace L2
open PySem PySem.Spec PyProof.Rows
section
variable {X:Cx} {tg:Expr}
def vcy (K:W.Frag) (tl:TE):TI:=fun σ H R=>tl σ H fun x H1=>∃ a,x=.ref a/\(∃ xs,SqL K H1 a xs)/\R (Itl K a) H1
def vgp (K:W.Frag) (tl:TE):TI:=fun σ H R=>tl σ H fun x H1=>∃ a,x=.ref a/\(∃ xs,SqT K H1 a xs)/\R (Itt K a) H1
theorem xx {l:Expr} {tl:TE} (hl:PE X l tl):PI X tg l (vcy X.K tl):=by
 intro c s σ H R I h
 refine thn (hl c s σ H _ I h) fun v d h'=>?_
 obtain ⟨x,i,f,g,n⟩:=h'
 obtain ⟨a,e,⟨t,j⟩,q⟩:=n
 subst e
 cases g
 obtain ⟨m,u,p,r⟩:=f.list j
 refine wpAny_pyIter_list p.isList ?_
 refine ⟨d.heap.objs.size,[d.heap.objs.size],_,_,i,rfl,f.kept (t':=d.toks) fun b o e=>Heap.get?_push_of_some _ e,yme a _,⟨_,Heap.get?_push_size _ rfl,rfl,rfl⟩,fun b k=>?_,q⟩
 have e:b=d.heap.objs.size:=by simpa using k
 subst e
 exact f.fpOk (Nat.le_refl _) (f.hok.fresh (Nat.le_refl _))
theorem yji {l:Expr} {tl:TE} (hl:PE X l tl):PI X tg l (vgp X.K tl):=by
 intro c s σ H R I h
 refine thn (hl c s σ H _ I h) fun v d h'=>?_
 obtain ⟨x,j,f,i,n⟩:=h'
 obtain ⟨a,e,⟨t,k⟩,q⟩:=n
 subst e
 cases i
 obtain ⟨g,u,p,r⟩:=f.tuple k
 refine wpAny_pyIter_tuple (show d.heap.IsTuple a g.toArray from p) ?_
 refine ⟨d.heap.objs.size,[d.heap.objs.size],_,_,j,rfl,f.kept (t':=d.toks) fun b o e=>Heap.get?_push_of_some _ e,yks a _,⟨_,Heap.get?_push_size _ rfl,rfl,rfl⟩,fun b m=>?_,q⟩
 have e:b=d.heap.objs.size:=by simpa using m
 subst e
 exact f.fpOk (Nat.le_refl _) (f.hok.fresh (Nat.le_refl _))
theorem yix {pins:List (Addr × Obj)} {σ:St} {H:Hp} {s:Shared} {R:It->Hp->Prop} {E:Value->Shared->Prop} {lo hi:Int} {t u v:Tok} {tk:Nat} (I:Inv X pins σ H s) (h1:-(2 ^ 62) <= lo) (h2:lo < 2 ^ 62) (h3:-(2 ^ 62) <= hi) (h4:hi < 2 ^ 62)
  (q:R (Itr lo (hi - lo).toNat) H):wpAny (model X.prog X.w) X.A (pyIter (.ref s.heap.objs.size)) (PIE X pins σ tg R) E { s with heap:=s.heap.push { cls:=.type "range",data:=.fields #[.int lo t,.int hi u,.int 1 v] },toks:=tk }:=by
 refine wpAny_pyIter_range (IsRange.new ..) (small_one h1 h2 h3 h4) ?_
 have a:Inv X pins σ H { s with heap:=s.heap.push { cls:=.type "range",data:=.fields #[.int lo t,.int hi u,.int 1 v] },toks:=tk }:=I.kept fun b o e=>Heap.get?_push_of_some _ e
 refine ⟨(s.heap.push { cls:=.type "range",data:=.fields #[.int lo t,.int hi u,.int 1 v] }).objs.size,[(s.heap.push { cls:=.type "range",data:=.fields #[.int lo t,.int hi u,.int 1 v] }).objs.size],_,_,H,rfl,
  a.kept (t':=tk) fun b o e=>Heap.get?_push_of_some _ e,yjv _ lo (hi - lo).toNat,?_,fun b f=>?_,q⟩
 ·have c:lo+((0:Nat):Int) * 1=lo:=by simp
  have d:(((hi - lo).toNat:Nat):Int) - ((0:Nat):Int)=Builtin.Range.rangeSize lo hi 1:=by rw [rangeSize_one]; split <;> omega
  show IsRangeIter _ _ (lo+((0:Nat):Int) * 1) ((((hi - lo).toNat:Nat):Int) - ((0:Nat):Int)) 1
  rw [c,d]
  exact Heap.get?_push_size _ rfl
 ·have e:b=(s.heap.push { cls:=.type "range",data:=.fields #[.int lo t,.int hi u,.int 1 v] }).objs.size:=by simpa using f
  subst e
  exact a.fpOk (Nat.le_refl _) (a.hok.fresh (Nat.le_refl _))
def vc5 (ta:TA):TI:=fun σ H R=>ta σ H fun vs H1=>∃ j:Int,vs=[.int j]/\-(2 ^ 62) <= j/\j < 2 ^ 62/\R (Itr 0 j.toNat) H1
def vc3 (ta:TA):TI:=fun σ H R=>ta σ H fun vs H1=>∃ i j:Int,vs=[.int i,.int j]/\(-(2 ^ 62) <= i/\i < 2 ^ 62/\-(2 ^ 62) <= j/\j < 2 ^ 62)/\R (Itr i (j - i).toNat) H1
theorem zl {a:Expr} {ta:TA} {p pos:Pos} (hg:Gl X "range") (hm:X.mg "range"=none) (ha:PA X [a] ta) (hs:starEach [a] X.env=[(false,eval a X.env)]:=by rfl):PI X tg (.Call (.Name "range" p) [a] [] pos) (vc5 ta):=by
 intro b s σ H R I h
 refine Call_ (ycr I hg hm boot_range (PyProof.Rows.callWith_type1 (thn (ha pos b s σ H _ I h) fun m l h'=>?_) hs rfl))
 obtain ⟨k,i,g,d,c⟩:=h'
 obtain ⟨j,e,c,f,q⟩:=c
 subst e
 cases d with
 | cons r rr =>
  cases rr
  obtain ⟨t,rfl⟩:=r
  exact call_range_1 (yix g (by omega) (by omega) c f (by simpa using q))
theorem ymi {a b:Expr} {ta:TA} {p pos:Pos} (hg:Gl X "range") (hm:X.mg "range"=none) (ha:PA X [a,b] ta) (hs:starEach [a,b] X.env=[(false,eval a X.env),(false,eval b X.env)]:=by rfl) (hs2:starEach [b] X.env=[(false,eval b X.env)]:=by rfl) :
  PI X tg (.Call (.Name "range" p) [a,b] [] pos) (vc3 ta):=by
 intro c s σ H R I h
 refine Call_ (ycr I hg hm boot_range (PyProof.Rows.callWith_type1 (thn (ha pos c s σ H _ I h) fun w v h'=>?_) (by rw [hs,hs2]) (by rw [hs2]; rfl)))
 obtain ⟨o,n,m,f,d⟩:=h'
 obtain ⟨i,j,e,⟨d,k,g,l⟩,q⟩:=d
 subst e
 cases f with
 | cons r rr =>
  cases rr with
  | cons r' rr =>
   cases rr
   obtain ⟨t,rfl⟩:=r
   obtain ⟨u,rfl⟩:=r'
   exact call_range_2 (yix m d k g l q)
def vf6 (wi:TI) (g:TG) (tb:TS):TS:=fun D σ H=>wi σ H fun J H1=>∃ W:Nat->Nat->St->Hp->Prop,(∃ m,W 0 m σ H1)/\∀ i m σ H,W i m σ H ->
 (J.stop i H/\D.nx σ H)\/(J.go i H/\∃ N:St->Hp->Prop,(∀ σ' H',N σ' H'->∃ m',m' < m/\W (i+1) m' σ' H')/\∀ x H',J.yld i H x H'->g x σ H' fun σ2 H2=>tb { D with nx:=N,ct:=N,bk:=D.nx } σ2 H2)
def yjl (fp:List Addr) (h:Heap):List (Addr × Obj):=fp.filterMap fun b=>(h.get? b).map fun o=>(b,o)
theorem xr {fp:List Addr} {h:Heap} {b:Addr} {o:Obj} (hb:b∈fp) (e:h.get? b=some o):(b,o)∈yjl fp h:=List.mem_filterMap.mpr ⟨b,hb,by rw [e]; rfl⟩
theorem ylf {fp:List Addr} {h:Heap} {p:Addr × Obj} (hp:p∈yjl fp h):p.1∈fp/\h.get? p.1=some p.2:=by
 obtain ⟨b,c,e⟩:=List.mem_filterMap.mp hp
 cases q:h.get? b with
 | none=>rw [q] at e; cases e
 | some o =>
  rw [q] at e
  have a:(b,o)=p:=Option.some.inj e
  subst a
  exact ⟨c,q⟩
theorem Inv.pinned {pins:List (Addr × Obj)} {σ:St} {H:Hp} {s:Shared} {fp:List Addr} (I:Inv X pins σ H s) (hf:∀ b∈fp,yid X pins H b) (ho:∀ b∈fp,∃ o,s.heap.get? b=some o/\∀ v,o.data≠.cell v):Inv X (pins++yjl fp s.heap) σ H s :=
 I.pins_of fun p h=>(List.mem_append.mp h).elim (fun z=>I.pin p (List.mem_append_right _ z)) fun z=>by
  obtain ⟨a,e⟩:=ylf z
  obtain ⟨g,i,f,_⟩:=hf p.1 a
  obtain ⟨o,c,d⟩:=ho p.1 a
  rw [e] at c; cases c
  exact ⟨e,g,i,f,d⟩
theorem Inv.unpinned {pins pl:List (Addr × Obj)} {σ:St} {H:Hp} {s:Shared} (I:Inv X (pins++pl) σ H s):Inv X pins σ H s:=I.pins_of fun p a=>I.pin p (List.mem_append_right _ (List.mem_append_left _ a))
theorem jd {iter:Expr} {body:List Stmt} {wi:TI} {g:TG} {tb:TS} {pos:Pos} (hp:PassesOwn (model X.prog X.w) X.A X.env X.xe) (hc:X.calm=true) (hi:PI X tg iter wi) (hg:PG X tg g) (hb:PSs X body tb)
  (hs:∀ x,foldedSetIterable iter X.env x=pure x:=by intro _; rfl):PS X (.For tg iter body [] pos) (vf6 wi g tb):=by
 intro a s σ H D I h
 refine wpAny_For (thn (hi a s σ H _ I h) fun v s1 h1=>thn h1 fun a0 s2 h2=>?_) hs
 obtain ⟨it,E,Q,J,H2,e,I2,T,P,S,W,⟨m0,w0⟩,C⟩:=h2
 subst e
 have l:∀ {H':Hp},(∀ b∈E,H' b=none)->∀ b∈E,yid X a H' b:=fun hn b hb=>⟨hn b hb,(S b hb).2⟩
 refine codeAny_forLoop_any (fun n U=>∃ i σ' H',Inv X a σ' H' U/\Q i U.heap/\(∀ b∈E,H' b=none)/\W i n σ' H') ?_ m0 ⟨0,σ,H2,I2,P,fun b hb=>(S b hb).1,w0⟩
 rintro n R ⟨i,σ3,G,I3,z,F,w3⟩
 rcases C i n σ3 G w3 with ⟨t,qn⟩ | ⟨go,N,hN,y⟩
 ·refine wpAny_passesOwn hp (thn (T.done X rfl rfl rfl hc i a R σ3 G X.xe I3 (l F) z t) fun r s4 ⟨M,I4⟩=>?_)
  subst M
  exact wpAny_execs_nil ⟨σ3,G,I4,qn⟩
 ·refine wpAny_passesOwn hp (thn (T.item X rfl rfl rfl hc i a R σ3 G X.xe I3 (l F) z go) fun r s4 ⟨u,M,h4⟩=>?_)
  subst M
  refine wpAny_passesOwn hp (thn h4 fun _ Z h'=>?_)
  obtain ⟨x,Y,I5,r5,y5,q,O⟩:=h'
  have L:=I5.pinned (l O) (T.obj _ _ q)
  refine wpAny_passesOwn hp (thn (hg _ Z σ3 Y x u _ L r5 (y x Y y5)) fun _ s6 ⟨σ6,H6,I6,q6⟩=>?_)
  refine wpAny_passesOwn hp (thn (hb _ s6 σ6 H6 _ I6 q6) fun f K p=>?_)
  have c:∀ {σ7:St} {k:Hp},Inv X (a++yjl E Z.heap) σ7 k K->N σ7 k->∃ m,m < n/\∃ i σ' H',Inv X a σ' H' K/\Q i K.heap/\(∀ b∈E,H' b=none)/\W i m σ' H':=fun {σ7 k} j B=>by
   obtain ⟨m',hm,w7⟩:=hN σ7 k B
   refine ⟨m',hm,i+1,σ7,k,j.unpinned,T.keep _ _ _ q fun b hb o e=>(j.pin (b,o) (List.mem_append_right _ (List.mem_append_right _ (xr hb e)))).1,fun b hb=>?_,w7⟩
   obtain ⟨o,e,d⟩:=T.obj _ _ q b hb
   exact (j.pin (b,o) (List.mem_append_right _ (List.mem_append_right _ (xr hb e)))).2.1
  cases f with
  | next=>obtain ⟨σ7,k,j,B⟩:=p; exact c j B
  | cont=>obtain ⟨σ7,k,j,B⟩:=p; exact c j B
  | brk=>obtain ⟨σ7,k,j,p⟩:=p; exact ⟨σ7,k,j.unpinned,p⟩
  | ret v=>obtain ⟨x7,σ7,k,j,r7,p⟩:=p; exact ⟨x7,σ7,k,j.unpinned,r7,p⟩
end
theorem yab {K:W.Frag} {a:Addr} {xs:List V} {g:TG} {tb:TS} {D:ye7} {σ:St} {H:Hp} (Pv:Nat->St->Hp->Prop) (h0:Pv 0 σ H) (hl:∀ i σ H,i <= xs.length->Pv i σ H->SqL K H a xs)
  (hs:∀ i x σ H,xs[i]?=some x->Pv i σ H->g x σ H fun σ2 H2=>tb { D with nx:=Pv (i+1),ct:=Pv (i+1),bk:=D.nx } σ2 H2) (hd:∀ σ H,Pv xs.length σ H->D.nx σ H) :
  ∃ W:Nat->Nat->St->Hp->Prop,(∃ m,W 0 m σ H)/\∀ i m σ H,W i m σ H ->
   ((Itl K a).stop i H/\D.nx σ H)\/((Itl K a).go i H/\∃ N:St->Hp->Prop,(∀ σ' H',N σ' H'->∃ m',m' < m/\W (i+1) m' σ' H')/\∀ x H',(Itl K a).yld i H x H'->g x σ H' fun σ2 H2=>tb { D with nx:=N,ct:=N,bk:=D.nx } σ2 H2):=by
 refine ⟨fun i m σ H=>m=xs.length - i/\i <= xs.length/\Pv i σ H,⟨xs.length,by simp,Nat.zero_le _,h0⟩,?_⟩
 rintro i m σ H ⟨rfl,b,p⟩
 have q:=hl i σ H b p
 by_cases hlt:i < xs.length
 ·refine .inr ⟨⟨xs,xs[i],q,by simp [hlt]⟩,Pv (i+1),fun σ' H' c=>⟨xs.length - (i+1),by omega,rfl,hlt,c⟩,fun x H' y=>?_⟩
  obtain ⟨e,y⟩:=y
  subst e
  exact hs i x σ _ (y xs q) p
 ·have e:i=xs.length:=by omega
  subst e
  exact .inl ⟨⟨xs,q,Nat.le_refl _⟩,hd σ H p⟩
theorem j5 {lo:Int} {n:Nat} {g:TG} {tb:TS} {D:ye7} {σ:St} {H:Hp} (Pv:Nat->St->Hp->Prop) (h0:Pv 0 σ H)
  (hs:∀ i σ H,i < n->Pv i σ H->g (.int (lo+i)) σ H fun σ2 H2=>tb { D with nx:=Pv (i+1),ct:=Pv (i+1),bk:=D.nx } σ2 H2) (hd:∀ σ H,Pv n σ H->D.nx σ H) :
  ∃ W:Nat->Nat->St->Hp->Prop,(∃ m,W 0 m σ H)/\∀ i m σ H,W i m σ H ->
   ((Itr lo n).stop i H/\D.nx σ H)\/((Itr lo n).go i H/\∃ N:St->Hp->Prop,(∀ σ' H',N σ' H'->∃ m',m' < m/\W (i+1) m' σ' H')/\∀ x H',(Itr lo n).yld i H x H'->g x σ H' fun σ2 H2=>tb { D with nx:=N,ct:=N,bk:=D.nx } σ2 H2):=by
 refine ⟨fun i m σ H=>m=n - i/\i <= n/\Pv i σ H,⟨n,by simp,Nat.zero_le _,h0⟩,?_⟩
 rintro i m σ H ⟨rfl,b,p⟩
 by_cases hlt:i < n
 ·refine .inr ⟨hlt,Pv (i+1),fun σ' H' a=>⟨n - (i+1),by omega,rfl,hlt,a⟩,fun x H' y=>?_⟩
  obtain ⟨e,y⟩:=y
  subst e y
  exact hs i σ _ hlt p
 ·have e:i=n:=by omega
  subst e
  exact .inl ⟨Nat.le_refl _,hd σ H p⟩
end L2
namespace L2
open PySem PySem.Spec PyProof.Rows
abbrev R2:=V->V->Hp->VK->Prop
def OpR (X:Cx) (f:Value->Value->Sem Value) (r:R2):Prop :=
 ∀ (pins:List (Addr × Obj)) (s:Shared) (σ:St) (H:Hp) (x y:V) (v u:Value) (Q:VK),Inv X pins σ H s->xl x v->xl y u->r x y H Q ->
  wpAny (model X.prog X.w) X.A (f v u) (EP X pins σ Q) X.xe s
def UnR (X:Cx) (f:Value->Sem Value) (r:V->Hp->VK->Prop):Prop :=
 ∀ (pins:List (Addr × Obj)) (s:Shared) (σ:St) (H:Hp) (x:V) (v:Value) (Q:VK),Inv X pins σ H s->xl x v->r x H Q ->
  wpAny (model X.prog X.w) X.A (f v) (EP X pins σ Q) X.xe s
def yak (X:Cx) (f:Value) (r:List V->Hp->VK->Prop):Prop :=
 ∀ (pins:List (Addr × Obj)) (s:Shared) (σ:St) (H:Hp) (xs:List V) (us:List Value) (Q:VK),Inv X pins σ H s->wt xs us->r xs H Q ->
  wpAny (model X.prog X.w) X.A (call f us) (EP X pins σ Q) X.xe s
def tOp (r:R2) (ta tb:TE):TE:=fun σ H Q=>ta σ H fun x H1=>tb σ H1 fun y H2=>r x y H2 Q
def tUn (r:V->Hp->VK->Prop) (ta:TE):TE:=fun σ H Q=>ta σ H fun x H1=>r x H1 Q
def rI (C:Int->Int->Prop) (g:Int->Int->V):R2:=fun x y H Q=>∃ i j,x=.int i/\y=.int j/\C i j/\Q (g i j) H
def rI0 (g:Int->Int->V):R2:=fun x y H Q=>∃ i j,x=.int i/\y=.int j/\Q (g i j) H
def rU (g:Int->V):V->Hp->VK->Prop:=fun x H Q=>∃ i,x=.int i/\Q (g i) H
section
variable {X:Cx} {a b c:Expr} {ta tb tc:TE} {pos:Pos}
theorem vd2 (ha:PE X a ta) (hb:PE X b tb) {pins:List (Addr × Obj)} {s:Shared} {σ:St} {H:Hp} {R:V->V->Hp->Prop} (I:Inv X pins σ H s)
  (h:ta σ H fun x H1=>tb σ H1 fun y H2=>R x y H2) {Q:Value->Shared->Prop} {f:Value->Value->Sem Value}
  (hf:∀ v u s2 x y H2,Inv X pins σ H2 s2->xl x v->xl y u->R x y H2->wpAny (model X.prog X.w) X.A (f v u) Q X.xe s2) :
  wpAny (model X.prog X.w) X.A (eval a X.env) (fun v s₁=>wpAny (model X.prog X.w) X.A (eval b X.env) (fun u s₂=>wpAny (model X.prog X.w) X.A (f v u) Q X.xe s₂) X.xe s₁) X.xe s:=by
 refine thn (ha pins s σ H _ I h) fun v i h'=>?_
 obtain ⟨x,H1,k,c,j⟩:=h'
 refine thn (hb pins i σ H1 _ k j) fun u s2 h'=>?_
 obtain ⟨y,H2,d,e,g⟩:=h'
 exact hf v u s2 x y H2 d c e g
theorem yr {op:Operator} {r:R2} (ho:OpR X (binaryOp op) r) (ha:PE X a ta) (hb:PE X b tb):PE X (.BinOp a op b pos) (tOp r ta tb):=by
 intro c s σ H Q I h
 exact wpAny_BinOp (vd2 ha hb I h fun v u i x y e d g f q=>ho c i σ e x y v u Q d g f q)
theorem vc4 {op:UnaryOp} {r:V->Hp->VK->Prop} (ho:UnR X (unaryOp op) r) (ha:PE X a ta):PE X (.UnaryOp op a pos) (tUn r ta):=by
 intro b s σ H Q I h
 exact UnaryOp_ (thn (ha b s σ H _ I h) fun v e ⟨x,d,g,c,f⟩=>ho b e σ d x v Q g c f)
theorem opI {f:Value->Value->Sem Value} {C:Int->Int->Prop} {g:Int->Int->Int}
  (rule:∀ (i j:Int) (t u:Tok) (s:Shared) (Q:Value->Shared->Prop) (E:Value->Shared->Prop),C i j->Q (.int (g i j) s.toks) { s with toks:=s.toks+1 }->wpAny (model X.prog X.w) X.A (f (.int i t) (.int j u)) Q E s) :
  OpR X f (rI C fun i j=>.int (g i j)):=by
 intro a s σ H x y v u Q I e b h
 obtain ⟨i,j,rfl,rfl,d,q⟩:=h
 obtain ⟨t,rfl⟩:=e
 obtain ⟨c,rfl⟩:=b
 exact rule i j t c s _ _ d ⟨.int (g i j),H,I.tok _,⟨_,rfl⟩,q⟩
theorem vfv {f:Value->Value->Sem Value} {g:Int->Int->Int}
  (rule:∀ (i j:Int) (t u:Tok) (s:Shared) (Q:Value->Shared->Prop) (E:Value->Shared->Prop),Q (.int (g i j) s.toks) { s with toks:=s.toks+1 }->wpAny (model X.prog X.w) X.A (f (.int i t) (.int j u)) Q E s) :
  OpR X f (rI0 fun i j=>.int (g i j)):=by
 intro a s σ H x y v u Q I b d h
 obtain ⟨i,j,rfl,rfl,q⟩:=h
 obtain ⟨t,rfl⟩:=b
 obtain ⟨c,rfl⟩:=d
 exact rule i j t c s _ _ ⟨.int (g i j),H,I.tok _,⟨_,rfl⟩,q⟩
theorem vd5 {f:Value->Value->Sem Value} {g:Int->Int->Bool}
  (rule:∀ (i j:Int) (t u:Tok) (s:Shared) (Q:Value->Shared->Prop) (E:Value->Shared->Prop),Q (.bool (g i j)) s->wpAny (model X.prog X.w) X.A (f (.int i t) (.int j u)) Q E s) :
  OpR X f (rI0 fun i j=>.bl (g i j)):=by
 intro a s σ H x y v u Q I b d h
 obtain ⟨i,j,rfl,rfl,q⟩:=h
 obtain ⟨t,rfl⟩:=b
 obtain ⟨c,rfl⟩:=d
 exact rule i j t c s _ _ ⟨.bl (g i j),H,I,rfl,q⟩
def vf1 (i j:Int):Prop:=(-(2 ^ 64) < i/\i < 2 ^ 64)\/(-(2 ^ 64) < j/\j < 2 ^ 64)
theorem vf1.ok {i j:Int} (h:vf1 i j):IntMulOk i j:=by
 rcases h with ⟨a,b⟩ | ⟨a,b⟩
 ·exact .of_left (intBits_le_64 a b)
 ·exact .of_right (intBits_le_64 a b)
theorem ykr (k:Nat):(0:Int) <= 2 ^ k:=by
 rw [two_pow_cast]
 exact Int.natCast_nonneg _
theorem we:OpR X (binaryOp .Add) (rI0 fun i j=>.int (i+j)):=vfv fun _ _ _ _ _ _ _ q=>add_int q
theorem ur:OpR X (binaryOp .Sub) (rI0 fun i j=>.int (i - j)):=vfv fun _ _ _ _ _ _ _ q=>sub_int q
theorem wv:OpR X (binaryOp .Mult) (rI vf1 fun i j=>.int (i * j)):=opI fun _ _ _ _ _ _ _ a q=>mul_int q a.ok
theorem xa:OpR X (binaryOp .Mod) (rI (fun _ j=>0 < j) fun i j=>.int (i % j)):=opI fun i j _ _ _ _ _ a q=>by
 have b:(0:Int) < j:=a
 exact mod_int' (by omega) (by rw [Int.fmod_eq_emod_of_nonneg i (by omega)]; exact q)
theorem yrl:OpR X (binaryOp .RShift) (rI (fun _ j=>0 <= j) fun i j=>.int (i / 2 ^ j.toNat)):=opI fun i j _ _ _ _ _ a q =>
 rshift_int a (by rw [Int.fdiv_eq_ediv_of_nonneg i (ykr _)]; exact q)
theorem yq5:OpR X (binaryOp .BitAnd) (rI0 fun i j=>.int (Builtin.bitAnd i j)):=vfv fun _ _ _ _ _ _ _ q=>and_int q
theorem unI {f:Value->Sem Value} {g:Int->Int}
  (rule:∀ (i:Int) (t:Tok) (s:Shared) (Q:Value->Shared->Prop) (E:Value->Shared->Prop),Q (.int (g i) s.toks) { s with toks:=s.toks+1 }->wpAny (model X.prog X.w) X.A (f (.int i t)) Q E s) :
  UnR X f (rU fun i=>.int (g i)):=by
 intro a s σ H x v Q I b h
 obtain ⟨i,rfl,q⟩:=h
 obtain ⟨t,rfl⟩:=b
 exact rule i t s _ _ ⟨.int (g i),H,I.tok _,⟨_,rfl⟩,q⟩
theorem ysh:UnR X (unaryOp .USub) (rU fun i=>.int (-i)):=unI fun _ _ _ _ _ q=>neg_int q
end
def vgf:V->V->Bool
 | .non,.non=>true | .non,.int _=>true | .int _,.non=>true | .non,.bl _=>true | .bl _,.non=>true | .non,.str _=>true | .str _,.non=>true
 | .int _,.int _=>true | .bl _,.bl _=>true | .str _,.str _=>true | .byt _,.byt _=>true
 | .int _,.str _=>true | .str _,.int _=>true | .bl _,.str _=>true | .str _,.bl _=>true
 | _,_=>false
def rEq:R2:=fun x y H Q=>vgf x y=true/\Q (.bl (decide (x=y))) H
theorem ytu {i j:Int}:decide (V.int i=V.int j)=(i == j):=by
 rw [Bool.eq_iff_iff]
 simp
theorem yy4 {i j:Bool}:decide (V.bl i=V.bl j)=(i == j):=by
 rw [Bool.eq_iff_iff]
 simp
theorem ys8 {i j:Str}:decide (V.str i=V.str j)=(i == j):=by
 rw [Bool.eq_iff_iff]
 simp
theorem yvk {i j:Array UInt8}:decide (V.byt i=V.byt j)=(i.toList == j.toList):=by
 rw [Bool.eq_iff_iff]
 cases i
 cases j
 simp
section
variable {X:Cx} {a b c:Expr} {ta tb tc:TE} {pos:Pos}
theorem x0 {pins:List (Addr × Obj)} {σ:St} {H:Hp} {s:Shared} {Q:VK} {k k':Bool} (I:Inv X pins σ H s) (q:Q (.bl k) H) (e:k=k'):EP X pins σ Q (.bool k') s:=by
 subst e
 exact ⟨.bl k,H,I,rfl,q⟩
theorem uw:OpR X (compareOp .Eq) rEq:=by
 intro e s σ H x y v u Q I d a h
 obtain ⟨c,q⟩:=h
 cases x with
 | non =>
  cases d
  cases y with
  | non=>cases a; exact PySem.EqNone.eq_none_none (x0 I q (by simp))
  | bl j=>cases a; exact PySem.EqNone.eq_none_bool (x0 I q (by simp))
  | int j=>obtain ⟨b,rfl⟩:=a; exact PySem.EqNone.eq_none_int (x0 I q (by simp))
  | str j=>obtain ⟨b,rfl⟩:=a; exact PySem.EqNone.eq_none_str (x0 I q (by simp))
  | _=>exact absurd (show false=true from c) Bool.false_ne_true
 | bl i =>
  cases d
  cases y with
  | non=>cases a; exact PySem.EqNone.eq_bool_none (x0 I q (by simp))
  | bl j=>cases a; exact eq_bool (x0 I q yy4)
  | str j=>obtain ⟨b,rfl⟩:=a; exact PySem.EqMixed.eq_bool_str (x0 I q (by simp))
  | _=>exact absurd (show false=true from c) Bool.false_ne_true
 | int i =>
  obtain ⟨t,rfl⟩:=d
  cases y with
  | non=>cases a; exact PySem.EqNone.eq_int_none (x0 I q (by simp))
  | int j=>obtain ⟨b,rfl⟩:=a; exact eq_int (x0 I q ytu)
  | str j=>obtain ⟨b,rfl⟩:=a; exact PySem.EqMixed.eq_int_str (x0 I q (by simp))
  | _=>exact absurd (show false=true from c) Bool.false_ne_true
 | str i =>
  obtain ⟨t,rfl⟩:=d
  cases y with
  | non=>cases a; exact PySem.EqNone.eq_str_none (x0 I q (by simp))
  | bl j=>cases a; exact PySem.EqMixed.eq_str_bool (x0 I q (by simp))
  | int j=>obtain ⟨b,rfl⟩:=a; exact PySem.EqMixed.eq_str_int (x0 I q (by simp))
  | str j=>obtain ⟨b,rfl⟩:=a; exact eq_str (x0 I q ys8)
  | _=>exact absurd (show false=true from c) Bool.false_ne_true
 | byt i =>
  obtain ⟨t,rfl⟩:=d
  cases y with
  | byt j=>obtain ⟨b,rfl⟩:=a; exact W.eq_bytes (x0 I q yvk)
  | _=>exact absurd (show false=true from c) Bool.false_ne_true
 | _=>cases y <;> exact absurd (show false=true from c) Bool.false_ne_true
theorem ygm:OpR X (compareOp .Lt) (rI0 fun i j=>.bl (decide (i < j))):=vd5 fun _ _ _ _ _ _ _ q=>lt_int q
theorem zb:OpR X (compareOp .LtE) (rI0 fun i j=>.bl (decide (i <= j))):=vd5 fun _ _ _ _ _ _ _ q=>le_int q
theorem yh5:OpR X (compareOp .Gt) (rI0 fun i j=>.bl (decide (j < i))):=vd5 fun _ _ _ _ _ _ _ q=>gt_int q
theorem vef:OpR X (compareOp .GtE) (rI0 fun i j=>.bl (decide (j <= i))):=vd5 fun _ _ _ _ _ _ _ q=>ge_int q
theorem ymf:OpR X (compareOp .In) (fun x y H Q=>∃ i j,x=.str i/\y=.str j/\Q (.bl (!(Builtin.Str.occurrences j i 0 j.length 1).isEmpty)) H):=by
 intro a s σ H x y v u Q I b c h
 obtain ⟨i,j,rfl,rfl,q⟩:=h
 obtain ⟨t,rfl⟩:=b
 obtain ⟨d,rfl⟩:=c
 exact in_str (x0 I q rfl)
theorem yco:OpR X (compareOp .IsNot) (fun x y H Q=>y=.non/\Q (.bl (!decide (x=.non))) H):=by
 intro b s σ H x y v u Q I a c h
 obtain ⟨rfl,q⟩:=h
 cases c
 refine isnot_none_gen (x0 I q ?_)
 cases x <;> first
  | (cases a; rfl)
  | (obtain ⟨t,rfl⟩:=a; rfl)
theorem vg (b:Expr) {op:CmpOp} (h:op≠.In:=by decide) (h2:op≠.NotIn:=by decide):behindInMarks op b=false:=by
 have a:(op == CmpOp.In)=false:=by cases op <;> first | rfl | exact absurd rfl h
 have c:(op == CmpOp.NotIn)=false:=by cases op <;> first | rfl | exact absurd rfl h2
 cases b <;> simp [behindInMarks,a,c]
theorem uc {op:CmpOp} {r:R2} (ho:OpR X (compareOp op) r) (ha:PE X a ta) (hb:PE X b tb) (hm:behindInMarks op b=false):PE X (.Compare a [op] [b] pos) (tOp r ta tb):=by
 intro c s σ H Q I h
 exact wpAny_Compare1 (vd2 ha hb I h fun v u i x y e d g f q=>ho c i σ e x y v u Q d g f q) hm
def yvo (t:TE):TT:=fun σ H Q=>t σ H fun x H'=>∃ k,x=.bl k/\Q k H'
theorem y8 {op:CmpOp} {r:R2} (ho:OpR X (compareOp op) r) (ha:PE X a ta) (hb:PE X b tb) (hm:behindInMarks op b=false):PT X (.Compare a [op] [b] pos) (yvo (tOp r ta tb)):=by
 intro d s σ H Q I h
 refine wpAny_isTrue_Compare1 (thn (ha d s σ H _ I h) fun v w ⟨x,j,B,f,A⟩=>thn (hb d w σ j _ B A) fun u m ⟨y,g,i,l,p⟩ =>
  thn (ho d m σ g x y v u _ i f l p) fun c C ⟨z,q,n,t,k,e,o⟩=>?_) hm
 subst e
 cases t
 exact wpAny_truthy_bool ⟨q,n,o⟩
def ynq (r r':R2) (ta tb tc:TE):TE:=fun σ H Q=>ta σ H fun x H1=>tb σ H1 fun y H2=>r x y H2 fun z H3=>∃ k,z=.bl k /\
 (if k=true then tc σ H3 fun w' H4=>r' y w' H4 Q else Q (.bl false) H3)
theorem j7 {op op':CmpOp} {r r':R2} (ho:OpR X (compareOp op) r) (ho':OpR X (compareOp op') r') (ha:PE X a ta) (hb:PE X b tb) (hc:PE X c tc)
  (hm:lastMarks [op,op'] [b,c]=false:=by with_unfolding_all rfl):PE X (.Compare a [op,op'] [b,c] pos) (ynq r r' ta tb tc):=by
 intro f s σ H Q I h
 refine Compare_chain (thn (ha f s σ H _ I h) fun v C ⟨x,w,p,B,A⟩=>chain_link (thn (hb f C σ w _ p A) fun u D ⟨y,q,t,i,J⟩ =>
  thn (ho f D σ q x y v u _ t B i J) fun d n ⟨z,l,j,L,k,e,g⟩=>?_)) hm
 subst e
 cases L
 refine wpAny_truthy_bool ?_
 cases k with
 | false=>exact ite_ff ⟨.bl false,l,j,rfl,g⟩
 | true=>exact ite_tt (chain_last (thn (hc f n σ l _ j g) fun m o ⟨K,E,F,G,M⟩=>ho' f o σ E y K u m Q F i G M))
theorem yex {op op':CmpOp} {r r':R2} (ho:OpR X (compareOp op) r) (ho':OpR X (compareOp op') r') (ha:PE X a ta) (hb:PE X b tb) (hc:PE X c tc)
  (hm:lastMarks [op,op'] [b,c]=false:=by with_unfolding_all rfl):PT X (.Compare a [op,op'] [b,c] pos) (yvo (ynq r r' ta tb tc)):=by
 intro f s σ H Q I h
 refine isTrue_chain (thn (ha f s σ H _ I h) fun v L ⟨x,A,q,F,D⟩=>test_link (thn (hb f L σ A _ q D) fun u M ⟨y,t,w,i,R⟩ =>
  thn (ho f M σ t x y v u _ w F i R) fun d n ⟨z,l,j,T,k,e,g⟩=>?_)) hm
 subst e
 cases T
 refine wpAny_truthy_bool ?_
 cases k with
 | false =>
  obtain ⟨Y,C,E⟩:=g
  cases C
  exact ite_ff ⟨l,j,E⟩
 | true =>
  refine ite_tt (test_last (thn (hc f n σ l _ j g) fun m o ⟨S,N,O,P,U⟩=>thn (ho' f o σ N y S u m _ O i P U) fun d' Z h'=>?_))
  obtain ⟨z2,J,K,G,W,p,B⟩:=h'
  subst p
  cases G
  exact wpAny_truthy_bool ⟨J,K,B⟩
theorem yjp:(sizeLine:Nat) < 2 ^ 63:=by rw [sizeLine_eq]; decide
theorem yay:OpR X (binaryOp .Add) (fun x y H Q=>∃ i j,x=.str i/\y=.str j/\i.length+j.length <= sizeLine/\Q (.str (i++j)) H):=by
 intro a s σ H x y v u Q I e c h
 obtain ⟨i,j,rfl,rfl,b,q⟩:=h
 obtain ⟨t,rfl⟩:=e
 obtain ⟨d,rfl⟩:=c
 exact add_str (fun d f=>⟨.str (i++j),H,I.tok _,⟨_,rfl⟩,q⟩) b
def yps (b:Expr):Prop:=∀ o i,subscripted b false o i=operate [o,i] (getItem o i)
theorem ycc (ha:PE X a ta) (hb:PE X b tb) (hs:yps b) :
  PE X (.Subscript a b pos) (tOp (fun x y H Q=>∃ z i c,x=.str z/\y=.int i/\0 <= i/\i < 2 ^ 63/\i < z.length/\z.cps[i.toNat]?=some c/\Q (.str ⟨#[c]⟩) H) ta tb):=by
 intro d s σ H Q I h
 refine Subscript_ (vd2 ha hb I h fun v u l x y g j r n q=>?_)
 obtain ⟨z,i,c,rfl,rfl,f,o,m,p,q⟩:=q
 obtain ⟨t,rfl⟩:=r
 obtain ⟨A,rfl⟩:=n
 have e:seqIndex? i z.length=some i.toNat:=PySem.StrLaws.seqIndex_nonneg f m
 exact tail_any (typeIs_str l z t) slot_str_getitem.lookup (getItem_str (c:=c) (by
  have k:decide (i < -(2 ^ 63:Int))=false:=decide_eq_false (by omega)
  have w:decide (i ≥ 2 ^ 63)=false:=decide_eq_false (by omega)
  rw [k,w] <;> rfl) (by rw [e]; exact p) ⟨.str ⟨#[c]⟩,g,j.tok _,⟨_,rfl⟩,q⟩) (hs _ _)
theorem yc9 {x:V} {us:List Value} (r:wt [x] us):∃ u,us=[u]/\xl x u:=by
 cases r with
 | cons r1 r2=>cases r2; exact ⟨_,rfl,r1⟩
theorem ywf {x y:V} {us:List Value} (r:wt [x,y] us):∃ u w',us=[u,w']/\xl x u/\xl y w':=by
 cases r with
 | cons r1 r2 =>
  cases r2 with
  | cons r3 r4=>cases r4; exact ⟨_,_,rfl,r1,r3⟩
theorem ygc (hc:X.calm=true):yak X (.builtin "max") (fun xs H Q=>∃ i j,xs=[.int i,.int j]/\Q (.int (if j > i then j else i)) H):=by
 intro a s σ H xs f Q I r h
 obtain ⟨i,j,rfl,q⟩:=h
 obtain ⟨u,b,rfl,⟨t,rfl⟩,⟨e,rfl⟩⟩:=ywf r
 refine max_two_ints (I.ok.hd hc) fun d c k=>⟨_,H,I.kept k,?_,q⟩
 by_cases hj:j > i
 ·rw [if_pos hj,if_pos hj]; exact ⟨_,rfl⟩
 ·rw [if_neg hj,if_neg hj]; exact ⟨_,rfl⟩
theorem yf0 (hc:X.calm=true):yak X (.builtin "min") (fun xs H Q=>∃ i j,xs=[.int i,.int j]/\Q (.int (if j < i then j else i)) H):=by
 intro a s σ H xs f Q I r h
 obtain ⟨i,j,rfl,q⟩:=h
 obtain ⟨u,b,rfl,⟨t,rfl⟩,⟨e,rfl⟩⟩:=ywf r
 refine min_two_ints (I.ok.hd hc) fun d c k=>⟨_,H,I.kept k,?_,q⟩
 by_cases hj:j < i
 ·rw [if_pos hj,if_pos hj]; exact ⟨_,rfl⟩
 ·rw [if_neg hj,if_neg hj]; exact ⟨_,rfl⟩
theorem ymv:yak X (.type "int") (fun xs H Q=>(∃ i,xs=[.int i]/\Q (.int i) H)\/∃ k,xs=[.bl k]/\Q (.int (if k then 1 else 0)) H):=by
 intro a s σ H xs c Q I r h
 rcases h with ⟨i,rfl,q⟩ | ⟨k,rfl,q⟩
 ·obtain ⟨u,rfl,t,rfl⟩:=yc9 r
  exact call_int_int ⟨.int i,H,I,⟨_,rfl⟩,q⟩
 ·obtain ⟨u,rfl,b⟩:=yc9 r
  cases b
  exact call_int_bool ⟨.int (if k then 1 else 0),H,I.tok _,⟨_,rfl⟩,q⟩
end
end L2
namespace L2
open PySem PySem.Spec PyProof.Rows
structure yxx (h:Heap) (x dx C:Addr) (mA:Str->Option Value):Prop where
 obj:h.get? x=some (W.instObj C dx)
 ns:h.Ns1 dx mA
 ne:dx≠x
theorem ymp {h:Heap} {dx:Addr} {mA:Str->Option Value} (n:h.Ns1 dx mA):∃ od,h.get? dx=some od/\∀ name,W.lookIn name od=some (mA name):=by
 obtain ⟨o,c,l,d,j,g,_,k⟩:=n
 refine ⟨o,d,fun name=>?_⟩
 have e:=k name
 unfold nsFind findBy at e
 rw [<- Array.find?_toList] at e
 unfold W.lookIn
 rw [j]
 dsimp only
 split
 ·rename_i y q
  rw [q] at e
  exact congrArg some e
 ·rename_i q
  rw [q] at e
  have a:c.toList.any (·.refKey)=false:=by
   rw [List.any_eq_false]
   intro y i
   obtain ⟨z,t,b⟩:=g y (Array.mem_toList_iff.mp i)
   simp [DictEntry.refKey,b]
  have f:¬ c.toList.any (·.refKey)=true:=by rw [a]; exact Bool.false_ne_true
  rw [if_neg f]
  exact congrArg some e
theorem yxx.look {h:Heap} {x dx C:Addr} {mA:Str->Option Value} (I:yxx h x dx C mA):∃ od,W.InstAt h x (W.instObj C dx) C (some od)/\∀ name,W.lookIn name od=some (mA name) :=
 let ⟨od,ho,hl⟩:=ymp I.ns
 ⟨od,⟨I.obj,rfl,rfl,ho⟩,hl⟩
section
variable {prog:Program} {w:World} {A:Around} {E:Value->Shared->Prop} {s:Shared} {K:W.Frag} {x dx C f:Addr} {mA:Str->Option Value} {name:Str} {v:Value}
theorem yu7 {expr:Bool} {Q:Value->Shared->Prop} (X:K.In s.heap) (I:yxx s.heap x dx C mA) (hg:W.plainGet K C name=true) (hh:W.hasDictIn K C=true)
  (ha:W.findIn K (.ref C) name=some none) (hv:mA name=some v) (hv':W.handedIn v=true) (h:Q v { s with toks:=s.toks+1 }) :
  wpAny (model prog w) A (getAttr (.ref x) name expr) Q E s:=by
 obtain ⟨b,J,a⟩:=I.look
 exact W.get_value X J (W.plainGet_of hg).1 (W.findObj_own hh ha rfl (by rw [a,hv])) hv' h
theorem yoy {pl:Sem Bool} {Q:Value × List Value->Shared->Prop} (X:K.In s.heap) (I:yxx s.heap x dx C mA) (hg:W.plainGet K C name=true)
  (hf:W.findIn K (.ref C) name=some (some (.ref f))) (ht:W.isFn K (.ref f)=true) (hv:mA name=none) (h:Q (.ref f,[.ref x]) s) :
  wpAny (model prog w) A (getMethod (.ref x) name pl) Q E s:=by
 obtain ⟨a,J,b⟩:=I.look
 exact W.method_fn X J (W.plainGet_of hg).1 (W.plainGet_of hg).2 hf (beq_iff_eq.mp ht) (by show (W.lookIn name a).map (·.isSome)=some false; rw [b,hv]; rfl) h
theorem ytf {ns:List Str} {Q:Unit->Shared->Prop} (X:K.In s.heap) (I:yxx s.heap x dx C mA)
  (hs:W.findIn K (.ref C) "__setattr__"=some (some (.builtin "object.__setattr__"))) (hp:W.plainOver K C=true) (ht:W.takerIn K C name=some none) (hh:W.hasDictIn K C=true)
  (hw:PySem.Within mA ns) (hsz:ns.length <= sizeLine)
  (h:∀ h',yxx h' x dx C (fun y=>if y=name then some v else mA y)->Heap.SameBut dx s.heap h'->Q () { s with heap:=h',toks:=s.toks+2 }) :
  wpAny (model prog w) A (setAttr (.ref x) name v) Q E s:=by
 obtain ⟨n,J,q⟩:=I.look
 refine W.set_plain X J hs (W.osa_open (s:={ s with toks:=s.toks+1 }) (r:=none) X J hp ht fun b=>?_)
 obtain ⟨p,l,e⟩:=W.any_some hh
 have j:s.heap.get? x=some ⟨.ref C,some dx,.plain,#[]⟩:=I.obj
 refine wpAny_bind (wpAny_pure (wpAny_bind (wpAny_bind (wpAny_loadPart j (wpAny_bind (W.Looks.here (s:={ s with toks:=s.toks+1 }) (W.looks_clsIn X l) ?_))))))
 rw [e]
 refine wpAny_pure (a:=some dx) (wpAny_bind (wpAny_pure (wpAny_bind ?_)))
 refine wpAny_nsSet1 (s:={ s with toks:=s.toks+1 }) I.ns fun h' c d=>?_
 obtain ⟨o,m,k,i,g,f⟩:=c.count (PySem.Within.cons name v hw)
 refine wpAny_bind (wpAny_lookBehind i (by rw [g]; exact pastItsLine_dict (Nat.le_trans f (by rw [List.length_cons]; omega))) ?_)
 exact wpAny_pure (h _ ⟨(d.2 _ (Ne.symm I.ne)).trans I.obj,c,I.ne⟩ d)
theorem yio {R:Result->Shared->Prop} {vs:List Value} {kw:List (Str × Value)} (X:K.In s.heap) (hm:W.makesIn K C=true)
  (hi:W.findIn K (.ref C) "__init__"=some (some (.ref f))) (hf:W.typeIn K (.ref f)=some (.type "function"))
  (h:codeAny (model prog w) (A.under (.builtin "type.__call__" ⟨.ref C :: vs,kw⟩)) (.call (.ref f) ⟨.ref (s.heap.objs.size+1) :: vs,kw⟩) (W.InitBack (s.heap.objs.size+1) R)
   { s with heap:=(s.heap.push W.emptyDict).push (W.instObj C s.heap.objs.size) }) :
  codeAny (model prog w) A (.call (.ref C) ⟨vs,kw⟩) R s:=by
 obtain ⟨b,g,d,t,c⟩:=s
 exact W.make_core (W.makes_of X hm) (W.looks_findIn X hi) (fun a=>W.bind_fn X a hf) (.inl rfl) h
end
def z9 (f:Str) (v:V):List (Str × V)->List (Str × V)
 | []=>[(f,v)]
 | (g,x) :: r=>if g=f then (g,v) :: r else (g,x) :: z9 f v r
theorem ycf (f g:Str) (v:V):∀ fs:List (Str × V),(z9 f v fs).lookup g=if g=f then some v else fs.lookup g
 | []=>by
  show List.lookup g [(f,v)]=_
  by_cases h:g=f
  ·have a:(g == f)=true:=beq_iff_eq.mpr h
   simp only [List.lookup,a,if_pos h]
  ·have a:(g == f)=false:=beq_eq_false_iff_ne.mpr h
   simp only [List.lookup,a,if_neg h]
 | (k,x) :: r=>by
  have b:=ycf f g v r
  rw [show z9 f v ((k,x) :: r)=(if k=f then (k,v) :: r else (k,x) :: z9 f v r) from rfl]
  by_cases hk:k=f
  ·rw [if_pos hk]
   by_cases h:g=k
   ·have a:(g == k)=true:=beq_iff_eq.mpr h
    simp only [List.lookup,a,if_pos (h.trans hk)]
   ·have a:(g == k)=false:=beq_eq_false_iff_ne.mpr h
    simp only [List.lookup,a,if_neg (fun e:g=f=>h (e.trans hk.symm))]
  ·rw [if_neg hk]
   by_cases h:g=k
   ·have a:(g == k)=true:=beq_iff_eq.mpr h
    simp only [List.lookup,a,if_neg (fun e:g=f=>hk (h.symm.trans e))]
   ·have a:(g == k)=false:=beq_eq_false_iff_ne.mpr h
    simp only [List.lookup,a]
    exact b
theorem ycm (f:Str) (v:V):∀ fs:List (Str × V),f∈(z9 f v fs).map (·.1)/\∀ g,g∈fs.map (·.1)->g∈(z9 f v fs).map (·.1)
 | []=>⟨by simp [z9],fun g h=>by simp at h⟩
 | (k,x) :: r=>by
  obtain ⟨b,a⟩:=ycm f v r
  rw [show z9 f v ((k,x) :: r)=(if k=f then (k,v) :: r else (k,x) :: z9 f v r) from rfl]
  by_cases hk:k=f
  ·rw [if_pos hk]
   subst hk
   exact ⟨by simp,fun g h=>by simpa using h⟩
  ·rw [if_neg hk]
   refine ⟨?_,fun g h=>?_⟩
   ·rw [List.map_cons]
    exact List.mem_cons_of_mem _ b
   ·rw [List.map_cons] at h ⊢
    rcases List.mem_cons.mp h with e | e
    ·exact List.mem_cons.mpr (.inl e)
    ·exact List.mem_cons_of_mem _ (a g e)
theorem ych (f:Str) (v:V):∀ fs:List (Str × V),(z9 f v fs).length <= fs.length+1
 | []=>by simp [z9]
 | (k,x) :: r=>by
  have a:=ych f v r
  rw [show z9 f v ((k,x) :: r)=(if k=f then (k,v) :: r else (k,x) :: z9 f v r) from rfl]
  by_cases hk:k=f
  ·rw [if_pos hk,List.length_cons,List.length_cons]; omega
  ·rw [if_neg hk,List.length_cons,List.length_cons]; omega
theorem ygq.some_of {v:V} {o:Option Value} (r:ygq (some v) o):∃ u,o=some u/\xl v u:=by
 cases o with
 | none=>exact (show False from r).elim
 | some u=>exact ⟨u,rfl,r⟩
theorem ygq.none_of {o:Option Value} (r:ygq none o):o=none:=by
 cases o with
 | none=>rfl
 | some u=>exact (show False from r).elim
theorem yml {v:V} {u:Value} (r:xl v u):W.handedIn u=true:=by
 cases v with
 | non=>cases (show u=Value.none from r); rfl
 | bl b=>cases (show u=Value.bool b from r); rfl
 | int i=>obtain ⟨t,e⟩:=(show ∃ t,u=Value.int i t from r); cases e; rfl
 | str x=>obtain ⟨t,e⟩:=(show ∃ t,u=Value.str x t from r); cases e; rfl
 | byt b=>obtain ⟨t,e⟩:=(show ∃ t,u=Value.bytes b t from r); cases e; rfl
 | flt b=>obtain ⟨t,e⟩:=(show ∃ t,u=Value.float b t from r); cases e; rfl
 | ref a=>cases (show u=Value.ref a from r); rfl
 | ty n=>cases (show u=Value.type n from r); rfl
section
variable {P:Program} {w:World} {H H':Hp} {h h':Heap} {a C dx:Addr} {fs fs':List (Str × V)}
theorem ye1 (hok:HOk P w H h) (e:H a=some (.ins C dx fs)):∃ mA,yxx h a dx C mA/\(∀ f,ygq (fs.lookup f) (mA f))/\PySem.Within mA (fs.map (·.1))/\fs.length <= 1000/\H dx=some (.own a):=by
 obtain ⟨d,z,b,c,mA,n,r,q⟩:=(show xk P w H h a (.ins C dx fs) from hok a _ e)
 exact ⟨mA,⟨c,n,b⟩,r,q,z,d⟩
end
structure Cls (K:W.Frag) (C:Addr):Prop where
 pg:W.plainGet K C Str.empty=true
 hd:W.hasDictIn K C=true
 po:W.plainOver K C=true
 sa:W.findIn K (.ref C) "__setattr__"=some (some (.builtin "object.__setattr__"))
theorem Cls.get {K:W.Frag} {C:Addr} (c:Cls K C) (f:Str):W.plainGet K C f=true:=c.pg
def vi (K:W.Frag) (C:Addr) (f:Str):Prop:=W.findIn K (.ref C) f=some none
theorem vi.taker {K:W.Frag} {C:Addr} {f:Str} (n:vi K C f):W.takerIn K C f=some none:=by
 unfold W.takerIn
 rw [show W.findIn K (.ref C) f=some none from n]
 rfl
structure Con (K:W.Frag) (C:Addr) (f:Str) (v:V) (u:Value):Prop where
 at_:W.findIn K (.ref C) f=some (some u)
 rel:xl v u
 get:W.specialIn K u "__get__"=some none
 cp:W.copiedNames.contains f=false
structure yxw (K:W.Frag) (C:Addr) (m:Str) (f:Addr):Prop where
 at_:W.findIn K (.ref C) m=some (some (.ref f))
 fn:W.isFn K (.ref f)=true
 kp:W.keepIn K (.ref f)=true
section
variable {X:Cx} {pins:List (Addr × Obj)} {σ:St} {H:Hp} {s:Shared} {a C dx:Addr} {fs:List (Str × V)} {f:Str} {v:V} {A:Around} {E:Value->Shared->Prop}
theorem ykf {b:Bool} {Q:Value->Shared->Prop} (I:Inv X pins σ H s) (e:H a=some (.ins C dx fs)) (c:Cls X.K C) (n:vi X.K C f) (l:fs.lookup f=some v)
  (h:∀ u s',Inv X pins σ H s'->xl v u->Q u s'):wpAny (model X.prog X.w) A (getAttr (.ref a) f b) Q E s:=by
 obtain ⟨g,O,r,_,_,_⟩:=ye1 I.hok e
 obtain ⟨u,i,d⟩:=ygq.some_of (v:=v) (o:=g f) (by rw [<- l]; exact r f)
 exact yu7 I.kIn O (c.get f) c.hd n i (yml d) (h u _ (I.tok _) d)
theorem yax {m:Str} {g:Addr} {pl:Sem Bool} {Q:Value × List Value->Shared->Prop} (I:Inv X pins σ H s) (e:H a=some (.ins C dx fs)) (c:Cls X.K C) (k:yxw X.K C m g) (l:fs.lookup m=none)
  (h:Q (.ref g,[.ref a]) s):wpAny (model X.prog X.w) A (getMethod (.ref a) m pl) Q E s:=by
 obtain ⟨b,O,r,_,_,_⟩:=ye1 I.hok e
 have d:b m=none:=ygq.none_of (by rw [<- l]; exact r m)
 exact yoy I.kIn O (c.get m) k.at_ k.fn d h
theorem yj8 {y:V} {u:Value} {Q:Unit->Shared->Prop} (I:Inv X pins σ H s) (e:H a=some (.ins C dx fs)) (c:Cls X.K C) (n:vi X.K C f) (hl:fs.length < 1000) (ry:xl y u)
  (h:∀ s',Inv X pins σ (upd H a (.ins C dx (z9 f y fs))) s'->Q () s'):wpAny (model X.prog X.w) A (setAttr (.ref a) f u) Q E s:=by
 obtain ⟨i,O,r,k,_,j⟩:=ye1 I.hok e
 have l:(fs.map (·.1)).length <= sizeLine:=by rw [List.length_map,sizeLine_eq]; omega
 refine ytf I.kIn O c.sa c.po n.taker c.hd k l fun B d t=>h _ ?_
 have v:∃ o,B.get? dx=some o:=let ⟨o,_,_,e',_⟩:=d.ns; ⟨o,e'⟩
 refine I.write (x:=a) (e:=dx) (by rw [e]; exact True.intro) (.inr j) (fun b q m z=>(t.2 b m).trans z) v ?_
 refine ⟨by rw [ym O.ne]; exact j,?_,O.ne,d.obj,_,d.ns,fun g=>?_,fun g p=>?_⟩
 ·have:=ych f y fs; omega
 ·show ygq ((z9 f y fs).lookup g) (if g=f then some u else i g)
  rw [ycf]
  by_cases q:g=f
  ·rw [if_pos q,if_pos q]; exact ry
  ·rw [if_neg q,if_neg q]; exact r g
 ·by_cases q:g=f
  ·rw [q]; exact (ycm f y fs).1
  ·refine (ycm f y fs).2 g (k g fun z=>p ?_)
   show (if g=f then some u else i g)=none
   rw [if_neg q]; exact z
theorem Inv.made (I:Inv X pins σ H s):Inv X pins σ (upd (upd H s.heap.objs.size (.own (s.heap.objs.size+1))) (s.heap.objs.size+1) (.ins C s.heap.objs.size []))
  { s with heap:=(s.heap.push W.emptyDict).push (W.instObj C s.heap.objs.size) }:=by
 have c:(s.heap.push W.emptyDict).get? s.heap.objs.size=some W.emptyDict:=Heap.get?_push_size s.heap rfl
 have i:((s.heap.push W.emptyDict).push (W.instObj C s.heap.objs.size)).get? (s.heap.objs.size+1)=some (W.instObj C s.heap.objs.size):=by
  have:=Heap.get?_push_size (s.heap.push W.emptyDict) (o:=W.instObj C s.heap.objs.size) rfl
  rwa [Heap.size_push] at this
 have f:(s.heap.push W.emptyDict).Ns s.heap.objs.size (fun _=>none):=⟨W.emptyDict,#[],_,c,rfl,(fun e h=>absurd h (by simp)),fun _=>rfl⟩
 have j:=I.laid (a:=s.heap.objs.size) (o:=.own (s.heap.objs.size+1)) (h':=s.heap.push W.emptyDict) (t':=s.toks) (fun b u q=>Heap.get?_push_of_some _ q) (Nat.le_refl _) ⟨_,c⟩
 refine j.laid (a:=s.heap.objs.size+1) (o:=.ins C s.heap.objs.size []) (t':=s.toks) (fun b u q=>Heap.get?_push_of_some _ q) (Nat.le_of_eq (Heap.size_push _ _)) ?_
 have d:s.heap.objs.size≠s.heap.objs.size+1:=Nat.ne_of_lt (Nat.lt_succ_self _)
 refine ⟨by rw [ym d,ya],Nat.zero_le _,d,i,fun _=>none,(Heap.Ns1.of_empty f).at fun o q=>Heap.get?_push_of_some _ q,fun _=>True.intro,fun y g=>absurd rfl g⟩
theorem yud {prog:Program} {w:World} {env:Env} {e:Expr} {f:Str} {pos:Pos} {s:Shared} {Q:Value->Shared->Prop} (hb:attributeBase e f env (eval e env)=eval e env)
  (h:wpAny (model prog w) A (eval e env) (fun o s₁=>wpAny (model prog w) A (getAttr o f true) Q E s₁) E s):wpAny (model prog w) A (eval (.Attribute e f pos) env) Q E s :=
 Attribute_any_ h (by rw [arm_eval_Attribute,hb])
end
def vfi (K:W.Frag) (ta:TE) (f:Str):TE:=fun σ H Q=>ta σ H fun x H1=>∃ a C dx fs v,x=.ref a/\H1 a=some (.ins C dx fs)/\Cls K C/\vi K C f/\fs.lookup f=some v/\Q v H1
def vge (K:W.Frag) (ta tv:TE) (f:Str):TS:=fun D σ H=>tv σ H fun y H1=>ta σ H1 fun x H2=>∃ a C dx fs,x=.ref a/\H2 a=some (.ins C dx fs)/\Cls K C/\vi K C f/\fs.length < 1000 /\
 D.nx σ (upd H2 a (.ins C dx (z9 f y fs)))
section
variable {X:Cx} {o e value:Expr} {f:Str} {pos pos' tpos:Pos} {ta tv:TE}
theorem yq (he:PE X e ta) (hb:attributeBase e f X.env (eval e X.env)=eval e X.env):PE X (.Attribute e f pos) (vfi X.K ta f):=by
 intro b s σ H Q I h
 refine yud hb (thn (he b s σ H _ I h) fun u y h'=>?_)
 obtain ⟨x,g,o,j,a,C,t,p,v,i,k,c,n,l,q⟩:=h'
 subst i
 obtain rfl:u=Value.ref a:=j
 exact ykf o k c n l fun w r d m=>⟨v,g,d,m,q⟩
theorem y9 (ha:PE X o ta) (hv:PE X value tv) (hs:swapsWith value (some (.Attribute o f pos')) pos.line X.env=pure false):PS X (.Assign [.Attribute o f pos'] value pos) (vge X.K ta tv f):=by
 intro b s σ H D I h
 refine plainObj_wpAny_Assign_Attribute (thn (hv b s σ H _ I h) fun u m ⟨y,e,v,g,q⟩=>thn (ha b m σ e _ v q) fun t B h'=>?_) hs
 obtain ⟨x,w,d,p,a,C,A,z,k,r,c,n,l,j⟩:=h'
 subst k
 obtain rfl:t=Value.ref a:=p
 exact yj8 d r c n l g fun E i=>⟨σ,_,i,j⟩
end
section
variable {X:Cx} {pins:List (Addr × Obj)} {σ:St} {H:Hp} {s:Shared} {A:Around} {E:Value->Shared->Prop} {Q:Value->Shared->Prop} {c:Value} {b:Bool}
inductive xz (K:W.Frag) (H:Hp):V->Value->Prop where
 | non:xz K H .non (.type "NoneType")
 | bl (x:Bool):xz K H (.bl x) (.type "bool")
 | int (i:Int):xz K H (.int i) (.type "int")
 | str (x:Str):xz K H (.str x) (.type "str")
 | flt (x:UInt64):xz K H (.flt x) (.type "float")
 | lst {a:Addr} {xs:List V} (e:H a=some (.lst xs)):xz K H (.ref a) (.type "list")
 | frz {a:Addr} {o:Obj} {xs:List V} (e:H a=some (.frz o (.lst xs))):xz K H (.ref a) (.type "list")
 | tup {a:Addr} {xs:List V} (e:H a=some (.tup xs)):xz K H (.ref a) (.type "tuple")
 | dK {a:Addr} {kvs:List (Key × V)} (e:H a=some (.dK kvs)):xz K H (.ref a) (.type "dict")
 | dT {a:Addr} {kvs:List (List Key × V)} (e:H a=some (.dT kvs)):xz K H (.ref a) (.type "dict")
 | ins {a C dx:Addr} {fs:List (Str × V)} (e:H a=some (.ins C dx fs)) (cl:Cls K C) (ha:W.findIn K (.ref C) "__class__"=some (some (.builtin "object.__class__")))
   (hn:W.specialIn K (.builtin "object.__class__") "__get__"=some (some (.builtin "getset_descriptor.__get__"))) (htk:W.takesIn K (.builtin "object.__class__")=some true)
   (hm:W.mroIn K C (.type "object")=some true):xz K H (.ref a) (.ref C)
theorem ylk {x:V} {u t:Value} (I:Inv X pins σ H s) (rx:xl x u) (ty:xz X.K H x t) (e:W.kitOne X.K t c=some b) (h:∀ tk,Q (.bool b) { s with toks:=tk }) :
  wpAny (model X.prog X.w) A (call (.builtin "isinstance") [u,c]) Q E s:=by
 cases ty with
 | non=>cases (show u=Value.none from rx); exact W.kia_one W.kitx_none I.kIn True.intro e (fun z=>nomatch z) h
 | bl y=>cases (show u=Value.bool y from rx); exact W.kia_one W.kitx_bool I.kIn True.intro e (fun z=>nomatch z) h
 | int i=>obtain ⟨t,q⟩:=(show ∃ t,u=Value.int i t from rx); cases q; exact W.kia_one W.kitx_int I.kIn True.intro e (fun z=>nomatch z) h
 | str y=>obtain ⟨t,q⟩:=(show ∃ t,u=Value.str y t from rx); cases q; exact W.kia_one W.kitx_str I.kIn True.intro e (fun z=>nomatch z) h
 | flt y=>obtain ⟨t,q⟩:=(show ∃ t,u=Value.float y t from rx); cases q; exact W.kia_one W.kitx_float I.kIn True.intro e (fun z=>nomatch z) h
 | @lst a xs ea =>
  cases (show u=Value.ref a from rx)
  obtain ⟨_,_,n,_,d⟩:=(show xk X.prog X.w H s.heap a (.lst xs) from I.hok a _ ea)
  exact W.kia_one W.kitx_list I.kIn ⟨_,d,rfl⟩ e (fun z=>nomatch z) h
 | @frz a ob xs ea =>
  cases (show u=Value.ref a from rx)
  obtain ⟨_,_,_,n,_,d⟩:=(show xk X.prog X.w H s.heap a (.frz ob (.lst xs)) from I.hok a _ ea)
  exact W.kia_one W.kitx_list I.kIn ⟨_,d,rfl⟩ e (fun z=>nomatch z) h
 | @tup a xs ea =>
  cases (show u=Value.ref a from rx)
  obtain ⟨_,_,_,p⟩:=(show xk X.prog X.w H s.heap a (.tup xs) from I.hok a _ ea)
  obtain ⟨o,d,f,_⟩:=p
  exact W.kia_one W.kitx_tuple I.kIn ⟨o,d,f⟩ e (fun z=>nomatch z) h
 | @dK a kvs ea =>
  cases (show u=Value.ref a from rx)
  obtain ⟨_,_,m,_,p⟩:=(show xk X.prog X.w H s.heap a (.dK kvs) from I.hok a _ ea)
  obtain ⟨o,g,j,d,f,_⟩:=p
  exact W.kia_one W.kitx_dict I.kIn ⟨o,d,f.1⟩ e (fun z=>nomatch z) h
 | @dT a kvs ea =>
  cases (show u=Value.ref a from rx)
  obtain ⟨_,_,xs,_,o,g,j,d,f,_⟩:=(show xk X.prog X.w H s.heap a (.dT kvs) from I.hok a _ ea)
  exact W.kia_one W.kitx_dict I.kIn ⟨o,d,f.1⟩ e (fun z=>nomatch z) h
 | @ins a C dx fs ea cl ha hn htk hm =>
  cases (show u=Value.ref a from rx)
  obtain ⟨k,O,_⟩:=ye1 I.hok ea
  obtain ⟨l,J,_⟩:=O.look
  exact W.kia_one (W.kitx_own (cl.get _) cl.hd ha hn htk hm) I.kIn J e (fun z=>nomatch z) h
end
end L2
namespace L2
open PySem PySem.Spec PyProof.Rows
structure jb (k:Nat) (A:Around):Prop where
 hd:A.handled=none
 dp:A.depth+3 * k+5 < recursionLimit
 un:A.units+16 * k+200 < cLine
theorem jb.mono {j k:Nat} {A:Around} (r:jb k A) (h:j <= k):jb j A:=⟨r.hd,by have:=r.dp; omega,by have:=r.un; omega⟩
theorem jb.deeper {k:Nat} {A:Around} (r:jb (k+1) A) (env:Env):jb k (A.deeper env) :=
 ⟨r.hd,by have:=r.dp; show A.depth+1+3 * k+5 < _; omega,by have:=r.un; show A.units+3+16 * k+200 < _; omega⟩
theorem yj7 {A:Around} {C:Addr} {us:List Value} {kw:List (Str × Value)}:(A.under (.builtin "type.__call__" ⟨.ref C :: us,kw⟩)).depth=A.depth+1:=by
 first | rfl | simp [Around.under,Code.weight,Code.isCreation,Code.isGuard,Code.isCaller,Code.frames,Code.isFrame,guardIds]
theorem yko {A:Around} {C:Addr} {us:List Value} {kw:List (Str × Value)}:(A.under (.builtin "type.__call__" ⟨.ref C :: us,kw⟩)).units=A.units+1:=by
 first | rfl | simp [Around.under,Code.cUnits,Code.frames,Code.isFrame]
theorem jb.make {k:Nat} {A:Around} (r:jb (k+1) A) (C:Addr) (us:List Value) (kw:List (Str × Value)):jb k (A.under (.builtin "type.__call__" ⟨.ref C :: us,kw⟩)) :=
 ⟨r.hd,by have:=r.dp; rw [yj7]; omega,by have:=r.un; rw [yko]; omega⟩
theorem jb.depth {k:Nat} {A:Around} (r:jb k A):A.depth < recursionLimit:=by have:=r.dp; omega
theorem jb.units {k:Nat} {A:Around} (r:jb k A):A.units+64 < cLine:=by have:=r.un; omega
def yx0:TA:=fun _ H Q=>Q [] H
def vdq (ta:TE) (tr:TA):TA:=fun σ H Q=>ta σ H fun x H1=>tr σ H1 fun xs H2=>Q (x :: xs) H2
section
variable {X:Cx} {e:Expr} {es:List Expr} {te:TE} {t:TA} {pos:Pos}
theorem ye:PA X [] yx0:=fun _ _ _ _ H Q I h=>Calls.spliced_nil ⟨[],H,I,.nil,h⟩
theorem yb (ha:PE X e te) (hr:PA X es t) (hs:starEach (e :: es) X.env=(false,eval e X.env) :: starEach es X.env:=by rfl):PA X (e :: es) (vdq te t):=by
 intro b a s σ H Q I h
 rw [hs]
 show wpAny _ _ (spliced ((false,eval e X.env) :: backTo b (starEach es X.env))) _ _ s
 refine Calls.spliced_cons (thn (ha a s σ H _ I h) fun u k h'=>?_)
 obtain ⟨x,g,n,c,m⟩:=h'
 exact thn (hr b a k σ g _ n m) fun p o ⟨l,d,f,i,j⟩=>⟨x :: l,d,f,.cons c i,j⟩
def vgh (t:TA):TE:=fun σ H Q=>t σ H fun xs H1=>xs.length <= sizeLine/\∀ p,H1 p=none->Q (.ref p) (upd H1 p (.tup xs))
def vgd (t:TA):TE:=fun σ H Q=>t σ H fun xs H1=>xs.length <= sizeLine/\∀ p,H1 p=none->Q (.ref p) (upd H1 p (.lst xs))
theorem yoc {x1} (h:PA X es t):PE X (.Tuple es x1 pos) (vgh t):=by
 intro a s σ H Q I i
 refine wpAny_Tuple_spliced (thn (h pos a s σ H _ I i) fun k c ⟨j,d,f,r,z,q⟩=>⟨by rw [<- r.length]; exact z,?_⟩)
 have g:d c.heap.objs.size=none:=f.hok.fresh (Nat.le_refl _)
 refine ⟨.ref c.heap.objs.size,upd d c.heap.objs.size (.tup j),f.laid (t':=c.toks) (fun b u e=>Heap.get?_push_of_some _ e) (Nat.le_refl _) ?_,rfl,q _ g⟩
 exact ⟨z,k,r,⟨_,Heap.get?_push_size _ rfl,rfl,_,rfl⟩⟩
theorem xj (h:PA X es t):PE X (.List es pos) (vgd t):=by
 intro a s σ H Q I i
 refine wpAny_List_spliced (thn (h pos a s σ H _ I i) fun k c ⟨j,d,f,r,z,q⟩=>⟨by rw [<- r.length]; exact z,?_⟩)
 have g:d c.heap.objs.size=none:=f.hok.fresh (Nat.le_refl _)
 refine ⟨.ref c.heap.objs.size,upd d c.heap.objs.size (.lst j),f.laid (t':=c.toks) (fun b u e=>Heap.get?_push_of_some _ e) (Nat.le_refl _) ?_,rfl,q _ g⟩
 exact ⟨z,k,0,r,Heap.get?_push_size _ rfl⟩
end
abbrev Sp:=List V->Hp->VK->XK->Prop
abbrev CXT:=List Env->Hp->Shared->XK->Value->Shared->Prop
structure yxy (P:Program) (w:World) (K:W.Frag) (mg:Str->Option Value) (base:Heap) (A:Around) (outer:List Env) (s:Shared) (H:Hp):Prop where
 frames:A.frames=some outer
 mod:Mod K mg base
 bs:∀ b o,base.get? b=some o->s.heap.get? b=some o/\H b=none
 bsz:base.objs.size <= s.heap.objs.size
 funs:s.heap.FunFrames base outer
 frf:∀ b∈frs outer,H b=none
 hok:HOk P w H s.heap
 bare:AllBare s.gens
def CE (outer:List Env) (P:Program) (w:World) (H:Hp) (s:Shared) (Q:VK) (u:Value) (s':Shared):Prop :=
 ∃ v H',s'.os=s.os/\AllBare s'.gens/\Un (frs outer) [] H H' s.heap s'.heap/\HOk P w H' s'.heap/\xl v u/\Q v H'
def CR (CX:CXT) (outer:List Env) (P:Program) (w:World) (H:Hp) (s:Shared) (Q:VK) (E:XK) (r:Result) (s':Shared):Prop :=
 match r with
 | .ok (.ret u)=>CE outer P w H s Q u s'
 | .ok _=>False
 | .error e=>CX outer H s E e s'
structure wc (P:Program) (w:World) (K:W.Frag) (mg:Str->Option Value) (base:Heap) (CX:CXT) (k:Nat) (f:Addr) (fd:FuncData) (ps:List Str) (sp:Sp):Prop where
 len:∀ vs H Q E,sp vs H Q E->vs.length=ps.length
 run:∀ (A:Around) (outer:List Env) (s:Shared) (H:Hp) (args:Args) (us:List Value) (vs:List V) (Q:VK) (E:XK),jb k A->yxy P w K mg base A outer s H->BindsTo s fd args (ps.zip us)->wt vs us->sp vs H Q E ->
  codeAny (model P w) A (.call (.ref f) args) (CR CX outer P w H s Q E) s
theorem yxy.make {P:Program} {w:World} {K:W.Frag} {mg:Str->Option Value} {base:Heap} {A:Around} {outer:List Env} {s:Shared} {H:Hp} (e:yxy P w K mg base A outer s H) (C:Addr) (us:List Value) (kw:List (Str × Value)) :
  yxy P w K mg base (A.under (.builtin "type.__call__" ⟨.ref C :: us,kw⟩)) outer s H:=⟨by first | exact e.frames | (simpa [Around.under,Code.envs,Code.isFrame,pushEnvs] using e.frames),e.mod,e.bs,e.bsz,e.funs,e.frf,e.hok,e.bare⟩
section
variable {X:Cx} {pins:List (Addr × Obj)} {σ:St} {H:Hp} {s s':Shared}
theorem Inv.env0 (I:Inv X pins σ H s):yxy X.prog X.w X.K X.mg X.base X.A X.stack s H :=
 ⟨I.ok.frames,I.ok.mod,I.bs,Nat.le_trans I.ok.bsz I.sz,I.stack,I.stkFree,I.hok,I.bare⟩
theorem Inv.after {Q:VK} {u:Value} (I:Inv X pins σ H s) (h:CE X.stack X.prog X.w H s Q u s'):EP X pins σ Q u s':=by
 obtain ⟨v,j,k,a,i,c,r,q⟩:=h
 obtain ⟨f,g,d,t,e⟩:=s'
 obtain rfl:e=s.os:=k
 exact ⟨v,j,I.call (h':=f) (g':=g) (d':=d) (t':=t) (ch:=[]) i c a (fun b z=>absurd z (by simp)),r,q⟩
end
def vda (sp:Sp) (dvs:List V) (E:XK) (t:TA):TE:=fun σ H Q=>t σ H fun vs H1=>sp (vs++dvs) H1 Q E
def yh7 (C:Addr) (m:Str) (sp:Sp) (dvs:List V) (E:XK) (ta:TE) (t:TA):TE:=fun σ H Q=>ta σ H fun x H1=>∃ a dx fs,x=.ref a/\H1 a=some (.ins C dx fs)/\fs.lookup m=none /\
 t σ H1 fun vs H2=>sp (x :: (vs++dvs)) H2 Q E
def yvr (C:Addr) (sp:Sp) (dvs:List V) (E:XK) (t:TA):TE:=fun σ H Q=>t σ H fun vs H1=>∀ x dx,H1 x=none->H1 dx=none->dx≠x ->
 sp (.ref x :: (vs++dvs)) (upd (upd H1 dx (.own x)) x (.ins C dx [])) (fun v H2=>v=.non/\Q (.ref x) H2) E
def ux (K:W.Frag) (fd:FuncData) (ps:List Str) (ds:List Value):Prop :=
 ∀ (s:Shared) (us:List Value),K.In s.heap->(us++ds).length=ps.length->BindsTo s fd ⟨us,[]⟩ (ps.zip (us++ds))
theorem ux.all {K:W.Frag} {fd:FuncData} {ps:List Str} (h:∀ us:List Value,us.length=ps.length->bindArgs fd ⟨us,[]⟩=pure (ps.zip us)):ux K fd ps []:=fun s us _ a=>by
 rw [List.append_nil] at a ⊢
 exact .of_eq (h us a)
def ya9 (CX:CXT) (X:Cx) (E:XK):Prop:=∀ (pins:List (Addr × Obj)) (σ:St) (H:Hp) (s:Shared) (e:Value) (s':Shared),Inv X pins σ H s->CX X.stack H s E e s'->X.xe e s'
section
variable {X:Cx} {CX:CXT} {k:Nat} {f C:Addr} {fd:FuncData} {ps:List Str} {sp:Sp} {dvs:List V} {ds:List Value} {E:XK} {x m:Str} {p pos apos:Pos} {e o:Expr} {es:List Expr} {ta:TE} {t:TA}
theorem ynp {pins:List (Addr × Obj)} {σ:St} {H:Hp} {s:Shared} {Q:VK} {us:List Value} {vs:List V} (F:wc X.prog X.w X.K X.mg X.base CX k f fd ps sp) (hr:jb k X.A) (hb:ux X.K fd ps ds) (hd:wt dvs ds) (hx:ya9 CX X E)
  (I:Inv X pins σ H s) (r:wt vs us) (h:sp (vs++dvs) H Q E):wpAny (model X.prog X.w) X.A (call (.ref f) us) (EP X pins σ Q) X.xe s:=by
 have b:wt (vs++dvs) (us++ds):=r.append hd
 have d:(us++ds).length=ps.length:=by rw [<- b.length]; exact F.len _ _ _ _ h
 refine wpAny_call (codeAny_mono (F.run X.A X.stack s H ⟨us,[]⟩ (us++ds) (vs++dvs) Q E hr I.env0 (hb s us I.kIn d) b h) fun r c a=>?_)
 cases r with
 | error e=>exact hx pins σ H s e c I a
 | ok fl =>
  cases fl with
  | ret u=>exact I.after a
  | next=>exact False.elim a
  | brk=>exact False.elim a
  | cont=>exact False.elim a
theorem vn (F:wc X.prog X.w X.K X.mg X.base CX k f fd ps sp) (hr:jb k X.A) (hg:Gl X x) (hm:X.mg x=some (.ref f)) (hk:W.keepIn X.K (.ref f)=true) (hb:ux X.K fd ps ds) (hd:wt dvs ds) (hx:ya9 CX X E)
  (ha:PA X (e :: es) t) (hdb:(x == ("__debug__":Str))=false:=by decide) (he:starEach (e :: es) X.env=(false,eval e X.env) :: starEach es X.env:=by rfl) (hpl:(backTo pos (starEach es X.env)).any (·.1)=false:=by rfl) :
  PE X (.Call (.Name x p) (e :: es) [] pos) (vda sp dvs E t):=by
 intro a s σ H Q I h
 refine wpAny_Call_Name_kw (jn I hg hm ?_ hdb)
 refine W.callWith_K (h₀:=X.base) I.ok.mod.kin hk (thn (ha pos a s σ H _ I h) fun i g ⟨d,c,b,r,q⟩=>⟨b.kIn,?_⟩) he hpl
 exact ynp F hr hb hd hx b r q
theorem xo {pl:Sem Bool} (he:PE X o ta) (c:Cls X.K C) (hm:yxw X.K C m f) (F:wc X.prog X.w X.K X.mg X.base CX k f fd ps sp) (hr:jb k X.A) (hb:ux X.K fd ps ds) (hd:wt dvs ds) (hx:ya9 CX X E) (ha:PA X (e :: es) t)
  (hst:starEach (e :: es) X.env=(false,eval e X.env) :: starEach es X.env:=by rfl) (hpl:(backTo pos (starEach es X.env)).any (·.1)=false:=by rfl)
  (ht:eval (.Call (.Attribute o m apos) (e :: es) [] pos) X.env=(do
   let ov <- eval o X.env
   standAt apos.atName
   let (f,first) <- holding [ov] (getMethod ov m pl)
   callWith pos f first (backTo pos (starEach (e :: es) X.env)) (backToKw pos (keywordEach [] X.env))):=by rfl) :
  PE X (.Call (.Attribute o m apos) (e :: es) [] pos) (yh7 C m sp dvs E ta t):=by
 intro b s σ H Q I h
 refine W.methodCall_KW (pl:=pl) (thn (he b s σ H _ I h) fun u p h'=>?_) ht
 obtain ⟨x,i,g,v,a,D,B,n,y,l,q⟩:=h'
 subst n
 obtain rfl:u=Value.ref a:=v
 refine yax g y c hm l ?_
 refine W.callWith_K (first:=[.ref a]) (h₀:=X.base) I.ok.mod.kin hm.kp (thn (ha pos b p σ i _ g q) fun us G ⟨vs,z,d,r,j⟩=>⟨d.kIn,?_⟩) hst hpl
 exact ynp (us:=.ref a :: us) (vs:=.ref a :: vs) F hr hb hd hx d (.cons rfl r) j
theorem w8 {pl:Sem Bool} (he:PE X o ta) (c:Cls X.K C) (hm:yxw X.K C m f) (F:wc X.prog X.w X.K X.mg X.base CX k f fd ps sp) (hr:jb k X.A) (hb:ux X.K fd ps ds) (hd:wt dvs ds) (hx:ya9 CX X E)
  (ht:eval (.Call (.Attribute o m apos) [] [] pos) X.env=(do
   let ov <- eval o X.env
   standAt apos.atName
   let (f,first) <- holding [ov] (getMethod ov m pl)
   callWith pos f first (backTo pos (starEach [] X.env)) (backToKw pos (keywordEach [] X.env))):=by rfl) :
  PE X (.Call (.Attribute o m apos) [] [] pos) (yh7 C m sp dvs E ta yx0):=by
 intro b s σ H Q I h
 refine W.methodCall_KW (pl:=pl) (thn (he b s σ H _ I h) fun u r h'=>?_) ht
 obtain ⟨x,j,d,g,a,p,n,e,i,l,q⟩:=h'
 subst e
 obtain rfl:u=Value.ref a:=g
 refine yax d i c hm l ?_
 exact W.callWith_K0 (first:=[.ref a]) d.kIn hm.kp (ynp (us:=[.ref a]) (vs:=[.ref a]) F hr hb hd hx d (.cons rfl .nil) q)
structure Mk (K:W.Frag) (C f:Addr):Prop where
 makes:W.makesIn K C=true
 init:W.findIn K (.ref C) "__init__"=some (some (.ref f))
 fn:W.isFn K (.ref f)=true
 kp:W.keepIn K (.ref C)=true
theorem yi3 {pins:List (Addr × Obj)} {σ:St} {H:Hp} {s:Shared} {Q:VK} {us:List Value} {vs:List V} (M:Mk X.K C f) (F:wc X.prog X.w X.K X.mg X.base CX k f fd ps sp) (hr:jb (k+1) X.A) (hb:ux X.K fd ps ds) (hd:wt dvs ds)
  (hx:ya9 CX X E) (I:Inv X pins σ H s) (r:wt vs us)
  (h:∀ x dx,H x=none->H dx=none->dx≠x->sp (.ref x :: (vs++dvs)) (upd (upd H dx (.own x)) x (.ins C dx [])) (fun v H2=>v=.non/\Q (.ref x) H2) E) :
  wpAny (model X.prog X.w) X.A (call (.ref C) us) (EP X pins σ Q) X.xe s:=by
 have d:=h (s.heap.objs.size+1) s.heap.objs.size (I.hok.fresh (Nat.le_succ _)) (I.hok.fresh (Nat.le_refl _)) (Nat.ne_of_lt (Nat.lt_succ_self _))
 have b:=Inv.made (C:=C) I
 have c:wt (V.ref (s.heap.objs.size+1) :: (vs++dvs)) (Value.ref (s.heap.objs.size+1) :: (us++ds)):=.cons rfl (r.append hd)
 have o:(Value.ref (s.heap.objs.size+1) :: us++ds).length=ps.length:=by
  have e:=c.length
  rw [F.len _ _ _ _ d] at e
  exact e.symm
 refine wpAny_call (yio (f:=f) I.kIn M.makes M.init (beq_iff_eq.mp M.fn) (codeAny_mono (F.run _ X.stack _ _ ⟨Value.ref (s.heap.objs.size+1) :: us,[]⟩ (Value.ref (s.heap.objs.size+1) :: (us++ds)) _ _ E (hr.make C us [])
  (b.env0.make C us []) (hb _ (Value.ref (s.heap.objs.size+1) :: us) b.kIn o) c d) fun r l a=>?_))
 cases r with
 | error e=>exact hx pins σ _ _ e l b a
 | ok fl =>
  cases fl with
  | ret u =>
   obtain ⟨v,j,g,n,i,m⟩:=b.after a
   subst i
   exact ⟨n,⟨V.ref (s.heap.objs.size+1),j,g,rfl,m⟩⟩
  | next=>exact False.elim a
  | brk=>exact False.elim a
  | cont=>exact False.elim a
theorem yh0 (M:Mk X.K C f) (F:wc X.prog X.w X.K X.mg X.base CX k f fd ps sp) (hr:jb (k+1) X.A) (hg:Gl X x) (hm:X.mg x=some (.ref C)) (hb:ux X.K fd ps ds) (hd:wt dvs ds) (hx:ya9 CX X E)
  (ha:PA X (e :: es) t) (hdb:(x == ("__debug__":Str))=false:=by decide) (he:starEach (e :: es) X.env=(false,eval e X.env) :: starEach es X.env:=by rfl) (hpl:(backTo pos (starEach es X.env)).any (·.1)=false:=by rfl) :
  PE X (.Call (.Name x p) (e :: es) [] pos) (yvr C sp dvs E t):=by
 intro a s σ H Q I h
 refine wpAny_Call_Name_kw (jn I hg hm ?_ hdb)
 refine W.callWith_K (h₀:=X.base) I.ok.mod.kin M.kp (thn (ha pos a s σ H _ I h) fun i g ⟨d,c,b,r,q⟩=>⟨b.kIn,?_⟩) he hpl
 exact yi3 M F hr hb hd hx b r q
theorem yaf (M:Mk X.K C f) (F:wc X.prog X.w X.K X.mg X.base CX k f fd ps sp) (hr:jb (k+1) X.A) (hg:Gl X x) (hm:X.mg x=some (.ref C)) (hb:ux X.K fd ps ds) (hd:wt dvs ds) (hx:ya9 CX X E)
  (hdb:(x == ("__debug__":Str))=false:=by decide):PE X (.Call (.Name x p) [] [] pos) (yvr C sp dvs E yx0):=by
 intro a s σ H Q I h
 refine wpAny_Call_Name_kw (jn I hg hm ?_ hdb)
 exact W.callWith_K0 I.kIn M.kp (yi3 (us:=[]) M F hr hb hd hx I .nil h)
end
section
variable {X:Cx} {CX:CXT} {k:Nat} {f C:Addr} {fd:FuncData} {ps ks:List Str} {sp:Sp} {E:XK} {x m:Str} {p pos apos kpos:Pos} {e o:Expr} {es:List Expr} {kws:List Keyword} {te ta:TE} {t tk:TA} {nm:Option Str}
structure vf3 (K:W.Frag) (fd:FuncData) (ps ks:List Str) (g:List Value->List Value->List Value) (gV:List V->List V->List V):Prop where
 to:∀ (s:Shared) (us ws:List Value),K.In s.heap->(g us ws).length=ps.length->BindsTo s fd ⟨us,ks.zip ws⟩ (ps.zip (g us ws))
 rel:∀ {vs:List V} {us:List Value} {zs:List V} {ws:List Value},wt vs us->wt zs ws->wt (gV vs zs) (g us ws)
variable {g:List Value->List Value->List Value} {gV:List V->List V->List V}
end
structure yk (N P:List Str) (sc:Scope):Prop where
 kind:sc.kind=.function
 co:sc.isCoroutine=false
 gen:sc.isGenerator=false
 nd:N.Nodup
 pre:N.take P.length=P
 par:∀ x∈P,sc.names.lookup x=some .local\/sc.names.lookup x=some .cell
 nofree:∀ y∈sc.names,y.2≠.free
theorem yf5 {kindOf:Str->Option NameKind} {x:Str}:∀ {binds:List (Str × Value)} {m:Str->Option Value},(∀ v,(x,v)∉binds)->bindL kindOf binds m x=m x
 | [],_,_=>rfl
 | (n,v) :: r,m,h=>by
  unfold bindL
  rw [yf5 fun w a=>h w (List.mem_cons_of_mem _ a)]
  split
  ·have:x≠n:=by rintro rfl; exact h v List.mem_cons_self
   simp [this]
  ·rfl
theorem ygd {kindOf:Str->Option NameKind} {x:Str}:∀ {binds:List (Str × Value)} {m:Str->Option Value},(∀ v,(x,v)∉binds)->bindC kindOf binds m x=m x
 | [],_,_=>rfl
 | (n,v) :: r,m,h=>by
  unfold bindC
  rw [ygd fun w a=>h w (List.mem_cons_of_mem _ a)]
  split
  ·rfl
  ·have:x≠n:=by rintro rfl; exact h v List.mem_cons_self
   simp [this]
theorem yf6 {kindOf:Str->Option NameKind} {x:Str} {v:Value}:∀ {P:List Str} {vs:List Value} {i:Nat} {m:Str->Option Value},P.Nodup->P[i]?=some x->vs[i]?=some v->kindOf x=some .local ->
  bindL kindOf (P.zip vs) m x=some v
 | [],_,_,_,_,h,_,_=>by simp at h
 | _ :: _,[],_,_,_,_,h,_=>by simp at h
 | p :: P,w :: vs,0,m,nd,h1,h2,hk=>by
  simp at h1 h2; subst h1; subst h2
  show bindL kindOf ((p,w) :: P.zip vs) m p=_
  unfold bindL
  rw [yf5 fun v a=>(List.nodup_cons.mp nd).1 (List.of_mem_zip a).1,if_pos hk]
  simp
 | p :: P,w :: vs,i+1,m,nd,h1,h2,hk=>by
  show bindL kindOf ((p,w) :: P.zip vs) m x=_
  unfold bindL
  exact yf6 (i:=i) (List.nodup_cons.mp nd).2 (by simpa using h1) (by simpa using h2) hk
theorem yga {kindOf:Str->Option NameKind} {x:Str} {v:Value}:∀ {P:List Str} {vs:List Value} {i:Nat} {m:Str->Option Value},P.Nodup->P[i]?=some x->vs[i]?=some v->kindOf x≠some .local ->
  bindC kindOf (P.zip vs) m x=some v
 | [],_,_,_,_,h,_,_=>by simp at h
 | _ :: _,[],_,_,_,_,h,_=>by simp at h
 | p :: P,w :: vs,0,m,nd,h1,h2,hk=>by
  simp at h1 h2; subst h1; subst h2
  show bindC kindOf ((p,w) :: P.zip vs) m p=_
  unfold bindC
  rw [ygd fun v a=>(List.nodup_cons.mp nd).1 (List.of_mem_zip a).1,if_neg hk]
  simp
 | p :: P,w :: vs,i+1,m,nd,h1,h2,hk=>by
  show bindC kindOf ((p,w) :: P.zip vs) m x=_
  unfold bindC
  exact yga (i:=i) (List.nodup_cons.mp nd).2 (by simpa using h1) (by simpa using h2) hk
def ybi (N:List Str) (vs:List V):St:=vs.map some++List.replicate (N.length - vs.length) none
def vz (CX:CXT) (P:Program) (w:World) (K:W.Frag) (mg:Str->Option Value) (base:Heap) (N:List Str) (qual:Str) (scope:Scope) (f:Addr) (cd:Value) (A:Around) (outer:List Env) (s:Shared) (H:Hp) (E:XK):Cx where
 prog:=P
 w:=w
 K:=K
 mg:=mg
 base:=base
 A:=A.deeper (envOfC qual scope s.heap.objs.size f cd)
 N:=N
 s₀:=s
 H₀:=H
 env:=envOfC qual scope s.heap.objs.size f cd
 outer:=outer
 stack:=envOfC qual scope s.heap.objs.size f cd :: outer
 ex:=[]
 calm:=true
 fn:=fun _=>true
 pn:=[]
 xe:=fun e s'=>wpAny (model P w) (A.deeper (envOfC qual scope s.heap.objs.size f cd)) (leaving (envOfC qual scope s.heap.objs.size f cd) e) (fun _ s''=>CX outer H s E e s'') (fun e' s''=>CX outer H s E e' s'') s'
theorem yi2 {sc:Scope} {n:Nat} {x:Str} (h:sc.names.lookup x=some .cell):∃ c,(cellsFrom n sc.names []).lookup x=some c:=by
 have q:=W.cellsFrom_some sc.names n [] (.inl h)
 exact Option.isSome_iff_exists.mp q
theorem ylw {CX:CXT} {P:Program} {w:World} {K:W.Frag} {mg:Str->Option Value} {base:Heap} {N ps:List Str} {qual:Str} {scope:Scope} {f:Addr} {cd:Value} {A:Around} {outer:List Env} {s s1:Shared} {H:Hp} {E:XK} {us:List Value} {vs:List V}
  (S:yk N ps scope) (hd:A.handled=none) (e0:yxy P w K mg base A outer s H) (hl:vs.length=ps.length) (r:wt vs us)
  (x:InCallC s s.heap.objs.size (bindL (envOfC qual scope s.heap.objs.size f cd).kindOf (ps.zip us) fun _=>none) (cellsFrom (s.heap.objs.size+1) scope.names []) (bindC (envOfC qual scope s.heap.objs.size f cd).kindOf (ps.zip us) fun _=>none) s1) :
  Inv (vz CX P w K mg base N qual scope f cd A outer s H E) [] (ybi N vs) H s1:=by
 have D:ps.length <= N.length:=by have:=congrArg List.length S.pre; rw [List.length_take] at this; omega
 obtain ⟨o,I,rfl,B⟩:=x.done
 have g:∀ b:Addr,b∉(vz CX P w K mg base N qual scope f cd A outer s H E).ex:=fun b z=>absurd (show b∈([]:List Addr) from z) (by simp)
 refine ⟨⟨e0.mod,S.kind,rfl,rfl,Nat.le_refl _,fun y z c o d=>?_,fun y j=>?_,fun y c _ h=>?_,fun _=>hd,Around.frames_deeper e0.frames,.inr ⟨rfl,rfl⟩,fun b z=>absurd z (g b),e0.bs,e0.bsz,fun b _ _=>g b,fun b z=>absurd z (g b),e0.funs,e0.frf⟩,
  rfl,e0.bare,Un.kept B,⟨_,x.toInCall.ns,fun i y v o d J=>?_⟩,fun y c h=>⟨_,x.cell y c h⟩,e0.hok.fresh (Nat.le_refl _),fun y c h=>?_,fun p m=>absurd (show p∈([]:List (Addr × Obj)) from m) (by simp),e0.hok.kept B,?_⟩
 ·exact name_of_addr x.apart (PySem.mem_of_lookup o) (PySem.mem_of_lookup d)
 ·have j:scope.names.lookup y=some .cell\/scope.names.lookup y=some .free:=j
  rcases j with j | j
  ·exact yi2 j
  ·exact absurd rfl (S.nofree _ (PySem.mem_of_lookup j))
 ·exact Nat.le_of_lt (x.above y c (PySem.mem_of_lookup h))
 ·have t:i < vs.length:=by
   unfold ybi at d
   by_cases t:i < vs.length
   ·exact t
   ·rw [List.getElem?_append_right (by simpa using t)] at d
    rw [List.getElem?_replicate] at d
    split at d <;> cases d
  have F:vs[i]?=some v:=by
   unfold ybi at d
   rw [List.getElem?_append_left (by simpa using t),List.getElem?_map] at d
   cases e:vs[i]? with
   | none=>rw [e] at d; cases d
   | some a=>rw [e] at d; cases d; rfl
  obtain ⟨u,C,G⟩:=r.get F
  have m:ps[i]?=some y:=by
   rw [<- S.pre,List.getElem?_take_of_lt (by omega)]; exact o
  have l:ps.Nodup:=by rw [<- S.pre]; exact S.nd.sublist (List.take_sublist _ _)
  refine ⟨u,G,?_⟩
  rcases S.par y (List.mem_of_getElem? m) with k | k
  ·exact .inl ⟨k,yf6 l m C k⟩
  ·obtain ⟨c,e⟩:=yi2 (n:=s.heap.objs.size+1) k
   refine .inr ⟨.inl k,c,e,?_⟩
   have q:=x.cell y c e
   rw [yga l m C (by show scope.names.lookup y≠_; rw [k]; decide)] at q
   exact q
 ·exact e0.hok.fresh (Nat.le_of_lt (x.above y c (PySem.mem_of_lookup h)))
 ·unfold ybi
  show _=N.length
  rw [List.length_append,List.length_map,List.length_replicate]
  omega
theorem yw3 {CX:CXT} {P:Program} {w:World} {K:W.Frag} {mg:Str->Option Value} {base:Heap} {k:Nat} {f:Addr} {name qual:Str} {params:Arguments} {body:List Stmt} {scope:Scope} {dV kV doc pm cdv ct oc:Value} {an od:Option Addr}
  {osl:Array (Option Value)} {N ps:List Str} {sp:Sp} (lk:K.lookup f=some ⟨oc,od,.func (W.fnOf name qual params body scope dV kV doc pm an cdv ct),osl⟩) (hcd:W.codeIn K cdv qual=true) (S:yk N ps scope)
  (len:∀ vs H Q E,sp vs H Q E->vs.length=ps.length)
  (hbody:∀ (A:Around) (outer:List Env) (s:Shared) (H:Hp) (vs:List V) (Q:VK) (E:XK),jb k (A.deeper (envOfC qual scope s.heap.objs.size f cdv))->sp vs H Q E ->
   ∃ t,PSs (vz CX P w K mg base N qual scope f cdv A outer s H E) body t/\t { nx:=fun _ H'=>Q .non H',rt:=Q } (ybi N vs) H) :
  wc P w K mg base CX (k+1) f (W.fnOf name qual params body scope dV kV doc pm an cdv ct) ps sp:=by
 refine ⟨len,fun A outer s H p L vs Q E l d M r h=>?_⟩
 have D:=len _ _ _ _ h
 have z:K.In s.heap:=d.mod.kin.keeps fun b o e=>(d.bs b o e).1
 have m:s.heap.NoLimit:=d.mod.nolimit.keeps fun b o e=>(d.bs b o e).1
 have a:∀ y∈ps.zip L,scope.names.lookup y.1=some .local\/(scope.names.lookup y.1=some .cell/\((cellsFrom (s.heap.objs.size+1) scope.names []).lookup y.1).isSome=true):=fun ⟨n,v⟩ R=>by
  rcases S.par n (List.of_mem_zip R).1 with q | q
  ·exact .inl q
  ·exact .inr ⟨q,W.cellsFrom_some _ _ _ (.inl q)⟩
 refine codeAny_call_function l.depth (z _ _ lk) rfl S.co S.gen rfl (W.codeRec_of z hcd) (M _ _ _ _ ?_)
 refine wpAny_newFunctionEnv_cells S.kind a fun O C B x=>?_
 subst C
 refine ⟨m.keeps x.toInCall.keep,codeAny_func ?_⟩
 obtain ⟨t,T,G⟩:=hbody A outer s H vs Q E (l.deeper _) h
 have I:Inv (vz CX P w K mg base N qual scope f cdv A outer s H E) [] (ybi N vs) H B:=ylw S l.hd d D r x
 refine wpAny_mono (T [] B (ybi N vs) H _ I G) (fun F i c=>?_) fun e i c=>c
 have g:∀ {σ':St} {H':Hp} {v:V} {u:Value},Inv (vz CX P w K mg base N qual scope f cdv A outer s H E) [] σ' H' i->xl v u->Q v H'->CE outer P w H s Q u i :=
  fun {σ' H' v u} J j q=>⟨v,H',J.os,J.bare,J.base,J.hok,j,q⟩
 cases F with
 | ret u =>
  obtain ⟨v,σ',H',J,j,q⟩:=c
  exact g J j q
 | next =>
  obtain ⟨σ',H',J,q⟩:=c
  exact g (v:=V.non) (u:=Value.none) J rfl q
 | brk =>
  obtain ⟨_,_,_,q⟩:=c
  exact False.elim q
 | cont =>
  obtain ⟨_,_,_,q⟩:=c
  exact False.elim q
end L2
namespace L2
open PySem PySem.Spec PyProof.Rows
section
variable {X:Cx} {x:Str} {p pos:Pos} {e:Expr} {es:List Expr} {t:TA} {id T:String} {r:List V->Hp->VK->Prop}
def tCB (r:List V->Hp->VK->Prop) (t:TA):TE:=fun σ H Q=>t σ H fun vs H1=>r vs H1 Q
theorem yt (hc:yak X (.builtin id) r) (hg:Gl X x) (hm:X.mg x=none) (hv:bootBuiltins x=some (.builtin id)) (ha:PA X (e :: es) t) (hn:x≠"__name__":=by decide) (hdb:(x == ("__debug__":Str))=false:=by decide)
  (he:starEach (e :: es) X.env=(false,eval e X.env) :: starEach es X.env:=by rfl) (hpl:(backTo pos (starEach es X.env)).any (·.1)=false:=by rfl):PE X (.Call (.Name x p) (e :: es) [] pos) (tCB r t):=by
 intro a s σ H Q I h
 refine wpAny_Call_Name_kw (ycr I hg hm hv ?_ hn hdb)
 exact PyProof.Rows.callWith_builtin1 (thn (ha pos a s σ H _ I h) fun i f ⟨d,c,j,b,g⟩=>hc a f σ c d i Q j b g) he hpl
theorem xt (hc:yak X (.type T) r) (hg:Gl X x) (hm:X.mg x=none) (hv:bootBuiltins x=some (.type T)) (ha:PA X (e :: es) t) (hn:x≠"__name__":=by decide) (hdb:(x == ("__debug__":Str))=false:=by decide)
  (he:starEach (e :: es) X.env=(false,eval e X.env) :: starEach es X.env:=by rfl) (hpl:(backTo pos (starEach es X.env)).any (·.1)=false:=by rfl):PE X (.Call (.Name x p) (e :: es) [] pos) (tCB r t):=by
 intro a s σ H Q I h
 refine wpAny_Call_Name_kw (ycr I hg hm hv ?_ hn hdb)
 exact PyProof.Rows.callWith_type1 (thn (ha pos a s σ H _ I h) fun i f ⟨d,c,j,b,g⟩=>hc a f σ c d i Q j b g) he hpl
end
end L2
namespace HT
open PySem PyProof.Rows
section
open PySem.SeqAt
open PySem.AutoSeq1 (wpAny_loadPart')
open PySem.MeetsSeq PySem.MeetsSeq2 PySem.MeetsSeq3
end
section
variable {prog:Program} {w:World} {A:Around} {E:Value->Shared->Prop} {s:Shared}
def sIx (n d:Nat):Option Int->Nat
 | none=>d
 | some v=>if v < 0 then (v+(n:Int)).toNat else min v.toNat n
theorem sIx_none (n d:Nat):sIx n d none=d:=rfl
theorem sIx_nat (n d k:Nat):sIx n d (some (k:Int))=min k n:=by
 show (if (k:Int) < 0 then ((k:Int)+(n:Int)).toNat else min (k:Int).toNat n)=min k n
 rw [if_neg (by omega),Int.toNat_natCast]
theorem va6 (n d:Nat) (hd:d <= n) (o:Option Int):sIx n d o <= n:=by
 cases o with
 | none=>exact hd
 | some v =>
  show (if v < 0 then (v+(n:Int)).toNat else min v.toNat n) <= n
  by_cases hv:v < 0
  ·rw [if_pos hv]; omega
  ·rw [if_neg hv]; exact Nat.min_le_right _ _
theorem ym0 (v:Int) (n d:Nat):(if v < 0 then max (v+(n:Int)) 0 else min v (n:Int))=((sIx n d (some v):Nat):Int):=by
 show (if v < 0 then max (v+(n:Int)) 0 else min v (n:Int))=(((if v < 0 then (v+(n:Int)).toNat else min v.toNat n):Nat):Int)
 by_cases hv:v < 0
 ·simp only [if_pos hv]; omega
 ·simp only [if_neg hv]; omega
theorem ykg (lo hi:Option Int) (n:Nat):Builtin.Slice.sliceAdjust lo hi 1 (n:Int)=(((sIx n 0 lo:Nat):Int),((sIx n n hi:Nat):Int)):=by
 have a:¬ ((1:Int) < 0):=by omega
 unfold Builtin.Slice.sliceAdjust
 simp only [a,if_false]
 refine Prod.ext ?_ ?_
 ·cases lo with
  | none=>rfl
  | some v=>exact ym0 v n 0
 ·cases hi with
  | none=>rfl
  | some v=>exact ym0 v n n
theorem ykp (i j:Nat):Builtin.Slice.slicePlaces (i:Int) (j:Int) 1=j - i:=by
 unfold Builtin.Slice.slicePlaces
 have a:(1:Int) > 0:=by omega
 simp only [a,if_true,Int.ediv_one]
 split <;> omega
theorem ydj {v:Value} {o:Option Int} {Q:Option Int->Shared->Prop} (p:IsPart v o) (h:Q o s):wpAny (model prog w) A (Builtin.Slice.slicePartIndex v) Q E s:=by
 cases p with
 | none=>exact slicePart_none h
 | int i t=>exact slicePart_int h
theorem zf {sl:Addr} {vl vu:Value} {lo hi:Option Int} {n:Nat} {Q:Int × Int × Nat->Shared->Prop} (hs:s.heap.IsSliceOf sl vl vu .none) (pl:IsPart vl lo) (pu:IsPart vu hi)
  (h:Q (((sIx n 0 lo:Nat):Int),1,sIx n n hi - sIx n 0 lo) s):wpAny (model prog w) A (Builtin.Slice.sliceApplied (.ref sl) (pure (n:Int))) Q E s:=by
 obtain ⟨d,a,c,b⟩:=id hs
 unfold Builtin.Slice.sliceApplied Builtin.Slice.sliceFields
 refine wpAny_bind (wpAny_bind (wpAny_field a b (x:=vl) rfl (wpAny_bind (wpAny_field a b (x:=vu) rfl (wpAny_bind (wpAny_field a b (x:=.none) rfl (wpAny_pure ?_)))))))
 refine wpAny_bind (slicePart_none ?_)
 show wpAny _ _ (if ((1:Int) == 0)=true then _ else _) _ _ s
 rw [if_neg (by decide)]
 refine wpAny_bind (ydj pl (wpAny_bind (ydj pu (wpAny_bind (wpAny_pure ?_)))))
 show wpAny _ _ (match Builtin.Slice.sliceAdjust lo hi 1 (n:Int) with | (lo,hi)=>pure (lo,(1:Int),Builtin.Slice.slicePlaces lo hi 1)) _ _ s
 rw [ykg lo hi n]
 show wpAny _ _ (pure (((sIx n 0 lo:Nat):Int),(1:Int),Builtin.Slice.slicePlaces ((sIx n 0 lo:Nat):Int) ((sIx n n hi:Nat):Int) 1)) _ _ s
 rw [ykp]
 exact wpAny_pure h
theorem ypu (xs:Array Value) (i k:Nat):((List.range k).filterMap fun (m:Nat)=>xs[((i:Int)+(m:Int) * 1).toNat]?).toArray=((xs.toList.drop i).take k).toArray:=by
 have e:(fun (m:Nat)=>xs[((i:Int)+(m:Int) * 1).toNat]?)=fun m=>xs[i+m]?:=by
  funext m
  have:((i:Int)+(m:Int) * 1).toNat=i+m:=by omega
  rw [this]
 rw [e]
 have:=pick_run xs i k
 rw [List.filterMap_map] at this
 have a:((fun x=>xs[x]?) ∘ fun x=>i+x)=fun m=>xs[i+m]?:=rfl
 rw [a] at this
 rw [this]
theorem getItem_tuple_cut {t sl:Addr} {items:Array Value} {vl vu:Value} {lo hi:Option Int} {Q:Value->Shared->Prop} (ht:IsTup s.heap t items) (hs:s.heap.IsSliceOf sl vl vu .none) (pl:IsPart vl lo) (pu:IsPart vu hi)
  (hw:¬ (sIx items.size 0 lo=0/\sIx items.size items.size hi=items.size))
  (h:Q (.ref s.heap.objs.size) { s with heap:=s.heap.push { cls:=.type "tuple",data:=.seq ((items.toList.drop (sIx items.size 0 lo)).take (sIx items.size items.size hi - sIx items.size 0 lo)).toArray } })
  (hsz:items.size <= sizeLine):wpAny (model prog w) A (getItem (.ref t) (.ref sl)) Q E s:=by
 have a:sizeOk (.seq ((items.toList.drop (sIx items.size 0 lo)).take (sIx items.size items.size hi - sIx items.size 0 lo)).toArray):=by
  show ((items.toList.drop (sIx items.size 0 lo)).take (sIx items.size items.size hi - sIx items.size 0 lo)).toArray.size <= sizeLine
  rw [List.size_toArray,List.length_take,List.length_drop,Array.length_toList]
  omega
 have j:sIx items.size items.size hi <= items.size:=va6 _ _ (Nat.le_refl _) hi
 obtain ⟨g,d,c,f⟩:=id hs
 have b:s.TypeIs (.ref sl) "slice":=⟨g,d,c⟩
 unfold getItem
 try with_reducible refine wpAny_holding ?_
 first | refine wpAny_bind (wpAny_pure ?_) | skip
 refine wpAny_bind (wpAny_sequenceKey ht.typeIs (by decide) ?_)
 refine wpAny_bind (wpAny_callSpecial?_slot (name:=Str.ofString "__getitem__") ht.typeIs PyProof.Rows.slot_tuple_getitem
  (wpAny_call_entry PyProof.Rows.slot_tuple_getitem ht.typeIs entry_tuple_getitem ?_ (args_tuple_getitem _ _)))
 show wpAny _ _ (Builtin.Tuple.tupleItemsOf (.ref t) >>= _) _ _ s
 refine wpAny_bind (tupleItemsOf_ ht ?_)
 refine wpAny_bind (wpAny_typeOf b ?_)
 rw [if_pos (by decide)]
 refine wpAny_bind (zf hs pl pu ?_)
 have e:¬ ((((sIx items.size 0 lo:Nat):Int) == 0 && (1:Int) == 1 && (sIx items.size items.size hi - sIx items.size 0 lo) == items.size)=true):=by
  intro q
  rw [Bool.and_eq_true,Bool.and_eq_true] at q
  have k:((sIx items.size 0 lo:Nat):Int)=0:=eq_of_beq q.1.1
  have i:sIx items.size items.size hi - sIx items.size 0 lo=items.size:=eq_of_beq q.2
  exact hw ⟨by omega,by omega⟩
 show wpAny _ _ (if (((sIx items.size 0 lo:Nat):Int) == 0 && (1:Int) == 1 && (sIx items.size items.size hi - sIx items.size 0 lo) == items.size)=true then _ else _) _ _ s
 rw [if_neg e,ypu]
 first
  | exact wpAny_bind (m:=Builtin.Tuple.tupleExact _) (wpAny_newObj_type (wpAny_pure ⟨_,rfl,wpAny_pure h⟩) a)
  | exact wpAny_bind (m:=Builtin.Tuple.tupleExact _) (wpAny_newObj_type (wpAny_bind (wpAny_pure (wpAny_pure ⟨_,rfl,wpAny_pure h⟩))) a)
  | exact wpAny_bind (wpAny_bind (m:=Builtin.Tuple.tupleExact _) (wpAny_newObj_type (wpAny_pure (wpAny_pure ⟨_,rfl,wpAny_pure h⟩)) a))
  | exact wpAny_bind (wpAny_bind (m:=Builtin.Tuple.tupleExact _) (wpAny_newObj_type (wpAny_pure ⟨_,rfl,wpAny_pure h⟩) a))
end
end HT
namespace L2
open PySem PySem.Spec PyProof.Rows
abbrev TO:=St->Hp->(Option Int->Hp->Prop)->Prop
def PO (X:Cx) (e:Option Expr) (t:TO):Prop :=
 ∀ (pins:List (Addr × Obj)) (s:Shared) (σ:St) (H:Hp) (Q:Option Int->Hp->Prop),Inv X pins σ H s->t σ H Q ->
  wpAny (model X.prog X.w) X.A (evalPart e X.env) (fun u s'=>∃ o H',Inv X pins σ H' s'/\IsPart u o/\Q o H') X.xe s
def ync:TO:=fun _ H Q=>Q none H
def vdp (t:TE):TO:=fun σ H Q=>t σ H fun x H1=>∃ i,x=.int i/\Q (some i) H1
section
variable {X:Cx} {e:Expr} {te:TE} {lo hi:Option Expr} {tl th:TO} {pos p2:Pos}
theorem x5:PO X none ync:=by
 intro a s σ H Q I h
 rw [evalPart_none]
 exact wpAny_pure ⟨none,H,I,.none,h⟩
theorem x3 (h:PE X e te):PO X (some e) (vdp te):=by
 intro a s σ H Q I f
 rw [evalPart_some]
 refine thn (h a s σ H _ I f) fun u j h'=>?_
 obtain ⟨x,c,g,b,d⟩:=h'
 obtain ⟨i,rfl,q⟩:=d
 obtain ⟨t,rfl⟩:=b
 exact ⟨some i,c,g,.int i t,q⟩
def SlR (X:Cx) (r:V->Option Int->Option Int->Hp->VK->Prop):Prop :=
 ∀ (pins:List (Addr × Obj)) (s:Shared) (σ:St) (H:Hp) (x:V) (v vl vu:Value) (lo hi:Option Int) (sl:Addr) (Q:VK),Inv X pins σ H s->xl x v->s.heap.IsSliceOf sl vl vu .none->IsPart vl lo->IsPart vu hi->r x lo hi H Q ->
  ∃ T id,typeLookup (.type T) "__getitem__"=pure (some (.builtin id))/\s.TypeIs v T/\wpAny (model X.prog X.w) X.A (getItem v (.ref sl)) (EP X pins σ Q) X.xe s
theorem SlR.or {r r':V->Option Int->Option Int->Hp->VK->Prop} (h:SlR X r) (h':SlR X r'):SlR X (fun x lo hi H Q=>r x lo hi H Q\/r' x lo hi H Q):=by
 intro a s σ H x v c g lo hi b Q I f i d e q
 rcases q with q | q
 ·exact h a s σ H x v c g lo hi b Q I f i d e q
 ·exact h' a s σ H x v c g lo hi b Q I f i d e q
def tSl (r:V->Option Int->Option Int->Hp->VK->Prop) (te:TE) (tl th:TO):TE:=fun σ H Q=>te σ H fun x H1=>tl σ H1 fun l H2=>th σ H2 fun u H3=>r x l u H3 Q
theorem xn {r:V->Option Int->Option Int->Hp->VK->Prop} (hr:SlR X r) (he:PE X e te) (hl:PO X lo tl) (hu:PO X hi th):PE X (.Subscript e (.Slice lo hi none p2) pos) (tSl r te tl th):=by
 intro a s σ H Q I h
 refine Subscript_ (thn (he a s σ H _ I h) fun v z h'=>?_)
 obtain ⟨x,n,j,t,p⟩:=h'
 refine wpAny_Slice (thn (hl a z σ n _ j p) fun d B ⟨l,k,m,i,F⟩=>thn (hu a B σ k _ m F) fun f c h'=>?_)
 obtain ⟨u,g,D,G,o⟩:=h'
 rw [evalPart_none]
 refine wpAny_pure ?_
 have E:Inv X a σ g { c with heap:=c.heap.push { cls:=.type "slice",data:=.fields #[d,f,.none] } }:=D.kept (t':=c.toks) fun b K q=>Heap.get?_push_of_some _ q
 obtain ⟨T,id,J,C,y⟩:=hr a { c with heap:=c.heap.push { cls:=.type "slice",data:=.fields #[d,f,.none] } } σ g x v d f l u c.heap.objs.size Q E t (Heap.IsSliceOf.new ..) i G o
 show wpAny (model X.prog X.w) X.A (subscriptTail e (.Slice lo hi none p2) v (.ref c.heap.objs.size)) (EP X a σ Q) X.xe { c with heap:=c.heap.push { cls:=.type "slice",data:=.fields #[d,f,.none] } }
 exact tail_any (ops:=[.ref c.heap.objs.size,v]) C J y (by with_unfolding_all rfl)
def yic (xs:List V) (lo hi:Option Int):List V:=(xs.drop (HT.sIx xs.length 0 lo)).take (HT.sIx xs.length xs.length hi - HT.sIx xs.length 0 lo)
theorem yb8 (xs:List V) (lo hi:Option Int):(yic xs lo hi).length <= xs.length:=by
 unfold yic
 rw [List.length_take,List.length_drop]
 omega
def vgu (K:W.Frag):V->Option Int->Option Int->Hp->VK->Prop:=fun x lo hi H Q=>∃ a xs,x=.ref a/\SqT K H a xs /\
 ¬ (HT.sIx xs.length 0 lo=0/\HT.sIx xs.length xs.length hi=xs.length)/\∀ p,H p=none->Q (.ref p) (upd H p (.tup (yic xs lo hi)))
theorem vb2:SlR X (vgu X.K):=by
 intro g s σ H x v w y lo e u Q I t l m p h
 obtain ⟨a,d,rfl,k,n,q⟩:=h
 cases t
 obtain ⟨f,r,j,i⟩:=I.tuple k
 have c:f.toArray.size=d.length:=by rw [List.size_toArray]; exact r.length.symm
 refine ⟨"tuple",_,PyProof.Rows.slot_tuple_getitem.lookup,j.typeIs,?_⟩
 refine HT.getItem_tuple_cut j l m p (by rw [c]; exact n) ?_ (by rw [c]; exact i)
 rw [c]
 refine ⟨.ref s.heap.objs.size,_,I.laid (t':=s.toks) (o:=.tup (yic d lo e)) (fun b z q=>Heap.get?_push_of_some _ q) (Nat.le_refl _) ?_,rfl,q _ (I.hok.fresh (Nat.le_refl _))⟩
 exact ⟨Nat.le_trans (yb8 d lo e) i,_,(r.drop (HT.sIx d.length 0 lo)).take (HT.sIx d.length d.length e - HT.sIx d.length 0 lo),IsTup.new _ _⟩
end
end L2
namespace L2
open PySem PySem.Spec PyProof.Rows
def ixN (n:Nat) (i:Int):Option Nat:=if 0 <= i then (if i < n then some i.toNat else none) else if -(n:Int) <= i then some (i+n).toNat else none
def atI {α:Type} (xs:List α) (i:Int):Option α:=(ixN xs.length i).bind fun j=>xs[j]?
theorem ytc {n:Nat} {i:Int} {j:Nat} (h:ixN n i=some j):seqIndex? i n=some j/\j < n/\-(n:Int) <= i/\i < n:=by
 unfold ixN at h
 by_cases h0:0 <= i
 ·rw [if_pos h0] at h
  by_cases h1:i < n
  ·rw [if_pos h1] at h
   have e:i.toNat=j:=Option.some.inj h
   exact ⟨by rw [seqIndex_of h0 h1,e],by omega,by omega,h1⟩
  ·rw [if_neg h1] at h; cases h
 ·rw [if_neg h0] at h
  by_cases h1:-(n:Int) <= i
  ·rw [if_pos h1] at h
   have e:(i+n).toNat=j:=Option.some.inj h
   exact ⟨by rw [seqIndex_neg (by omega) h1,e],by omega,h1,by omega⟩
  ·rw [if_neg h1] at h; cases h
theorem ynl {α:Type} {xs:List α} {i:Int} {v:α} (h:atI xs i=some v):∃ j,seqIndex? i xs.length=some j/\xs[j]?=some v/\j < xs.length/\-(xs.length:Int) <= i/\i < xs.length:=by
 unfold atI at h
 cases e:ixN xs.length i with
 | none=>rw [e] at h; cases h
 | some j =>
  rw [e] at h
  obtain ⟨a,d,b,c⟩:=ytc e
  exact ⟨j,a,h,d,b,c⟩
theorem xp {α:Type} {xs:List α} {j:Nat} {v:α} (h:xs[j]?=some v):atI xs (j:Int)=some v:=by
 have a:j < xs.length:=(List.getElem?_eq_some_iff.mp h).1
 have e:ixN xs.length (j:Int)=some j:=by
  unfold ixN
  rw [if_pos (by omega),if_pos (by omega)]; simp
 unfold atI; rw [e]; exact h
theorem ypx {α:Type} (xs:List α) (v:α):atI (xs++[v]) (-1)=some v:=by
 have a:(xs++[v]).length=xs.length+1:=by simp
 have e:ixN (xs++[v]).length (-1)=some xs.length:=by
  unfold ixN
  rw [a,if_neg (by decide),if_pos (by omega)]
  congr 1
  omega
 unfold atI
 rw [e]
 show (xs++[v])[xs.length]?=some v
 simp
def yt2 (b:Expr):Prop:=∀ o i,subscripted b false o i=operate [o,i] (getItem o i)
def IxR (X:Cx) (r:R2):Prop :=
 ∀ (value slice:Expr) (pins:List (Addr × Obj)) (s:Shared) (σ:St) (H:Hp) (x y:V) (v u:Value) (Q:VK),Inv X pins σ H s->xl x v->xl y u->r x y H Q ->
  subscripted slice false v u=operate [v,u] (getItem v u)->wpAny (model X.prog X.w) X.A (subscriptTail value slice v u) (EP X pins σ Q) X.xe s
def MtR (X:Cx) (id:String) (r:V->List V->Hp->VK->Prop):Prop :=
 ∀ (pins:List (Addr × Obj)) (s:Shared) (σ:St) (H:Hp) (x:V) (xs:List V) (v:Value) (us:List Value) (Q:VK),Inv X pins σ H s->xl x v->wt xs us->r x xs H Q ->
  wpAny (model X.prog X.w) X.A (call (.builtin id) (v :: us)) (EP X pins σ Q) X.xe s
section
variable {X:Cx} {a b:Expr} {ta tb:TE} {pos:Pos}
theorem uf {r:R2} (hr:IxR X r) (ha:PE X a ta) (hb:PE X b tb) (hs:yt2 b):PE X (.Subscript a b pos) (tOp r ta tb):=by
 intro c s σ H Q I h
 exact Subscript_ (vd2 ha hb I h fun v u i x y e d g f q=>hr a b c i σ e x y v u Q d g f q (hs _ _))
def vgl (K:W.Frag):R2:=fun x y H Q=>∃ p xs i v,x=.ref p/\y=.int i/\SqL K H p xs/\atI xs i=some v/\Q v H
def vf7 (K:W.Frag):R2:=fun x y H Q=>∃ p xs i v,x=.ref p/\y=.int i/\SqT K H p xs/\atI xs i=some v/\Q v H
theorem x4:IxR X (vgl X.K):=by
 intro l e a s σ H x y v u Q I J E h n
 obtain ⟨p,L,i,z,rfl,rfl,C,o,q⟩:=h
 cases J
 obtain ⟨t,rfl⟩:=E
 obtain ⟨f,r,d,O⟩:=I.list C
 obtain ⟨j,c,B,M,G,D⟩:=ynl o
 obtain ⟨w,m,k⟩:=r.get B
 have A:=r.length
 have N:=yjp
 have b:EP X a σ Q w s:=⟨z,H,I,k,q⟩
 by_cases h0:0 <= i
 ·have g:i.toNat=j:=by
   rw [seqIndex_of h0 D] at c
   exact Option.some.inj c
  exact item_listR d.isList h0 (by omega) (by rw [g]; simpa using m) b n
 ·have g:(i+(f.toArray.size:Int)).toNat=j:=by
   rw [seqIndex_neg (by omega) G] at c
   rw [List.size_toArray,<- A]
   exact Option.some.inj c
  exact subscriptTail_builtinR (x:=w) d.isList.typeIs slot_list_getitem.lookup
   (wpAny_getItem_list_neg (Q:=fun r F=>r=w/\EP X a σ Q r F) d.isList (by omega) (by rw [List.size_toArray] <;> omega) (by omega) (by rw [g]; simpa using m) ⟨rfl,b⟩) n
theorem zt:IxR X (vf7 X.K):=by
 intro e b a s σ H x y v u Q I B n h E
 obtain ⟨p,F,i,z,rfl,rfl,m,g,q⟩:=h
 cases B
 obtain ⟨t,rfl⟩:=n
 obtain ⟨A,r,f,N⟩:=I.tuple m
 obtain ⟨j,D,l,J,L,G⟩:=ynl g
 obtain ⟨w,C,d⟩:=r.get l
 have k:=r.length
 have M:=yjp
 have c:EP X a σ Q w s:=⟨z,H,I,d,q⟩
 exact subscriptTail_builtinR (x:=w) f.typeIs slot_tuple_getitem.lookup
  (getItem_tuple (j:=j) (Q:=fun r o=>r=w/\EP X a σ Q r o) f (by omega) (by omega) (by rw [List.size_toArray,<- k]; exact D) (by simpa using C) ⟨rfl,c⟩) E
theorem yfl (lo hi:Option Int) (n:Nat):(sliceBounds lo hi none n).1=((HT.sIx n 0 lo:Nat):Int)/\(sliceBounds lo hi none n).2.1=((HT.sIx n n hi:Nat):Int)/\(sliceBounds lo hi none n).2.2=1:=by
 refine ⟨?_,?_,rfl⟩
 ·cases lo with
  | none=>simp [sliceBounds,HT.sIx]
  | some i =>
   simp only [sliceBounds,HT.sIx,Option.getD_none,show (1:Int) > 0 by decide,if_true]
   by_cases h:i < 0
   ·simp only [h,if_true] <;> omega
   ·simp only [h,if_false] <;> omega
 ·cases hi with
  | none=>simp [sliceBounds,HT.sIx]
  | some i =>
   simp only [sliceBounds,HT.sIx,Option.getD_none,show (1:Int) > 0 by decide,if_true]
   by_cases h:i < 0
   ·simp only [h,if_true] <;> omega
   ·simp only [h,if_false] <;> omega
theorem yeb (its:List Value) (lo hi:Option Int):slicePick its.toArray lo hi none=((its.drop (HT.sIx its.length 0 lo)).take (HT.sIx its.length its.length hi - HT.sIx its.length 0 lo)).toArray:=by
 obtain ⟨a,c,b⟩:=yfl lo hi its.toArray.size
 unfold slicePick
 rw [a,c,b]
 simp only [sliceRange_one,pick_run,List.size_toArray] <;> rfl
def vgi (K:W.Frag):V->Option Int->Option Int->Hp->VK->Prop:=fun x lo hi H Q=>∃ a xs,x=.ref a/\SqL K H a xs/\∀ p,H p=none->Q (.ref p) (upd H p (.lst (yic xs lo hi)))
theorem u9:SlR X (vgi X.K):=by
 intro f s σ H x v u w lo e t Q I n k l m h
 obtain ⟨a,c,rfl,j,q⟩:=h
 cases n
 obtain ⟨p,r,g,i⟩:=I.list j
 have d:=r.length
 refine ⟨"list",_,slot_list_getitem.lookup,g.isList.typeIs,?_⟩
 refine wpAny_getItem_list_slice g.isList k l m .none (by simp) ?_ (by rw [List.size_toArray] <;> omega)
 rw [yeb,<- d]
 refine ⟨.ref s.heap.objs.size,_,I.laid (t':=s.toks) (o:=.lst (yic c lo e)) (fun b y q=>Heap.get?_push_of_some _ q) (Nat.le_refl _) ?_,rfl,q _ (I.hok.fresh (Nat.le_refl _))⟩
 exact ⟨Nat.le_trans (yb8 c lo e) i,_,0,(r.drop (HT.sIx c.length 0 lo)).take (HT.sIx c.length c.length e - HT.sIx c.length 0 lo),Heap.get?_push_size _ rfl⟩
def ygn:V->Bool
 | .non=>true
 | .bl _=>true
 | .int _=>true
 | .str _=>true
 | _=>false
def eqV:V->V->Bool
 | .non,.non=>true
 | .bl a,.bl b=>a == b
 | .bl a,.int b=>(if a then 1 else 0) == b
 | .int a,.bl b=>a == (if b then 1 else 0)
 | .int a,.int b=>a == b
 | .str a,.str b=>a == b
 | _,_=>false
theorem yyc {A:Around} {s:Shared} {y x:V} {u v:Value} (ry:xl y u) (rx:xl x v) (fy:ygn y=true) (fx:ygn x=true):SeqAt.EqAt A s u v (eqV y x):=by
 cases y with
 | non =>
  cases ry
  cases x with
  | non=>cases rx; exact SeqAt.EqAt.same _
  | bl b=>cases rx; exact SeqAt.EqAt.none_bool b
  | int b=>obtain ⟨t,rfl⟩:=rx; exact SeqAt.EqAt.none_int b t
  | str b=>obtain ⟨t,rfl⟩:=rx; exact SeqAt.EqAt.none_str b t
  | _=>exact absurd (show false=true from fx) Bool.false_ne_true
 | bl a =>
  cases ry
  cases x with
  | non=>cases rx; exact SeqAt.EqAt.bool_none a
  | bl b=>cases rx; exact SeqAt.EqAt.bool_bool a b
  | int b=>obtain ⟨t,rfl⟩:=rx; exact SeqAt.EqAt.bool_int a b t
  | str b=>obtain ⟨t,rfl⟩:=rx; exact SeqAt.EqAt.bool_str a b t
  | _=>exact absurd (show false=true from fx) Bool.false_ne_true
 | int a =>
  obtain ⟨c,rfl⟩:=ry
  cases x with
  | non=>cases rx; exact SeqAt.EqAt.int_none a c
  | bl b=>cases rx; exact SeqAt.EqAt.int_bool a c b
  | int b=>obtain ⟨t,rfl⟩:=rx; exact SeqAt.EqAt.int_int a c b t
  | str b=>obtain ⟨t,rfl⟩:=rx; exact SeqAt.EqAt.int_str a c b t
  | _=>exact absurd (show false=true from fx) Bool.false_ne_true
 | str a =>
  obtain ⟨c,rfl⟩:=ry
  cases x with
  | non=>cases rx; exact SeqAt.EqAt.str_none a c
  | bl b=>cases rx; exact SeqAt.EqAt.str_bool a c b
  | int b=>obtain ⟨t,rfl⟩:=rx; exact SeqAt.EqAt.str_int a c b t
  | str b=>obtain ⟨t,rfl⟩:=rx; exact SeqAt.EqAt.str_str a c b t
  | _=>exact absurd (show false=true from fx) Bool.false_ne_true
 | _=>exact absurd (show false=true from fy) Bool.false_ne_true
def eqU (x:V) (u:Value):Bool:=match u with
 | .none=>eqV .non x
 | .bool b=>eqV (.bl b) x
 | .int i _=>eqV (.int i) x
 | .str z _=>eqV (.str z) x
 | _=>false
theorem yse {x y:V} {u:Value} (r:xl y u) (f:ygn y=true):eqU x u=eqV y x:=by
 cases y with
 | non=>cases r; rfl
 | bl b=>cases r; rfl
 | int i=>obtain ⟨t,rfl⟩:=r; rfl
 | str z=>obtain ⟨t,rfl⟩:=r; rfl
 | _=>exact absurd (show false=true from f) Bool.false_ne_true
theorem yhs {x:V}:∀ {xs:List V} {us:List Value},wt xs us->xs.all ygn=true->us.any (eqU x)=xs.any fun y=>eqV y x
 | _,_,.nil,_=>rfl
 | y :: xs,u :: us,.cons r t,f=>by
  rw [List.all_cons,Bool.and_eq_true] at f
  rw [List.any_cons,List.any_cons,yse r f.1,yhs t f.2]
theorem yet {A:Around} {s:Shared} {x:V} {v:Value} (rx:xl x v) (fx:ygn x=true):∀ {xs:List V} {us:List Value},wt xs us->xs.all ygn=true->∀ u∈us,SeqAt.EqAt A s u v (eqU x u)
 | _,_,.nil,_=>fun u a=>by cases a
 | y :: xs,u :: us,.cons r t,f=>fun b a=>by
  rw [List.all_cons,Bool.and_eq_true] at f
  rcases List.mem_cons.mp a with rfl | a
  ·rw [yse r f.1]; exact yyc r rx f.1 fx
  ·exact yet rx fx t f.2 b a
def inV (x:V) (xs:List V):Bool:=xs.any fun y=>eqV y x
def rIn (K:W.Frag) (neg:Bool):R2:=fun x y H Q=>∃ p xs,y=.ref p/\(SqL K H p xs\/SqT K H p xs)/\ygn x=true/\xs.all ygn=true/\Q (.bl (if neg then !inV x xs else inV x xs)) H
theorem ylo:OpR X (compareOp .In) (rIn X.K false):=by
 intro f s σ H x y v u Q I i k h
 obtain ⟨p,l,rfl,b,g,c,q⟩:=h
 cases k
 rcases b with b | b
 ·obtain ⟨a,r,d,j⟩:=I.list b
  refine SeqAt.in_listAt (eqU x) d.isList (fun w e=>yet i g r c w (by simpa using e)) ⟨.bl _,H,I,rfl,?_⟩
  rw [show a.toArray.any (eqU x)=a.any (eqU x) by simp,yhs r c]
  exact q
 ·obtain ⟨a,r,d,j⟩:=I.tuple b
  refine SeqAt.in_tupleAt (eqU x) d (fun w e=>yet i g r c w (by simpa using e)) ⟨.bl _,H,I,rfl,?_⟩
  rw [show a.toArray.any (eqU x)=a.any (eqU x) by simp,yhs r c]
  exact q
theorem yz:yak X (.builtin "len") (fun xs H Q=>∃ p ys,xs=[.ref p]/\(SqL X.K H p ys\/SqT X.K H p ys)/\Q (.int ys.length) H):=by
 intro f s σ H xs k Q I r h
 obtain ⟨p,ys,rfl,b,q⟩:=h
 obtain ⟨u,rfl,i⟩:=yc9 r
 cases i
 have j:=yjp
 rcases b with b | b
 ·obtain ⟨e,d,c,g⟩:=I.list b
  have a:=d.length
  exact Calls.call_len_list c.isList (by simp only [List.size_toArray] <;> omega) ⟨.int ys.length,H,I.tok _,⟨s.toks+1,by rw [List.size_toArray,a]⟩,q⟩
 ·obtain ⟨e,d,c,g⟩:=I.tuple b
  have a:=d.length
  exact len_tuple c (by simp only [List.size_toArray] <;> omega) ⟨.int ys.length,H,I.tok _,⟨s.toks+1,by rw [List.size_toArray,a]⟩,q⟩
theorem ya6:yak X (.builtin "len") (fun xs H Q=>∃ z,xs=[.str z]/\z.length <= sizeLine/\Q (.int z.length) H):=by
 intro a s σ H xs c Q I r h
 obtain ⟨z,rfl,b,q⟩:=h
 obtain ⟨u,rfl,t,rfl⟩:=yc9 r
 have d:=yjp
 exact len_str (by omega) ⟨.int z.length,H,I.tok _,⟨_,rfl⟩,q⟩
theorem xq:yak X (.type "list") (fun xs H Q=>∃ p ys,xs=[.ref p]/\(SqL X.K H p ys\/SqT X.K H p ys)/\∀ l,H l=none->Q (.ref l) (upd H l (.lst ys))):=by
 intro i s σ H xs B Q I r h
 obtain ⟨p,ys,rfl,k,q⟩:=h
 obtain ⟨u,rfl,A⟩:=yc9 r
 cases A
 have m:∀ (a:List Value),wt ys a->ys.length <= sizeLine->∀ (c:Heap) (d:Nat),(∀ b o',s.heap.get? b=some o'->c.get? b=some o') ->
   c.get? s.heap.objs.size=some { cls:=.type "list",dict:=none,data:=.seq a.toArray d,slots:=#[] }->EP X i σ Q (.ref s.heap.objs.size) { s with heap:=c }:=fun a f j c d t e =>
  ⟨.ref s.heap.objs.size,_,I.laid (t':=s.toks) t (Nat.le_refl _) (show xk X.prog X.w _ c _ (.lst ys) from ⟨j,a,d,f,e⟩),rfl,q _ (I.hok.fresh (Nat.le_refl _))⟩
 rcases k with k | k
 ·obtain ⟨a,f,x,j⟩:=I.list k
  have g:=f.length
  obtain ⟨o,v,z,n,y⟩:=x.isList
  exact call_list_seq p (.inl rfl) v z y (fun c d t e=>m a f j c d t e) (by simp only [List.size_toArray] <;> omega)
 ·obtain ⟨a,f,x,j⟩:=I.tuple k
  have g:=f.length
  obtain ⟨o,v,z,n,y⟩:=x
  exact call_list_seq p (.inr rfl) v z y (fun c d t e=>m a f j c d t e) (by simp only [List.size_toArray] <;> omega)
theorem jz:yak X (.type "tuple") (fun xs H Q=>∃ p ys,xs=[.ref p]/\((SqL X.K H p ys/\∀ l,H l=none->Q (.ref l) (upd H l (.tup ys)))\/(SqT X.K H p ys/\Q (.ref p) H))):=by
 intro a s σ H xs x Q I r h
 obtain ⟨p,ys,rfl,h⟩:=h
 obtain ⟨u,rfl,t⟩:=yc9 r
 cases t
 rcases h with ⟨f,q⟩ | ⟨f,q⟩
 ·obtain ⟨c,i,g,k⟩:=I.list f
  have j:=i.length
  refine call_tuple_list g.isList (fun d v=>?_) (by simp only [List.size_toArray] <;> omega)
  have m:Inv X a σ H { s with heap:=d }:=I.kept (t':=s.toks) v
  have n:Inv X a σ (upd H d.objs.size (.tup ys)) { s with heap:=d.push { cls:=.type "tuple",data:=.seq c.toArray } } :=
   m.laid (t':=s.toks) (fun b o e=>Heap.get?_push_of_some _ e) (Nat.le_refl _) (show xk X.prog X.w _ _ _ (.tup ys) from ⟨k,c,i,IsTup.new _ _⟩)
  exact ⟨.ref d.objs.size,_,n,rfl,q _ (m.hok.fresh (Nat.le_refl _))⟩
 ·obtain ⟨c,i,g,k⟩:=I.tuple f
  exact call_tuple_same g ⟨.ref p,H,I,rfl,q⟩
def tyV (K:W.Frag) (T:String) (x:V) (H:Hp):Prop:=match x with
 | .str _=>T="str"
 | .int _=>T="int"
 | .ref p=>(T="list"/\∃ xs,SqL K H p xs)\/(T="tuple"/\∃ o,K.lookup p=some o/\o.cls=.type "tuple"/\o.dict=none) \/
   (T="dict"/\((∃ kvs,H p=some (.dK kvs))\/∃ kvs,H p=some (.dT kvs)))\/(T="set"/\∃ S n,H p=some (.set S n))
 | _=>False
theorem yru {pins:List (Addr × Obj)} {σ:St} {H:Hp} {s:Shared} {T:String} {x:V} {v:Value} (I:Inv X pins σ H s) (r:xl x v) (ty:tyV X.K T x H) :
  s.TypeIs v T/\∀ a,v=.ref a->∃ ob,s.heap.get? a=some ob/\ob.dict=none:=by
 cases x with
 | str z =>
  obtain ⟨t,rfl⟩:=r
  cases (show T="str" from ty)
  exact ⟨typeIs_str s z t,fun _ e=>nomatch e⟩
 | int i =>
  obtain ⟨t,rfl⟩:=r
  cases (show T="int" from ty)
  exact ⟨typeIs_int s i t,fun _ e=>nomatch e⟩
 | ref p =>
  cases r
  rcases ty with ⟨rfl,q,k⟩ | ⟨rfl,o,b,l,g⟩ | ⟨rfl,b⟩ | ⟨rfl,S,n,b⟩
  ·obtain ⟨m,_,j,_⟩:=I.list k
   refine ⟨j.isList.typeIs,fun a e=>?_⟩
   cases e
   obtain ⟨o,n,e,c,g,_⟩:=j
   exact ⟨o,e,g⟩
  ·refine ⟨⟨o,I.kIn p o b,l⟩,fun a e=>?_⟩
   cases e
   exact ⟨o,I.kIn _ o b,g⟩
  ·have z:∃ o,s.heap.get? p=some o/\o.ExactDict:=by
    rcases b with ⟨f,b⟩ | ⟨f,b⟩
    ·obtain ⟨_,_,_,_,o,_,_,e,d,_⟩:=I.hok p _ b
     exact ⟨o,e,d⟩
    ·obtain ⟨_,_,_,_,o,_,_,e,d,_⟩:=I.hok p _ b
     exact ⟨o,e,d⟩
   obtain ⟨o,e,d⟩:=z
   refine ⟨⟨o,e,d.1⟩,fun a h=>?_⟩
   cases h
   exact ⟨o,e,d.2.1⟩
  ·obtain ⟨o,_,_,_,e,d,_⟩:=I.hok p _ b
   refine ⟨⟨o,e,d.1⟩,fun a h=>?_⟩
   cases h
   exact ⟨o,e,d.2.1⟩
 | _=>exact False.elim ty
def vga (K:W.Frag) (T:String) (r:V->List V->Hp->VK->Prop) (to:TE):TE:=fun σ H Q=>to σ H fun x H1=>tyV K T x H1/\r x [] H1 Q
def tBM (K:W.Frag) (T:String) (r:V->List V->Hp->VK->Prop) (to:TE) (t:TA):TE:=fun σ H Q=>to σ H fun x H1=>tyV K T x H1/\t σ H1 fun xs H2=>r x xs H2 Q
variable {o e:Expr} {es:List Expr} {to:TE} {t:TA} {name:Str} {apos cpos:Pos} {T id:String} {r:V->List V->Hp->VK->Prop}
theorem yjc (pa:PlainAttrs T) (slot:Slot T name id) (hty:typeOf (.builtin id)=pure (.type "method_descriptor")) (hm:MtR X id r) (ho:PE X o to)
  (hbase:attributeBase o name X.env (eval o X.env)=eval o X.env:=by rfl) (hline:(apos.endLine == cpos.line)=true:=by rfl):PE X (.Call (.Attribute o name apos) [] [] cpos) (vga X.K T r to):=by
 intro a s σ H Q I h
 refine wpAny_Call_method0_late hbase hline (thn (ho a s σ H _ I h) fun v g h'=>?_)
 obtain ⟨x,e,c,b,d,f⟩:=h'
 obtain ⟨i,j⟩:=yru c b d
 exact ⟨T,id,pa,slot,hty,i,j,Calls.callWith_builtin rfl (PySem.evalArgs_none (hm a g σ e x [] v [] Q c b .nil f))⟩
theorem ybh (pa:PlainAttrs T) (slot:Slot T name id) (hty:typeOf (.builtin id)=pure (.type "method_descriptor")) (hm:MtR X id r) (ho:PE X o to) (ha:PA X (e :: es) t)
  (hbase:attributeBase o name X.env (eval o X.env)=eval o X.env:=by rfl)
  (hfew:((backTo cpos (starEach (e :: es) X.env)).all (fun x=>!x.1) && (backToKw cpos (keywordEach [] X.env)).all (fun x=>x.1.isSome)
   && decide ((e :: es).length+([]:List Keyword).length+(if ([]:List Keyword).isEmpty then 0 else 1) < 30))=true:=by rfl)
  (hline:(apos.endLine == cpos.line)=true:=by rfl) (hs:starEach (e :: es) X.env=(false,eval e X.env) :: starEach es X.env:=by rfl) (hplain:(backTo cpos (starEach es X.env)).any (·.1)=false:=by rfl) :
  PE X (.Call (.Attribute o name apos) (e :: es) [] cpos) (tBM X.K T r to t):=by
 intro a s σ H Q I h
 refine wpAny_Call_method_late hbase hfew hline rfl (thn (ho a s σ H _ I h) fun v u h'=>?_)
 obtain ⟨x,i,d,b,l,w⟩:=h'
 obtain ⟨m,n⟩:=yru d b l
 refine ⟨T,id,pa,slot,hty,m,n,?_⟩
 have c:=ha cpos a u σ i _ d w
 rw [hs] at c ⊢
 refine Calls.callWith_builtin (by show (false || (backTo cpos (starEach es X.env)).any (·.1))=false; rw [hplain] <;> rfl) (Calls.evalArgs_plain ?_)
 exact thn c fun y k ⟨p,f,g,j,q⟩=>hm a k σ f x p v y Q g b j q
end
end L2
namespace L2
open PySem PySem.Spec PyProof.Rows
def MtM (X:Cx) (id:String) (r:V->List V->Hp->VK->Prop):Prop :=
 ∀ (pins:List (Addr × Obj)) (s:Shared) (σ:St) (H:Hp) (x:V) (xs:List V) (v:Value) (us:List Value) (Q:VK),Inv X pins σ H s->xl x v->wt xs us->r x xs H Q ->
  wpAny (model X.prog X.w) X.A (call (.builtin id) (v :: us)) (EP X pins σ Q) X.xe s
theorem wt.one:∀ {x:V} {us:List Value},wt [x] us->∃ u,us=[u]/\xl x u
 | _,_,.cons r .nil=>⟨_,rfl,r⟩
theorem wt.zero:∀ {us:List Value},wt [] us->us=[]
 | _,.nil=>rfl
theorem wt.reverse {xs:List V} {us:List Value} (h:wt xs us):wt xs.reverse us.reverse:=by
 induction h with
 | nil=>exact .nil
 | cons r t ih=>rw [List.reverse_cons,List.reverse_cons]; exact wt.append ih (.cons r .nil)
theorem wt.rep {xs:List V} {us:List Value} (h:wt xs us):∀ k:Nat,wt (List.replicate k xs).flatten (List.replicate k us).flatten
 | 0=>.nil
 | k+1=>by
  rw [List.replicate_succ,List.replicate_succ,List.flatten_cons,List.flatten_cons]
  exact wt.append h (wt.rep h k)
theorem yge (its:List Value):∀ (k:Nat) (acc:List Value),
  List.foldl (fun x1 x2=>x1++x2) acc.toArray (List.replicate k its.toArray)=(acc++(List.replicate k its).flatten).toArray
 | 0,acc=>by simp
 | k+1,acc=>by
  have e:acc.toArray++its.toArray=(acc++its).toArray:=by simp
  have a:(acc++its)++(List.replicate k its).flatten=acc++(List.replicate (k+1) its).flatten:=by
   rw [List.replicate_succ,List.flatten_cons,List.append_assoc]
  rw [<- a,<- yge its k (acc++its),<- e,List.replicate_succ,List.foldl_cons]
section
variable {X:Cx} {pins:List (Addr × Obj)} {σ:St} {H:Hp} {s:Shared} {l b:Addr} {xs ys zs:List V}
theorem Inv.lset {its its':List Value} {n:Nat} {f:Array Value->Array Value} {t':Nat} (I:Inv X pins σ H s) (hH:H l=some (.lst xs))
  (e:s.heap.get? l=some { cls:=.type "list",data:=.seq its.toArray n }) (hf:f its.toArray=its'.toArray) (hv:wt ys its') (hz:ys.length <= sizeLine) :
  Inv X pins σ (upd H l (.lst ys)) { s with heap:=s.heap.update l (Obj.mapSeq f),toks:=t' }:=by
 have q:=PySem.IsL.update e f
 rw [hf] at q
 refine I.write (x:=l) (e:=l) (by rw [hH]; exact trivial) (.inl rfl) (fun c u b a=>(Heap.get?_update_other s.heap (Obj.mapSeq f) (Ne.symm b)).trans a) ⟨_,q⟩ ?_
 exact ⟨hz,its',_,hv,q⟩
theorem Inv.lnew {its:List Value} {t':Nat} (I:Inv X pins σ H s) (hv:wt ys its) (hz:ys.length <= sizeLine) :
  Inv X pins σ (upd H s.heap.objs.size (.lst ys)) { s with heap:=s.heap.push { cls:=.type "list",data:=.seq its.toArray },toks:=t' } :=
 I.laid (fun _ _ q=>Heap.get?_push_of_some _ q) (Nat.le_refl _) ⟨hz,its,0,hv,Heap.get?_push_size _ rfl⟩
theorem Inv.fresh (I:Inv X pins σ H s):H s.heap.objs.size=none:=I.hok.fresh (Nat.le_refl _)
theorem Inv.lstM (I:Inv X pins σ H s) (hH:H l=some (.lst xs)):xs.length <= sizeLine/\∃ (its:List Value) (n:Nat),wt xs its/\xs.length=its.length/\s.heap.get? l=some { cls:=.type "list",data:=.seq its.toArray n }:=by
 obtain ⟨z,its,n,r,e⟩:=I.hok l _ hH
 exact ⟨z,its,n,r,r.length,e⟩
theorem yih {n:Nat} (h:n <= sizeLine):Builtin.List.listTooLong n=false:=by
 unfold Builtin.List.listTooLong
 exact decide_eq_false (by omega)
end
section
variable {X:Cx}
def ynd:V->List V->Hp->VK->Prop:=fun x vs H Q=>∃ l xs y,x=.ref l/\vs=[y]/\H l=some (.lst xs)/\xs.length < sizeLine/\Q .non (upd H l (.lst (xs++[y])))
theorem wu:MtM X "list.append" ynd:=by
 intro b s σ H x j v m Q I d g h
 obtain ⟨l,k,y,rfl,rfl,c,i,q⟩:=h
 cases d
 obtain ⟨u,rfl,f⟩:=g.one
 obtain ⟨z,a,n,r,o,e⟩:=I.lstM c
 refine call_meets F.slot_list_append ⟨_,e,rfl⟩ F.entry_list_append (F.args_list_append_2 _ _) (PySem.list_append l a.toArray n u (by rw [List.size_toArray]; omega)) ⟨e,?_⟩
 refine ⟨.non,_,I.lset (its':=a++[u]) c e (by simp) (r.append (.cons f .nil)) ?_,rfl,q⟩
 rw [List.length_append,List.length_singleton]
 omega
def yus:V->List V->Hp->VK->Prop:=fun x vs H Q=>∃ l b xs zs,x=.ref l/\vs=[.ref b]/\H l=some (.lst xs)/\H b=some (.lst zs)/\xs.length+zs.length <= sizeLine/\Q .non (upd H l (.lst (xs++zs)))
theorem ylq:MtM X "list.extend" yus:=by
 intro g s σ H x G v D Q I y p h
 obtain ⟨l,b,A,C,rfl,rfl,i,m,E,q⟩:=h
 cases y
 obtain ⟨u,rfl,o⟩:=p.one
 cases o
 obtain ⟨z,c,n,r,B,e⟩:=I.lstM i
 obtain ⟨J,a,w,t,k,j⟩:=I.lstM m
 have f:c.toArray.size+a.toArray.size <= sizeLine:=by rw [List.size_toArray,List.size_toArray]; omega
 have d:¬ (!c.toArray.isEmpty && Builtin.List.listTooLong (c.toArray.size+a.toArray.size))=true:=by
  rw [yih f,Bool.and_false]
  exact Bool.false_ne_true
 refine call_meets F.slot_list_extend ⟨_,e,rfl⟩ F.entry_list_extend (F.args_list_extend_2 _ _)
  (AutoSeq1.list_extend_list_list_0 l c.toArray n b a.toArray w d (by rw [List.size_toArray]; omega) (by omega)) ⟨e,j,?_⟩
 refine ⟨.non,_,I.lset (its':=c++a) i e (by simp) (r.append t) ?_,rfl,q⟩
 rw [List.length_append]
 omega
def yi4:V->List V->Hp->VK->Prop:=fun x vs H Q=>∃ l xs,x=.ref l/\vs=[]/\H l=some (.lst xs)/\Q .non (upd H l (.lst xs.reverse))
theorem yaz:MtM X "list.reverse" yi4:=by
 intro c s σ H x i v k Q I f g h
 obtain ⟨l,j,rfl,rfl,d,q⟩:=h
 cases f
 have b:=g.zero
 subst b
 obtain ⟨z,a,n,r,m,e⟩:=I.lstM d
 refine call_meets F.slot_list_reverse ⟨_,e,rfl⟩ F.entry_list_reverse (F.args_list_reverse_1 _) (AutoSeq1.list_reverse_list_0 l a.toArray n (by rw [List.size_toArray]; omega)) ⟨e,?_⟩
 refine ⟨.non,_,I.lset (its':=a.reverse) d e (by simp) r.reverse ?_,rfl,q⟩
 rw [List.length_reverse]
 omega
def vhc:R2:=fun x y H Q=>∃ l b xs zs,x=.ref l/\y=.ref b/\H l=some (.lst xs)/\H b=some (.lst zs)/\xs.length+zs.length <= sizeLine/\∀ p,H p=none->Q (.ref p) (upd H p (.lst (xs++zs)))
theorem yjh:OpR X (binaryOp .Add) vhc:=by
 intro d s σ H x y v u Q I o k h
 obtain ⟨l,b,C,D,rfl,rfl,m,g,w,q⟩:=h
 cases o
 cases k
 obtain ⟨z,c,n,r,A,e⟩:=I.lstM m
 obtain ⟨t,a,B,j,f,p⟩:=I.lstM g
 refine PySem.P.add_list e p ?_ (by rw [List.size_toArray,List.size_toArray]; omega)
 have i:c.toArray++a.toArray=(c++a).toArray:=by simp
 rw [i]
 exact ⟨.ref _,_,I.lnew (t':=s.toks) (r.append j) (by rw [List.length_append]; omega),rfl,q _ I.fresh⟩
def vg2:R2:=fun x y H Q=>∃ l k xs,x=.ref l/\y=.int k/\H l=some (.lst xs)/\-(2 ^ 63) <= k/\k < 2 ^ 63/\xs.length * k.toNat <= sizeLine /\
 ∀ p,H p=none->Q (.ref p) (upd H p (.lst (List.replicate k.toNat xs).flatten))
theorem ys7 {α:Type} (xs:List α) (k:Nat):(List.replicate k xs).flatten.length=k * xs.length:=by
 induction k with
 | zero=>simp
 | succ k ih=>rw [List.replicate_succ,List.flatten_cons,List.length_append,ih,Nat.succ_mul,Nat.add_comm]
theorem ysp:OpR X (binaryOp .Mult) vg2:=by
 intro p s σ H x y v u Q I J C h
 obtain ⟨l,k,L,rfl,rfl,E,K,B,w,q⟩:=h
 cases J
 obtain ⟨t,rfl⟩:=C
 obtain ⟨z,b,n,r,A,e⟩:=I.lstM E
 have g:b.toArray.size * k.toNat <= sizeLine:=by rw [List.size_toArray,<- A]; exact w
 have i:¬ b.toArray.size * k.toNat > (2 ^ 63 - 1) / 8:=by
  have:(sizeLine:Nat) <= (2 ^ 63 - 1) / 8:=by decide
  omega
 have f:¬ (!Builtin.List.listFitsIndex k)=true:=by
  rw [fitsIndex_both K B]
  exact Bool.false_ne_true
 have c:¬ Builtin.List.listTooLong (b.toArray.size * k.toNat)=true:=by
  rw [yih g]
  exact Bool.false_ne_true
 have d:List.foldl (fun j o=>j++o) #[] (List.replicate (if b.toArray.isEmpty=true then 0 else k.toNat) b.toArray)=(List.replicate k.toNat b).flatten.toArray:=by
  have G:∀ m:Nat,List.foldl (fun j o=>j++o) #[] (List.replicate m b.toArray)=(List.replicate m b).flatten.toArray:=fun m=>by
   have:=yge b m []
   rw [List.nil_append] at this
   exact this
  rw [G]
  cases b with
  | nil=>simp
  | cons a r'=>rw [if_neg (by simp)]
 refine wpAny_binaryOp_repeat_ref (T:="list") (U:="int") (by decide) ⟨_,e,rfl⟩ (fun D=>typeIs_int D k t) noFill_list_mul F.fills_int_mul F.slot_int_rmul repeat_list F.slot_int_index.lookup
  (call_meets F.slot_int_rmul (typeIs_int s k t) F.entry_int_rmul (F.args_int_rmul_2 _ _) (int___rmul___int_list k t l b.toArray n)
   ⟨e,rfl,⟨_,e,rfl⟩,call_meets F.slot_list_mul ⟨_,e,rfl⟩ F.entry_list_mul (F.args_list_mul_2 _ _) (AutoListH.list___mul___list_int_3 l b.toArray n k t f i c) ⟨e,?_⟩⟩)
 rw [d]
 exact ⟨.ref _,_,I.lnew (t':=s.toks) (r.rep k.toNat) (by rw [ys7,Nat.mul_comm]; exact w),rfl,q _ I.fresh⟩
end
section
variable {prog:Program} {w:World} {A:Around} {E:Value->Shared->Prop} {s:Shared}
end
section
variable {X:Cx}
end
end L2
namespace Att
open PySem PySem.W PySem.Calls PyProof.Rows
theorem yb6 {P:Params} {h:Heap}:∀ (ns:List Int) (vs:List Value),WellAll P h vs (ns.map WData.int)->IntsAre vs ns:=by
 intro ns
 induction ns with
 | nil =>
  intro vs w
  rw [List.map_nil] at w
  cases w
  exact .nil
 | cons n ns ih =>
  intro vs w
  rw [List.map_cons] at w
  cases w with
  | cons a b =>
   cases a
   exact .cons _ _ (ih _ b)
theorem ymq {l:OpenLaw} {n:Nat} (hn:l.most=some n) {P:Params} {h:Heap} {args:List WData} {vals:List Value}
  (hpre:l.row.toRowW.claim.pre args=true) (hwl:WellAll P h vals args) :
  ∃ a vs ns,vals=[Value.ref a]/\args=[WData.list (ns.map WData.int)]/\h.get? a=some { cls:=.type "list",data:=.seq vs.toArray }/\IntsAre vs ns/\ns.length <= n:=by
 have f:WShape.hasAll [] args [.list .int]=true:=(pre_splitW hpre).1
 have g:l.pre.holds [] { args:=args }=true:=(pre_splitW hpre).2
 obtain ⟨d,r,rfl,j,m⟩:=hasAllW_cons f
 obtain rfl:=hasAllW_nil m
 obtain ⟨o,rfl,i⟩:=hasW_list j
 obtain ⟨ns,rfl⟩:=items_int i
 have b:ns.length <= n:=by
  unfold OpenLaw.pre at g
  have e:(WTm.not (.lt (.lit (.int (n:Int))) (.len (.arg 0)))).holds [] { args:=[.list (ns.map .int)] }=true:=by
   have e:=(holds_andW g).1
   rw [hn] at e
   exact e
  have c:=condW_of e (w_not (w_lt w_lit (w_len_list (w_arg rfl))))
  rw [List.length_map] at c
  refine Nat.le_of_not_lt fun q=>?_
  have k:(n:Int) < ((ns.length:Nat):Int):=by omega
  first
   | (rw [decide_eq_true k] at c; exact absurd c (by decide))
   | (simp at c; omega)
 cases hwl with
 | cons w1 w2 =>
  cases w2
  cases w1 with
  | list ho hall=>exact ⟨_,_,ns,rfl,rfl,ho,yb6 ns _ hall,b⟩
theorem yli (l:OpenLaw) (args:List WData):l.row.toRowW.claim.post args (.bool true) args=true :=
 postW_of (r:=l.row.toRowW) (X:=(true == true))
  (show WShape.has [] (.bool true) .bool=true by first | rfl | decide | simp [WShape.has,WShape.arms,WShape.armsAll])
  (show (WTm.eq .res (.lit (.bool true))).value [] { args:=args,res:=some (.bool true),after:=args }=some (.bool (true == true)) from w_eq_bool (w_res rfl) w_lit) rfl
theorem attach_call {l:OpenLaw} {n:Nat} {q:Program} {loose:List Str} {XP:(Str->Option Value)->Heap->Prop} {YP:World->Heap->Prop} {d:DefRec}
  (hn:l.most=some n) (hdf:d.params.defaults=[])
  (call:∀ (w:World) (s₀ s₁:Shared) (mg mb:Str->Option Value) (fa:Addr) (o:Obj) (pm cd doc:Value) (a:Addr) (vs:List Value) (ns:List Int),
   Ground q loose [] XP w s₀ mg mb s₁.heap->YP w s₁.heap ->
   s₁.heap.get? fa=some o->o.data=.func (docDef d.name d.params d.body d.scope pm cd doc)->s₁.heap.CodeRec cd d.name->mg d.name=some (.ref fa) ->
   s₁.heap.get? a=some { cls:=.type "list",data:=.seq vs.toArray }->IntsAre vs ns->ns.length <= n->s₁.gens=#[] ->
   codeAny (model l.prog w) callerA (.call (.ref fa) ⟨[.ref a],[]⟩) (fun r s'=>r=.ok (.ret (.bool true))/\OldK s₁.heap s'.heap/\s'.os=s₁.os/\AllBare s'.gens) s₁) :
  WalkO q loose XP YP l.row.toRowW d [] (fun f vs=>PySem.call f vs):=by
 intro w s₀ s₁ mg mb G Y fa o pm cd doc u kV D E j p i C m k H c t z h y
 obtain rfl:u=.none:=Dflts.none p hdf
 obtain rfl:kV=.none:=Dflts.noKw p
 obtain ⟨a,vs,ns,rfl,rfl,g,b,e⟩:=ymq hn c h
 refine enter_call (codeAny_mono (call w s₀ s₁ mg mb fa o pm cd doc a vs ns G Y D (fd_plain E) j i g b e C) fun r s' x=>?_)
 obtain ⟨rfl,v,A,B⟩:=x
 exact ⟨.inl ⟨.bool true,.bool true,[],rfl,fun _=>rfl,.bool true,yli l _,fun _=>⟨List.Pairwise.nil,fun _ F=>(nomatch F)⟩⟩,v,A,B⟩
section
variable {prog:Program} {w:World} {A:Around} {E:Value->Shared->Prop} {s:Shared} {K:Frag}
def vf2 (h:Heap) (L d:Addr):List (Addr × Obj):=(List.range h.objs.size).filterMap fun a=>if a=L\/a=d then none else (h.get? a).map fun o=>(a,o)
end
end Att
namespace L2
open PySem PySem.Spec PyProof.Rows
theorem yf1:∀ {vs:List Value} {ns:List Int},IntsAre vs ns->wt (ns.map V.int) vs
 | _,_,.nil=>.nil
 | _,_,.cons n t h=>.cons ⟨t,rfl⟩ (yf1 h)
def vfu (H:Hp):Prop:=∀ b,H b=none\/∃ o xs,H b=some (.frz o (.lst xs))
theorem yp5 {P:Program} {w:World} {K:W.Frag} {mg mb:Str->Option Value} {CX:CXT} {k:Nat} {fa a:Addr} {fd:FuncData} {x:Str} {sp:Sp} {s₁:Shared} {vs:List Value} {ns:List Int}
  (KX:K.In s₁.heap) (hns:s₁.heap.Ns mainGlobals mg) (hb:s₁.heap.Ns builtinsNs mb) (hbb:∀ x:Str,x≠"__name__"->mb x=bootBuiltins x) (hlim:s₁.heap.NoLimit) (hg:s₁.gens=#[])
  (ha:s₁.heap.get? a=some { cls:=.type "list",data:=.seq vs.toArray }) (hi:IntsAre vs ns) (hl:ns.length <= sizeLine) (hr:jb k callerA)
  (F:∀ base:Heap,K.In base->base.Ns mainGlobals mg->wc P w K mg base CX k fa fd [x] sp) (hbind:∀ (s:Shared) (u:Value),BindsTo s fd ⟨[u],[]⟩ [(x,u)])
  (hsp:∀ H:Hp,vfu H->SqL K H a (ns.map V.int)->sp [.ref a] H (fun v _=>v=.bl true) fun _ _ _=>False)
  (hCX:∀ H e s',CX [] H s₁ (fun _ _ _=>False) e s'->False) :
  codeAny (model P w) callerA (.call (.ref fa) ⟨[.ref a],[]⟩) (fun r s'=>r=.ok (.ret (.bool true))/\OldK s₁.heap s'.heap/\s'.os=s₁.os/\AllBare s'.gens) s₁:=by
 have I:=yf1 hi
 have i:=hi.length
 have g:∀ H:Hp,vfu H->SqL K H a (ns.map V.int)->HOk P w H s₁.heap->(∀ b,H b≠none->b=a)->(H a≠none->K.lookup a=none) ->
   codeAny (model P w) callerA (.call (.ref fa) ⟨[.ref a],[]⟩) (fun r s'=>r=.ok (.ret (.bool true))/\OldK s₁.heap s'.heap/\s'.os=s₁.os/\AllBare s'.gens) s₁:=by
  intro H G N p L M
  have c:∀ {b:Addr} {o:Obj},s₁.heap.get? b=some o->H b=none->(yqm s₁.heap H).get? b=some o:=fun e n=>yo1 e n
  have C:∀ {b:Addr} {o:Obj} {l:Array DictEntry} {j:Nat},s₁.heap.get? b=some o->o.data=.dict l j->H b=none:=fun {b o l j} e d=>by
   cases q:H b with
   | none=>rfl
   | some u =>
    have D:b=a:=L b (by rw [q]; simp)
    subst D
    rw [ha] at e; cases e
    have U:Data.seq vs.toArray _=Data.dict l j:=d
    cases U
  have f:∀ {b:Addr} {m:Str->Option Value},s₁.heap.Ns b m->(yqm s₁.heap H).Ns b m:=fun {b m} ⟨o,l,j,e,d,r⟩=>⟨o,l,j,c e (C e d),d,r⟩
  have B:K.In (yqm s₁.heap H):=fun b o e=>c (KX b o e) (by
   cases q:H b with
   | none=>rfl
   | some u =>
    have D:b=a:=L b (by rw [q]; simp)
    subst D
    rw [M (by rw [q]; simp)] at e; cases e)
  have T:Mod K mg (yqm s₁.heap H):=⟨B,f hns,⟨mb,f hb,hbb⟩,let ⟨mc,h1,h2⟩:=hlim; ⟨mc,f h1,h2⟩⟩
  have R:yxy P w K mg (yqm s₁.heap H) callerA [] s₁ H:=⟨rfl,T,fun b o e=>yvj e,Nat.le_of_eq (yl0 _ _),trivial,fun b hb=>absurd (show b∈([]:List Addr) from hb) (by simp),p,.of_eq hg⟩
  refine codeAny_mono ((F _ B (f hns)).run callerA [] s₁ H ⟨[.ref a],[]⟩ [.ref a] [.ref a] _ _ hr R (hbind s₁ (.ref a)) (.cons rfl .nil) (hsp H G N)) fun r s' h=>?_
  cases r with
  | error e=>exact (hCX H e s' h).elim
  | ok fl =>
   cases fl with
   | next=>exact False.elim h
   | brk=>exact False.elim h
   | cont=>exact False.elim h
   | ret u =>
    obtain ⟨v,Z,os,y,E,t,X,q⟩:=h
    have Q:v=.bl true:=q
    subst Q
    obtain rfl:u=Value.bool true:=X
    refine ⟨rfl,OldK.of_keep fun b o e=>?_,os,y⟩
    cases q:H b with
    | none=>exact E.keep b o e q (by intro z; exact absurd (show b∈([]:List Addr) from z) (by simp)) (by simp)
    | some u =>
     rcases G b with z | ⟨Y,xs,z⟩
     ·rw [q] at z; cases z
     ·have S:=E.frzs b Y _ z
      obtain ⟨J,_⟩:=p b _ z
      obtain ⟨O,_⟩:=t b _ S
      rw [e] at J; cases J
      exact O
 cases hk:K.lookup a with
 | some o =>
  have e:=KX a o hk
  rw [ha] at e
  cases e
  refine g (fun _=>none) (fun _=>.inl rfl) (.inr ⟨_,vs.toArray,_,hk,rfl,rfl,rfl,by rw [List.size_toArray,i]; exact hl,by simpa using I⟩) (fun b u z=>by have A:(none:Option HO)=some u:=z; cases A) (fun b z=>absurd rfl z) fun z=>absurd rfl z
 | none =>
  refine g (fun b=>if b=a then some (.frz { cls:=.type "list",data:=.seq vs.toArray } (.lst (ns.map V.int))) else none) (fun b=>?_) (.inl (.inr ⟨{ cls:=.type "list",data:=.seq vs.toArray },if_pos rfl⟩)) (fun b u z=>?_) (fun b z=>?_) fun _=>hk
  ·by_cases hb:b=a
   ·exact .inr ⟨_,_,if_pos hb⟩
   ·exact .inl (if_neg hb)
  ·by_cases hb:b=a
   ·have A:=(if_pos hb).symm.trans z
    cases A
    subst hb
    exact ⟨ha,by rw [List.length_map]; exact hl,vs,_,I,ha⟩
   ·have A:=(if_neg hb).symm.trans z
    cases A
  ·by_cases hb:b=a
   ·exact hb
   ·exact absurd (if_neg hb) z
end L2
namespace L2
open PySem PySem.Spec PyProof.Rows
theorem walk_of {l:W.OpenLaw} {n k:Nat} {q:Program} {loose:List Str} {XP:(Str->Option Value)->Heap->Prop} {YP:World->Heap->Prop} {d:DefRec} {K:Params->W.Frag} {CX:World->CXT} {sp:World->Sp} {x:Str}
  (hn:l.most=some n) (hn2:n <= sizeLine) (hdf:d.params.defaults=[]) (hr:jb k callerA)
  (hY:∀ (w:World) (h:Heap),YP w h->(K w.params).In h)
  (F:∀ (w:World) (mg:Str->Option Value) (fa:Addr) (h:Heap),(K w.params).In h->h.Ns mainGlobals mg->mg d.name=some (.ref fa) ->
   ∃ fd:FuncData,(∀ (s:Shared) (u:Value),BindsTo s fd ⟨[u],[]⟩ [(x,u)]) /\
    ∀ base:Heap,(K w.params).In base->base.Ns mainGlobals mg->wc l.prog w (K w.params) mg base (CX w) k fa fd [x] (sp w))
  (hsp:∀ (w:World) (H:Hp) (a:Addr) (ns:List Int),ns.length <= n->vfu H->SqL (K w.params) H a (ns.map V.int)->sp w [.ref a] H (fun v _=>v=.bl true) fun _ _ _=>False)
  (hCX:∀ (w:World) (H:Hp) (s:Shared) (e:Value) (s':Shared),CX w [] H s (fun _ _ _=>False) e s'->False) :
  W.WalkO q loose XP YP l.row.toRowW d [] (fun f vs=>PySem.call f vs):=by
 refine Att.attach_call hn hdf fun w s₀ s₁ mg D fa o I L A a vs ns G Y E J r m j i c t=>?_
 have p:=hY w _ Y
 obtain ⟨fd,z,C⟩:=F w mg fa _ p G.T.g m
 exact yp5 p G.T.g G.T.b G.T.builtins G.T.nolimit t j i (Nat.le_trans c hn2) hr C z (fun H B y=>hsp w H a ns c B y) fun H e s'=>hCX w H s₁ e s'
end L2
namespace L2
open PySem PySem.Spec PyProof.Rows
def yv (s:Stmt) (j:Nat):Stmt:=match s with
 | .ClassDef _ _ _ body _ _ _ _ _ _ _=>body.getD j (.Pass ⟨0,0,0,0⟩)
 | _=>.Pass ⟨0,0,0,0⟩
def w6 (s:Stmt):Arguments:=match s with
 | .FunctionDef _ a _ _ _ _ _ _ _ _=>a
 | _=>{ posonlyargs:=[],args:=[],vararg:=none,kwonlyargs:=[],kw_defaults:=[],kwarg:=none,defaults:=[] }
def wq (s:Stmt):List Stmt:=match s with
 | .FunctionDef _ _ b _ _ _ _ _ _ _=>b
 | _=>[]
def yg (s:Stmt):Scope:=match s with
 | .FunctionDef _ _ _ _ _ _ sc _ _ _=>sc
 | _=>{ kind:=.function,names:=[],isGenerator:=false,isCoroutine:=false }
abbrev CX0:CXT:=fun _ _ _ _ _ _=>False
abbrev E0:XK:=fun _ _ _=>False
theorem vj {X:Cx}:ya9 CX0 X E0:=fun _ _ _ _ _ _ _ h=>h.elim
structure Fun (K:W.Frag) (x qual:Str) (st:Stmt) (f:Addr) (fd:FuncData):Prop where
 ex:∃ (oc:Value) (od:Option Addr) (kV doc pm:Value) (an:Option Addr) (cdv ct:Value) (osl:Array (Option Value)),
  fd=W.fnOf x qual (w6 st) (wq st) (yg st) .none kV doc pm an cdv ct/\K.lookup f=some ⟨oc,od,.func fd,osl⟩/\W.codeIn K cdv qual=true
 kp:W.keepIn K (.ref f)=true
section
variable {P:Program} {w:World} {K:W.Frag} {mg:Str->Option Value} {base:Heap}
theorem Fun.ok {x qual:Str} {st:Stmt} {f:Addr} {fd:FuncData} {N ps:List Str} {k:Nat} {sp:Sp} (F:Fun K x qual st f fd) (S:yk N ps (yg st)) (len:∀ vs H Q E,sp vs H Q E->vs.length=ps.length)
  (hbody:∀ (cdv:Value) (A:Around) (outer:List Env) (s:Shared) (H:Hp) (vs:List V) (Q:VK) (E:XK),jb k (A.deeper (envOfC qual (yg st) s.heap.objs.size f cdv))->sp vs H Q E ->
   ∃ t,PSs (vz CX0 P w K mg base N qual (yg st) f cdv A outer s H E).nox (wq st) t/\t { nx:=fun _ H'=>Q .non H',rt:=Q } (ybi N vs) H):wc P w K mg base CX0 (k+1) f fd ps sp:=by
 obtain ⟨m,i,kV,d,l,n,cdv,j,e,rfl,c,a⟩:=F.ex
 refine yw3 c a S len fun A outer s H vs Q E g b=>?_
 obtain ⟨t,h,q⟩:=hbody cdv A outer s H vs Q E g b
 exact ⟨t,h.nox,q⟩
theorem Fun.binds {x qual:Str} {st:Stmt} {f:Addr} {fd:FuncData} {ps:List Str} (F:Fun K x qual st f fd)
  (h:∀ (kV doc pm:Value) (an:Option Addr) (cdv ct:Value) (us:List Value),us.length=ps.length->bindArgs (W.fnOf x qual (w6 st) (wq st) (yg st) .none kV doc pm an cdv ct) ⟨us,[]⟩=pure (ps.zip us)):ux K fd ps []:=by
 obtain ⟨e,d,kV,doc,pm,an,cdv,ct,b,rfl,c,a⟩:=F.ex
 exact .all (h kV doc pm an cdv ct)
theorem yrq {x qual:Str} {st:Stmt} {f:Addr} {oc:Value} {od an:Option Addr} {osl:Array (Option Value)} {kV doc pm cdv ct:Value} (l:K.lookup f=some ⟨oc,od,.func (W.fnOf x qual (w6 st) (wq st) (yg st) .none kV doc pm an cdv ct),osl⟩)
  (c:W.codeIn K cdv qual=true) (k:W.keepIn K (.ref f)=true):Fun K x qual st f (W.fnOf x qual (w6 st) (wq st) (yg st) .none kV doc pm an cdv ct):=⟨⟨oc,od,kV,doc,pm,an,cdv,ct,osl,rfl,l,c⟩,k⟩
end
theorem jt {A:Around} {k:Nat} (hr:jb k A):A.units+1 < cLine:=Nat.lt_of_le_of_lt (Nat.add_le_add_left (by decide:1 <= 64) _) hr.units
section
variable {X:Cx}
theorem pv (i:Nat) {x:Str} {pos:Pos} (hN:X.N[i]?=some x:=by rfl) (hv:Vis X.env.scope x:=by first | exact Or.inl rfl | exact Or.inr (Or.inl rfl) | exact Or.inr (Or.inr rfl)) (hd:(x == ("__debug__":Str))=false:=by decide)
  (hcd:(x == ("__classdict__":Str))=false:=by decide):PE X (.Name x pos) (vfn i):=yy8 hN hv hd hcd
end
theorem yfa {A B:Prop} (h:B):if false=true then A else B:=by
 rw [if_neg Bool.false_ne_true]
 exact h
theorem ygr {A B:Prop} (h:A):if true=true then A else B:=by
 rw [if_pos rfl]
 exact h
def y0 (H H':Hp):Prop:=∀ b o,H b=some o->H' b=some o
theorem y0.refl (H:Hp):y0 H H:=fun _ _ h=>h
theorem y0.trans {H H1 H2:Hp} (a:y0 H H1) (b:y0 H1 H2):y0 H H2:=fun c o h=>b c o (a c o h)
theorem y0.free {H H':Hp} (e:y0 H H') {l:Addr} (h:H' l=Option.none):H l=Option.none:=by
 cases q:H l with
 | none=>rfl
 | some o =>
  rw [e l o q] at h
  cases h
theorem y0.seq {K:W.Frag} {H H':Hp} {a:Addr} {xs:List V} (e:y0 H H') (h:SqL K H a xs):SqL K H' a xs:=by
 rcases h with (h | ⟨o,h⟩) | h
 ·exact .inl (.inl (e _ _ h))
 ·exact .inl (.inr ⟨o,e _ _ h⟩)
 ·exact .inr h
end L2
namespace L2
open PySem PySem.Spec PyProof.Rows
section
variable {X:Cx}
theorem wn:yak X (.builtin "isinstance") (fun xs H Q=>∃ x cv t c k,xs=[x,cv]/\xl cv c/\(∀ u,xl cv u->u=c)/\xz X.K H x t/\W.kitOne X.K t c=some k/\Q (.bl k) H):=by
 intro a s σ H xs l Q I r h
 obtain ⟨x,cv,t,c,k,rfl,_,g,b,e,q⟩:=h
 obtain ⟨u,f,rfl,i,j⟩:=ywf r
 obtain rfl:=g f j
 exact ylk I i b e fun d=>⟨.bl k,H,I.tok d,rfl,q⟩
theorem jc {x:Str} {T:String} {pos:Pos} (hg:Gl X x) (hm:X.mg x=none) (hv:bootBuiltins x=some (.type T)) (hn:x≠"__name__":=by decide) (hd:(x == ("__debug__":Str))=false:=by decide):PE X (.Name x pos) (tC (.ty T)):=yto hg hm hv rfl hn hd
theorem vo {x:Str} {i:Int} {t:Tok} {pos:Pos} (hg:Gl X x) (hm:X.mg x=some (.int i t)) (hd:(x == ("__debug__":Str))=false:=by decide):PE X (.Name x pos) (tC (.int i)):=yht hg hm ⟨t,rfl⟩ hd
theorem yh3 {x:Str} {C:Addr} {pos:Pos} (hg:Gl X x) (hm:X.mg x=some (.ref C)) (hd:(x == ("__debug__":Str))=false:=by decide):PE X (.Name x pos) (tC (.ref C)):=yht hg hm rfl hd
mutual
inductive RdV (K:W.Frag) (H:Hp):V->PyData->Prop
 | non:RdV K H .non .none
 | bl (b):RdV K H (.bl b) (.bool b)
 | int (i):RdV K H (.int i) (.int i)
 | str (x):RdV K H (.str x) (.str x)
 | lst {a xs ds}:SqL K H a xs->yk5 K H xs ds->RdV K H (.ref a) (.list ds)
 | tup {a xs ds}:SqT K H a xs->yk5 K H xs ds->RdV K H (.ref a) (.tuple ds)
inductive yk5 (K:W.Frag) (H:Hp):List V->List PyData->Prop
 | nil:yk5 K H [] []
 | cons {x xs d ds}:RdV K H x d->yk5 K H xs ds->yk5 K H (x :: xs) (d :: ds)
end
mutual
theorem RdV.reads {pins:List (Addr × Obj)} {σ:St} {H:Hp} {s:Shared} (I:Inv X pins σ H s):∀ {x:V} {d:PyData} {u:Value},RdV X.K H x d->xl x u->∃ as,Reads s.heap u d as
 | _,_,_,.non,r=>by cases r; exact ⟨_,.none⟩
 | _,_,_,.bl _,r=>by cases r; exact ⟨_,.bool _⟩
 | _,_,_,.int _,r=>by obtain ⟨t,rfl⟩:=r; exact ⟨_,.int _ _⟩
 | _,_,_,.str _,r=>by obtain ⟨t,rfl⟩:=r; exact ⟨_,.str _ _⟩
 | _,_,_,.lst hq hs,r=>by
  cases r
  obtain ⟨a,e,⟨o,n,c,g,i,f⟩,h⟩:=I.list hq
  obtain ⟨as,b⟩:=yk5.reads I hs e
  exact ⟨_,.list c g f (by simpa using b)⟩
 | _,_,_,.tup hq hs,r=>by
  cases r
  obtain ⟨a,e,⟨o,c,g,n,f⟩,h⟩:=I.tuple hq
  obtain ⟨as,b⟩:=yk5.reads I hs e
  exact ⟨_,.tuple c g f (by simpa using b)⟩
theorem yk5.reads {pins:List (Addr × Obj)} {σ:St} {H:Hp} {s:Shared} (I:Inv X pins σ H s):∀ {xs:List V} {ds:List PyData} {us:List Value},yk5 X.K H xs ds->wt xs us->∃ as,ReadsAll s.heap us ds as
 | _,_,_,.nil,.nil=>⟨_,.nil⟩
 | _,_,_,.cons h hs,.cons r rs=>by
  obtain ⟨as,a⟩:=RdV.reads I h r
  obtain ⟨c,b⟩:=yk5.reads I hs rs
  exact ⟨_,.cons a b⟩
end
def vd0 (K:W.Frag) (g:Bool->Bool):R2:=fun x y H Q=>∃ d e,RdV K H x d/\RdV K H y e/\SeqAt.shaped d=true/\SeqAt.shaped e=true/\Q (.bl (g (PyData.eqv d e))) H
theorem yr3 (hu:X.A.units+64 < cLine):OpR X (compareOp .Eq) (vd0 X.K fun b=>b):=by
 intro a s σ H x y v u Q I j f h
 obtain ⟨d,e,c,m,i,k,q⟩:=h
 obtain ⟨n,g⟩:=c.reads I j
 obtain ⟨o,l⟩:=m.reads I f
 exact eq_dataH g l i k hu ⟨.bl _,H,I,rfl,q⟩
theorem yjo (hu:X.A.units+64 < cLine):OpR X (compareOp .NotEq) (vd0 X.K fun b=>!b):=by
 intro a s σ H x y v u Q I j f h
 obtain ⟨d,e,c,m,i,k,q⟩:=h
 obtain ⟨n,g⟩:=c.reads I j
 obtain ⟨o,l⟩:=m.reads I f
 exact ne_dataH g l i k hu ⟨.bl _,H,I,rfl,q⟩
theorem j4 {K:W.Frag} {H:Hp}:∀ ns:List Int,yk5 K H (ns.map V.int) (ns.map PyData.int)
 | []=>.nil
 | n :: r=>.cons (.int n) (j4 r)
theorem jk:∀ ns:List Int,PyData.canLayAll0 (ns.map PyData.int)=true
 | []=>rfl
 | _ :: r=>by simp [PyData.canLayAll0,PyData.canLay0,jk r]
theorem yav:∀ ns:List Int,PyData.depthAll (ns.map PyData.int)=0
 | []=>rfl
 | _ :: r=>by simp [PyData.depthAll,PyData.depth,yav r]
theorem ydf (ns:List Int):SeqAt.shaped (.list (ns.map PyData.int))=true:=by
 simp [SeqAt.shaped,PyData.canLay0,PyData.depth,jk,yav]
theorem jl:∀ ns ms:List Int,PyData.eqvAll (ns.map PyData.int) (ms.map PyData.int)=decide (ns=ms)
 | [],[]=>by simp [PyData.eqvAll]
 | [],_ :: _=>by simp [PyData.eqvAll]
 | _ :: _,[]=>by simp [PyData.eqvAll]
 | a :: r,b :: t=>by
  simp only [List.map_cons,PyData.eqvAll,PyData.eqv,jl r t]
  by_cases h:a=b <;> by_cases h':r=t <;> simp [h,h']
theorem vei {K:W.Frag} {g:Bool->Bool} {H:Hp} {Q:VK} {a b:Addr} (ns ms:List Int) (ha:SqL K H a (ns.map V.int)) (hb:SqL K H b (ms.map V.int)) (h:Q (.bl (g (decide (ns=ms)))) H):vd0 K g (.ref a) (.ref b) H Q :=
 ⟨_,_,.lst ha (j4 ns),.lst hb (j4 ms),ydf ns,ydf ms,by rw [PyData.eqv,jl]; exact h⟩
def ve4 (_ j:Int):Prop:=0 < j/\j < 2 ^ 200
theorem vq:OpR X (binaryOp .FloorDiv) (rI ve4 fun i j=>.int (i / j)):=opI fun i j _ _ _ _ _ b q=>by
 obtain ⟨c,d⟩:=b
 refine floordiv_int (by omega) ?_ (.inl (PyProof.noPylong_of_log2 ?_))
 ·rw [Int.fdiv_eq_ediv_of_nonneg _ (by omega)]; exact q
 ·have e:j.natAbs < 2 ^ 200:=by omega
  have a:j.natAbs≠0:=by omega
  have:=(Nat.log2_lt a).mpr e
  omega
def vf8 (t:TS):TS:=fun D σ H=>∃ M:St->Hp->Prop,t { D with nx:=M } σ H/\∀ σ' H',M σ' H'->D.nx σ' H'
theorem ut {st:Stmt} {t:TS} (h:PS X st t):PS X st (vf8 t):=by
 intro a s σ H D I ⟨M,d,e⟩
 refine thn (h a s σ H { D with nx:=M } I d) fun f g q=>?_
 cases f with
 | next =>
  obtain ⟨σ',b,c,q⟩:=q
  exact ⟨σ',b,c,e σ' b q⟩
 | ret v=>exact q
 | brk=>exact q
 | cont=>exact q
end
def vy (nx:St->Hp->Prop) (σ:St) (H:Hp):Prop:=nx σ H
section
variable {K:W.Frag} {σ:St} {H:Hp} {Q:VK} {QB:Bool->Hp->Prop} {QL:List V->Hp->Prop} {v x y:V} {i j:Int} {b:Bool} {ta tb tc te:TE} {t u:TS} {tA tB':TT} {tr:TA} {D:ye7}
 {nx bk ct:St->Hp->Prop} {rt:VK} {A B:Prop}
theorem yn {N:List Str} {vs:List V} {σ':St} (e:ybi N vs=σ') (h:t D σ' H):t D (ybi N vs) H:=by rw [e]; exact h
theorem vcx {k:Nat} (e:σ[k]?=some (some v)) (h:Q v H):vfn k σ H Q:=⟨v,e,h⟩
theorem i_c (h:Q v H):tC v σ H Q:=h
theorem vgq {r:R2} (h:ta σ H fun x H1=>tb σ H1 fun y H2=>r x y H2 Q):tOp r ta tb σ H Q:=h
theorem vg1 {r:V->Hp->VK->Prop} (h:ta σ H fun x H1=>r x H1 Q):tUn r ta σ H Q:=h
theorem vg5 {g:Int->Int->V} (h:Q (g i j) H):rI0 g (.int i) (.int j) H Q:=⟨i,j,rfl,rfl,h⟩
theorem i_I {C:Int->Int->Prop} {g:Int->Int->V} (hc:C i j) (h:Q (g i j) H):rI C g (.int i) (.int j) H Q:=⟨i,j,rfl,rfl,hc,h⟩
theorem i_U {g:Int->V} (h:Q (g i) H):rU g (.int i) H Q:=⟨i,rfl,h⟩
theorem vey (h:Q (.bl (decide (i=j))) H):rEq (.int i) (.int j) H Q:=⟨rfl,by
 have e:decide (V.int i=V.int j)=decide (i=j):=by simp
 rw [e]; exact h⟩
theorem vbh (h:ta σ H fun x H'=>∃ k,x=.bl k/\QB k H'):yvo ta σ H QB:=h
theorem vg4 (h:ta σ H fun x H'=>∃ k,x=.bl k/\QB k H'):tB ta σ H QB:=h
theorem vgv {P:Bool->Prop} (h:P b):∃ k,V.bl b=V.bl k/\P k:=⟨b,rfl,h⟩
theorem ytx {r r':R2} (h:ta σ H fun x H1=>tb σ H1 fun y H2=>r x y H2 fun z H3=>∃ k,z=.bl k/\(if k=true then tc σ H3 fun w' H4=>r' y w' H4 Q else Q (.bl false) H3)):ynq r r' ta tb tc σ H Q:=h
theorem yya (h:ta σ H fun x H1=>∃ c,x=.bl c/\if c=true then tb σ H1 Q else Q (.bl false) H1):vde ta tb σ H Q:=h
theorem vem (h:ta σ H fun x H1=>∃ c,x=.bl c/\if c=true then Q (.bl true) H1 else tb σ H1 Q):vf5 ta tb σ H Q:=h
theorem yyv (h:ta σ H fun x H1=>∃ c,x=.bl c/\Q (.bl (!c)) H1):vc2 ta σ H Q:=h
theorem ve1 {t1 t2:TT} (h:t1 σ H fun c H1=>if c=true then t2 σ H1 QB else QB false H1):vgg t1 t2 σ H QB:=h
theorem vg0 {t1 t2:TT} (h:t1 σ H fun c H1=>if c=true then QB true H1 else t2 σ H1 QB):tOr t1 t2 σ H QB:=h
theorem vfc {t1:TT} (h:t1 σ H fun c H1=>QB (!c) H1):vgm t1 σ H QB:=h
theorem ve0 (h:tA σ H fun c H1=>if c=true then ta σ H1 Q else tb σ H1 Q):tIf tA ta tb σ H Q:=h
theorem vew (h:t ⟨u D,D.rt,D.bk,D.ct⟩ σ H):vfo t u D σ H:=h
theorem yz4 (h:nx σ H):vdi ⟨nx,rt,bk,ct⟩ σ H:=h
theorem veg (h:te σ H rt):vgk te ⟨nx,rt,bk,ct⟩ σ H:=h
theorem yy9 (h:te σ H fun _ H1=>nx σ H1):vdb te ⟨nx,rt,bk,ct⟩ σ H:=h
theorem vhb (h:tA σ H fun c H1=>if c=true then t D σ H1 else u D σ H1):vft tA t u D σ H:=h
theorem yog {t:TS} (M:St->Hp->Prop) (h1:t ⟨M,rt,bk,ct⟩ σ H) (h2:∀ σ' H',M σ' H'->nx σ' H'):vf8 t ⟨nx,rt,bk,ct⟩ σ H:=⟨M,h1,h2⟩
theorem vek {g:TG} (h:te σ H fun x H1=>g x σ H1 nx):vdw te g ⟨nx,rt,bk,ct⟩ σ H:=h
theorem yyn {sp:Sp} {dvs:List V} {E:XK} (h:tr σ H fun vs H1=>sp (vs++dvs) H1 Q E):vda sp dvs E tr σ H Q:=h
theorem vbs (h:ta σ H fun x H1=>tr σ H1 fun xs H2=>QL (x :: xs) H2):vdq ta tr σ H QL:=h
theorem ves (h:QL [] H):yx0 σ H QL:=h
theorem vgw {r:List V->Hp->VK->Prop} (h:tr σ H fun vs H1=>r vs H1 Q):tCB r tr σ H Q:=h
theorem veu (h:tr σ H fun xs H1=>xs.length <= sizeLine/\∀ p,H1 p=none->Q (.ref p) (upd H1 p (.tup xs))):vgh tr σ H Q:=h
theorem vd6 (h:tr σ H fun xs H1=>xs.length <= sizeLine/\∀ p,H1 p=none->Q (.ref p) (upd H1 p (.lst xs))):vgd tr σ H Q:=h
theorem yjd {C:Addr} {m:Str} {sp:Sp} {dvs:List V} {E:XK} (h:ta σ H fun x H1=>∃ a dx fs,x=.ref a/\H1 a=some (.ins C dx fs)/\fs.lookup m=none/\tr σ H1 fun vs H2=>sp (x :: (vs++dvs)) H2 Q E):yh7 C m sp dvs E ta tr σ H Q:=h
theorem ve5 {f:Str} (h:ta σ H fun x H1=>∃ a C dx fs v,x=.ref a/\H1 a=some (.ins C dx fs)/\Cls K C/\vi K C f/\fs.lookup f=some v/\Q v H1):vfi K ta f σ H Q:=h
theorem yyk {f:Str} (h:tb σ H fun y H1=>ta σ H1 fun x H2=>∃ a C dx fs,x=.ref a/\H2 a=some (.ins C dx fs)/\Cls K C/\vi K C f/\fs.length < 1000/\vy nx σ (upd H2 a (.ins C dx (z9 f y fs)))):vge K ta tb f ⟨nx,rt,bk,ct⟩ σ H:=h
theorem vgs {r:V->Option Int->Option Int->Hp->VK->Prop} {tl th:TO} (h:te σ H fun x H1=>tl σ H1 fun l H2=>th σ H2 fun u H3=>r x l u H3 Q):tSl r te tl th σ H Q:=h
theorem yo3 {QO:Option Int->Hp->Prop} (h:QO none H):ync σ H QO:=h
theorem vb7 {QO:Option Int->Hp->Prop} (h:ta σ H fun x H1=>∃ i,x=.int i/\QO (some i) H1):vdp ta σ H QO:=h
theorem ve7 {P:Int->Prop} (h:P i):∃ k,V.int i=V.int k/\P k:=⟨i,rfl,h⟩
theorem vae (h:A):V.non=V.non/\A:=⟨rfl,h⟩
theorem g0 {a0:Option V} {r:St} {N:St->Hp->Prop} (h:N (some v :: r) H):w4 0 v (a0 :: r) H N:=h
theorem g1 {a0 a1:Option V} {r:St} {N:St->Hp->Prop} (h:N (a0 :: some v :: r) H):w4 1 v (a0 :: a1 :: r) H N:=h
theorem g2 {a0 a1 a2:Option V} {r:St} {N:St->Hp->Prop} (h:N (a0 :: a1 :: some v :: r) H):w4 2 v (a0 :: a1 :: a2 :: r) H N:=h
theorem g3 {a0 a1 a2 a3:Option V} {r:St} {N:St->Hp->Prop} (h:N (a0 :: a1 :: a2 :: some v :: r) H):w4 3 v (a0 :: a1 :: a2 :: a3 :: r) H N:=h
theorem g4 {a0 a1 a2 a3 a4:Option V} {r:St} {N:St->Hp->Prop} (h:N (a0 :: a1 :: a2 :: a3 :: some v :: r) H):w4 4 v (a0 :: a1 :: a2 :: a3 :: a4 :: r) H N:=h
theorem g5 {a0 a1 a2 a3 a4 a5:Option V} {r:St} {N:St->Hp->Prop} (h:N (a0 :: a1 :: a2 :: a3 :: a4 :: some v :: r) H):w4 5 v (a0 :: a1 :: a2 :: a3 :: a4 :: a5 :: r) H N:=h
theorem g6 {a0 a1 a2 a3 a4 a5 a6:Option V} {r:St} {N:St->Hp->Prop} (h:N (a0 :: a1 :: a2 :: a3 :: a4 :: a5 :: some v :: r) H):w4 6 v (a0 :: a1 :: a2 :: a3 :: a4 :: a5 :: a6 :: r) H N:=h
theorem g7 {a0 a1 a2 a3 a4 a5 a6 a7:Option V} {r:St} {N:St->Hp->Prop} (h:N (a0 :: a1 :: a2 :: a3 :: a4 :: a5 :: a6 :: some v :: r) H):w4 7 v (a0 :: a1 :: a2 :: a3 :: a4 :: a5 :: a6 :: a7 :: r) H N:=h
theorem g8 {a0 a1 a2 a3 a4 a5 a6 a7 a8:Option V} {r:St} {N:St->Hp->Prop} (h:N (a0 :: a1 :: a2 :: a3 :: a4 :: a5 :: a6 :: a7 :: some v :: r) H):w4 8 v (a0 :: a1 :: a2 :: a3 :: a4 :: a5 :: a6 :: a7 :: a8 :: r) H N:=h
theorem g9 {a0 a1 a2 a3 a4 a5 a6 a7 a8 a9:Option V} {r:St} {N:St->Hp->Prop} (h:N (a0 :: a1 :: a2 :: a3 :: a4 :: a5 :: a6 :: a7 :: a8 :: some v :: r) H):w4 9 v (a0 :: a1 :: a2 :: a3 :: a4 :: a5 :: a6 :: a7 :: a8 :: a9 :: r) H N:=h
theorem g10 {a0 a1 a2 a3 a4 a5 a6 a7 a8 a9 a10:Option V} {r:St} {N:St->Hp->Prop} (h:N (a0 :: a1 :: a2 :: a3 :: a4 :: a5 :: a6 :: a7 :: a8 :: a9 :: some v :: r) H):w4 10 v (a0 :: a1 :: a2 :: a3 :: a4 :: a5 :: a6 :: a7 :: a8 :: a9 :: a10 :: r) H N:=h
theorem g11 {a0 a1 a2 a3 a4 a5 a6 a7 a8 a9 a10 a11:Option V} {r:St} {N:St->Hp->Prop} (h:N (a0 :: a1 :: a2 :: a3 :: a4 :: a5 :: a6 :: a7 :: a8 :: a9 :: a10 :: some v :: r) H):w4 11 v (a0 :: a1 :: a2 :: a3 :: a4 :: a5 :: a6 :: a7 :: a8 :: a9 :: a10 :: a11 :: r) H N:=h
theorem g12 {a0 a1 a2 a3 a4 a5 a6 a7 a8 a9 a10 a11 a12:Option V} {r:St} {N:St->Hp->Prop} (h:N (a0 :: a1 :: a2 :: a3 :: a4 :: a5 :: a6 :: a7 :: a8 :: a9 :: a10 :: a11 :: some v :: r) H):w4 12 v (a0 :: a1 :: a2 :: a3 :: a4 :: a5 :: a6 :: a7 :: a8 :: a9 :: a10 :: a11 :: a12 :: r) H N:=h
theorem g13 {a0 a1 a2 a3 a4 a5 a6 a7 a8 a9 a10 a11 a12 a13:Option V} {r:St} {N:St->Hp->Prop} (h:N (a0 :: a1 :: a2 :: a3 :: a4 :: a5 :: a6 :: a7 :: a8 :: a9 :: a10 :: a11 :: a12 :: some v :: r) H):w4 13 v (a0 :: a1 :: a2 :: a3 :: a4 :: a5 :: a6 :: a7 :: a8 :: a9 :: a10 :: a11 :: a12 :: a13 :: r) H N:=h
theorem g14 {a0 a1 a2 a3 a4 a5 a6 a7 a8 a9 a10 a11 a12 a13 a14:Option V} {r:St} {N:St->Hp->Prop} (h:N (a0 :: a1 :: a2 :: a3 :: a4 :: a5 :: a6 :: a7 :: a8 :: a9 :: a10 :: a11 :: a12 :: a13 :: some v :: r) H):w4 14 v (a0 :: a1 :: a2 :: a3 :: a4 :: a5 :: a6 :: a7 :: a8 :: a9 :: a10 :: a11 :: a12 :: a13 :: a14 :: r) H N:=h
theorem yn1 {n:Nat} {tg:TGs} {a:Addr} {xs:List V} {N:St->Hp->Prop} (hq:SqT K H a xs) (hl:xs.length=n) (h:tg xs σ H N):yx2 K n tg (.ref a) σ H N:=⟨a,xs,rfl,hq,hl,h⟩
theorem yu3 {tg:TG} {us:TGs} {r:List V} {N:St->Hp->Prop} (h:tg v σ H fun σ' H'=>us r σ' H' N):ja tg us (v :: r) σ H N:=⟨v,r,rfl,h⟩
theorem yy7 {N:St->Hp->Prop} (h:N σ H):yqn [] σ H N:=⟨rfl,h⟩
theorem u6 {p:Prop} [Decidable p] (h1:p->A) (h2:¬ p->B):if decide p=true then A else B:=by
 by_cases h:p
 ·rw [if_pos (decide_eq_true h)]; exact h1 h
 ·rw [if_neg (by simp [h])]; exact h2 h
theorem ygo {p:Prop} [Decidable p] (hp:p) (h:A):if decide p=true then A else B:=by rw [if_pos (decide_eq_true hp)]; exact h
theorem ykz {p:Prop} [Decidable p] (hp:¬ p) (h:B):if decide p=true then A else B:=by rw [if_neg (by simp [hp])]; exact h
theorem ywx {p:Prop} [Decidable p] (hp:p) (h:B):if (!decide p)=true then A else B:=by rw [if_neg (by simp [hp])]; exact h
theorem yv3 {p:Prop} [Decidable p] (hp:¬ p) (h:A):if (!decide p)=true then A else B:=by rw [if_pos (by simp [hp])]; exact h
theorem ys0 {p:Prop} [Decidable p] (h1:p->B) (h2:¬ p->A):if (!decide p)=true then A else B:=by
 by_cases h:p
 ·exact ywx h (h1 h)
 ·exact yv3 h (h2 h)
theorem vff (h:B):if (!true)=true then A else B:=yfa h
theorem vd8 (h:A):if (!false)=true then A else B:=ygr h
theorem xy {f:Str} {r:List (Str × V)}:List.lookup f ((f,v) :: r)=some v:=by simp [List.lookup]
theorem yp {f g:Str} {r:List (Str × V)} {o:Option V} (h:¬ f=g) (e:List.lookup f r=o):List.lookup f ((g,v) :: r)=o:=by
 have a:(f == g)=false:=by simp [h]
 simp [List.lookup,a,e]
theorem wb {f:Str}:List.lookup f ([]:List (Str × V))=none:=rfl
theorem x8 {f:Str} {r:List (Str × V)}:z9 f v ((f,x) :: r)=(f,v) :: r:=by simp [z9]
theorem vh {f g:Str} {r r':List (Str × V)} (h:¬ g=f) (e:z9 f v r=r'):z9 f v ((g,x) :: r)=(g,x) :: r':=by simp [z9,h,e]
theorem wk {f:Str}:z9 f v []=[(f,v)]:=rfl
theorem zq {a c:Addr} {o o':HO} (hn:H a=none) (h:H c=some o):upd H a o' c=some o:=by rw [ym (yd h hn)]; exact h
theorem yj {a c:Addr} {o o':HO} (hn:c≠a) (h:H c=some o):upd H a o' c=some o:=by rw [ym hn]; exact h
theorem vv {a:Addr} {o:HO} (hn:H a=none):y0 H (upd H a o):=fun _ _ h=>zq hn h
theorem y0.tup {H H':Hp} {a:Addr} {xs:List V} (e:y0 H H') (h:SqT K H a xs):SqT K H' a xs:=by
 rcases h with (h | ⟨o,h⟩) | h
 ·exact .inl (.inl (e _ _ h))
 ·exact .inl (.inr ⟨o,e _ _ h⟩)
 ·exact .inr h
theorem ygl {tb:TS} {W:Nat->St->Hp->Prop} {m:Nat} (h:tb ⟨fun σ' H'=>∃ m',m' < m/\W m' σ' H',rt,nx,fun σ' H'=>∃ m',m' < m/\W m' σ' H'⟩ σ H) :
  ∃ N:St->Hp->Prop,(∀ σ' H',N σ' H'->∃ m',m' < m/\W m' σ' H')/\tb ⟨N,rt,nx,N⟩ σ H:=⟨_,fun _ _ q=>q,h⟩
theorem yz6 {C:Addr} {sp:Sp} {dvs:List V} {E:XK} (h:tr σ H fun vs H1=>∀ x dx,H1 x=none->H1 dx=none->dx≠x->sp (.ref x :: (vs++dvs)) (upd (upd H1 dx (.own x)) x (.ins C dx [])) (fun v H2=>v=.non/\Q (.ref x) H2) E):yvr C sp dvs E tr σ H Q:=h
theorem vgy {T:String} {r:V->List V->Hp->VK->Prop} (h:ta σ H fun x H1=>tyV K T x H1/\tr σ H1 fun xs H2=>r x xs H2 Q):tBM K T r ta tr σ H Q:=h
theorem ve2 {T:String} {r:V->List V->Hp->VK->Prop} (h:ta σ H fun x H1=>tyV K T x H1/\r x [] H1 Q):vga K T r ta σ H Q:=h
theorem jr {p:Addr} {xs:List V} (h:H p=some (.lst xs)) (k:A):tyV K "list" (.ref p) H/\A:=⟨.inl ⟨rfl,_,SqL.of h⟩,k⟩
theorem xv {l:Addr} {xs:List V} (h:H l=some (.lst xs)) (hz:xs.length < sizeLine) (k:Q .non (upd H l (.lst (xs++[y])))):ynd (.ref l) [y] H Q:=⟨l,xs,y,rfl,rfl,h,hz,k⟩
theorem yci {l:Addr} {xs:List V} (h:H l=some (.lst xs)) (k:Q .non (upd H l (.lst xs.reverse))):yi4 (.ref l) [] H Q:=⟨l,xs,rfl,rfl,h,k⟩
theorem zw {p:Addr} {ys:List V} {P:List V->Prop} (h:SqL K H p ys) (k:P ys):∃ p' ys',[V.ref p]=[V.ref p']/\(SqL K H p' ys'\/SqT K H p' ys')/\P ys':=⟨p,ys,rfl,.inl h,k⟩
theorem yso {p:Addr} {ys:List V} {P:List V->Prop} (h:SqT K H p ys) (k:P ys):∃ p' ys',[V.ref p]=[V.ref p']/\(SqL K H p' ys'\/SqT K H p' ys')/\P ys':=⟨p,ys,rfl,.inr h,k⟩
theorem yo2 {p:Addr} {ys:List V} {P:List V->Prop} (h:SqL K H p ys) (k:P ys):∃ p' ys',[V.ref p]=[V.ref p']/\(SqL K H p' ys'\/SqT K H p' ys')/\P ys':=⟨p,ys,rfl,.inl h,k⟩
theorem yal {p:Addr} {xs:List V} (h:SqL K H p xs) (e:atI xs i=some v) (k:Q v H):vgl K (.ref p) (.int i) H Q:=⟨p,xs,i,v,rfl,rfl,h,e,k⟩
theorem yqh {p:Addr} {xs:List V} (h:SqT K H p xs) (e:atI xs i=some v) (k:Q v H):vf7 K (.ref p) (.int i) H Q:=⟨p,xs,i,v,rfl,rfl,h,e,k⟩
theorem ye5 {p:Addr} {xs:List V} {lo hi:Option Int} (h:SqL K H p xs) (k:∀ q,H q=none->Q (.ref q) (upd H q (.lst (yic xs lo hi)))):vgi K (.ref p) lo hi H Q:=⟨p,xs,rfl,h,k⟩
theorem u8 {xs:List V} (n:Nat):yic xs none (some (n:Int))=xs.take n:=by
 unfold yic
 rw [HT.sIx_none,HT.sIx_nat,List.drop_zero,Nat.sub_zero]
 rcases Nat.le_total n xs.length with h | h
 ·rw [Nat.min_eq_left h]
 ·rw [Nat.min_eq_right h,List.take_of_length_le (Nat.le_refl _),List.take_of_length_le h]
theorem ve9 {wi:TI} {g:TG} {tb:TS} (h:wi σ H fun J H1=>∃ W:Nat->Nat->St->Hp->Prop,(∃ m,W 0 m σ H1)/\∀ i m σ H,W i m σ H ->
  (J.stop i H/\D.nx σ H)\/(J.go i H/\∃ N:St->Hp->Prop,(∀ σ' H',N σ' H'->∃ m',m' < m/\W (i+1) m' σ' H')/\∀ x H',J.yld i H x H'->g x σ H' fun σ2 H2=>tb { D with nx:=N,ct:=N,bk:=D.nx } σ2 H2)):vf6 wi g tb D σ H:=h
theorem ytq {R:It->Hp->Prop} (h:ta σ H fun x H1=>∃ a,x=.ref a/\(∃ xs,SqL K H1 a xs)/\R (Itl K a) H1):vcy K ta σ H R:=h
theorem vca {R:It->Hp->Prop} (h:ta σ H fun x H1=>∃ a,x=.ref a/\(∃ xs,SqT K H1 a xs)/\R (Itt K a) H1):vgp K ta σ H R:=h
theorem ytz {R:It->Hp->Prop} (h:tr σ H fun vs H1=>∃ j:Int,vs=[.int j]/\-(2 ^ 62) <= j/\j < 2 ^ 62/\R (Itr 0 j.toNat) H1):vc5 tr σ H R:=h
theorem ybg {n m:String} {k:Bool} {P:Bool->Prop} (ty:xz K H x (.type n)) (e:W.kitOne K (.type n) (.type m)=some k) (h:P k) :
  ∃ x' cv t c k',[x,V.ty m]=[x',cv]/\xl cv c/\(∀ u,xl cv u->u=c)/\xz K H x' t/\W.kitOne K t c=some k'/\P k':=⟨x,.ty m,.type n,.type m,k,rfl,rfl,fun _ r=>r,ty,e,h⟩
theorem yuu (h:nx σ H):vy nx σ H:=h
end
def yst:V->Bool
 | .int _=>true
 | .bl _=>true
 | _=>false
def ynf:V->Bool
 | .bl _=>true
 | _=>false
def yai:V->Bool
 | .int _=>true
 | _=>false
theorem yqb (K:W.Frag) (n:String):W.kitOne K (.type n) (.type n)=some true:=by
 unfold W.kitOne
 rw [if_pos (by simp)]
theorem ytk {K:W.Frag} {H:Hp} {x:V} {n:String} (ty:xz K H x (.type n)):W.kitOne K (.type n) (.type "int")=some (yst x):=by
 cases ty <;> rfl
theorem yp8 {K:W.Frag} {H:Hp} {x:V} {n:String} (ty:xz K H x (.type n)):W.kitOne K (.type n) (.type "bool")=some (ynf x):=by
 cases ty <;> rfl
end L2
namespace SpanMath
def Ch (c:Int):Prop:=32768 <= c/\c <= 16744448
def ren (l w s:Int):Int × Int × Int :=
 if w < 4294967296 then (if w * 256 < 4294967296 then (l * 65536,w * 65536,s+2) else (l * 256,w * 256,s+1)) else (l,w,s)
def cut (w c:Int):Int:=w * c / 16777216
def nar (x:Int × Int × Int) (c b:Int):Int × Int × Int :=
 if b=1 then ren x.1 (cut x.2.1 c) x.2.2 else ren (x.1+cut x.2.1 c) (x.2.1 - cut x.2.1 c) x.2.2
def s0:Int × Int × Int:=(0,1099511627776,5)
theorem ypr {l w s:Int} (h:w < 4294967296) (h2:8388608 <= w):ren (l * 256) (w * 256) (s+1)=ren l w s:=by
 unfold ren
 rw [if_pos h]
 by_cases h3:w * 256 < 4294967296
 ·rw [if_pos h3,if_pos h3,if_neg (by omega)]
  refine Prod.ext ?_ (Prod.ext ?_ ?_)
  ·show l * 256 * 256=l * 65536; omega
  ·show w * 256 * 256=w * 65536; omega
  ·show s+1+1=s+2; omega
 ·rw [if_neg h3,if_neg h3]
theorem ytr {l w s:Int} (h:¬ w < 4294967296):ren l w s=(l,w,s):=by
 unfold ren; rw [if_neg h]
theorem ygi {w c:Int} (hw:4294967296 <= w) (hw2:w <= 1099511627776) (hc:Ch c):8388608 <= cut w c/\8388608 <= w - cut w c/\cut w c < 1099511627776:=by
 obtain ⟨b,a⟩:=hc
 have d:w * 32768 <= w * c:=Int.mul_le_mul_of_nonneg_left b (by omega)
 have e:w * c <= w * 16744448:=Int.mul_le_mul_of_nonneg_left a (by omega)
 unfold cut
 generalize w * c=p at d e ⊢
 omega
structure Ok (x:Int × Int × Int):Prop where
 l0:0 <= x.1
 w0:4294967296 <= x.2.1
 w1:x.2.1 <= 1099511627776
 z:5 <= x.2.2
theorem ok0:Ok s0:=⟨by decide,by decide,by decide,by decide⟩
theorem yr6 {l w s:Int} (h0:0 <= l) (h1:8388608 <= w) (h2:w <= 1099511627776) (h3:5 <= s):Ok (ren l w s):=by
 unfold ren
 split
 ·split
  ·exact ⟨by show 0 <= l * 65536; omega,by show _ <= w * 65536; omega,by show w * 65536 <= _; omega,by show 5 <= s+2; omega⟩
  ·exact ⟨by show 0 <= l * 256; omega,by show _ <= w * 256; omega,by show w * 256 <= _; omega,by show 5 <= s+1; omega⟩
 ·exact ⟨h0,by show _ <= w; omega,h2,h3⟩
theorem yzs {x:Int × Int × Int} {c b:Int} (h:Ok x) (hc:Ch c):Ok (nar x c b):=by
 obtain ⟨d,e,a⟩:=ygi h.w0 h.w1 hc
 have:=h.l0; have:=h.w0; have:=h.w1; have:=h.z
 unfold nar
 split
 ·exact yr6 (by omega) (by omega) (by omega) (by omega)
 ·exact yr6 (by omega) (by omega) (by omega) (by omega)
end SpanMath
namespace SpanMath
def pw:Nat->Int
 | 0=>1
 | k+1=>pw k * 256
theorem uq:∀ k,0 < pw k
 | 0=>by decide
 | k+1=>by have:=uq k; show 0 < pw k * 256; omega
theorem yjf (a:Nat):∀ b,pw (a+b)=pw a * pw b
 | 0=>by simp [pw]
 | b+1=>by
  show pw (a+b) * 256=pw a * (pw b * 256)
  rw [yjf a b,Int.mul_assoc]
theorem yni {a b:Nat} (h:a <= b):pw a <= pw b:=by
 obtain ⟨c,rfl⟩:=Nat.exists_eq_add_of_le h
 rw [yjf]
 have d:=uq a
 have e:=uq c
 calc pw a=pw a * 1:=by omega
  _ <= pw a * pw c:=Int.mul_le_mul_of_nonneg_left (by omega) (by omega)
theorem vdg {a b:Nat} (h:pw a < pw b):a < b:=by
 apply Nat.lt_of_not_le
 intro q
 have:=yni q
 omega
def lo:Nat->Int->List Int
 | 0,_=>[]
 | k+1,n=>n % 256 :: lo k (n / 256)
def wr (k:Nat) (n:Int):List Int:=(lo k n).reverse
theorem yqz:∀ k n,(lo k n).length=k
 | 0,_=>rfl
 | k+1,n=>by simp [lo,yqz k]
theorem yzm (k:Nat) (n:Int):(wr k n).length=k:=by simp [wr,yqz]
theorem ym3:∀ k n,∀ x∈lo k n,0 <= x/\x <= 255
 | 0,_,x,h=>by simp [lo] at h
 | k+1,n,x,h=>by
  simp only [lo,List.mem_cons] at h
  rcases h with rfl | h
  ·omega
  ·exact ym3 k _ x h
theorem yt6 (k:Nat) (n:Int):∀ x∈wr k n,0 <= x/\x <= 255:=fun x h=>ym3 k n x (by simpa [wr] using h)
theorem yuj (k:Nat) (n:Int):wr (k+1) n=wr k (n / 256)++[n % 256]:=by simp [wr,lo]
def val (xs:List Int):Int:=xs.foldl (fun a b=>a * 256+b) 0
theorem yiv (xs:List Int) (b:Int):val (xs++[b])=val xs * 256+b:=by simp [val,List.foldl_append]
theorem yq1:∀ (k:Nat) (n:Int),0 <= n->n < pw k->val (wr k n)=n
 | 0,n,h0,h1=>by
  have:n < 1:=h1
  have:n=0:=by omega
  subst this; rfl
 | k+1,n,h0,h1=>by
  have a:n < pw k * 256:=h1
  rw [yuj,yiv,yq1 k (n / 256) (by omega) (by omega)]
  omega
def vgr:Nat->Int->Int->Nat
 | 0,_,_=>0
 | n+1,a,b=>if a=b then 0 else vgr n (a / 256) (b / 256)+1
end SpanMath
namespace SpanMath
abbrev Sn:=Int × Int × Int
def sz (x:Sn):Nat:=x.2.2.toNat
structure OkS (x:Sn):Prop where
 ok:Ok x
 top:x.1+x.2.1 <= pw (sz x)
theorem OkS.sz {x:Sn} (h:OkS x):((sz x:Nat):Int)=x.2.2:=by
 have:=h.ok.z
 unfold SpanMath.sz
 omega
theorem OkS.sz5 {x:Sn} (h:OkS x):5 <= SpanMath.sz x:=by
 have:=h.ok.z
 unfold SpanMath.sz
 omega
theorem vfr:OkS s0:=⟨ok0,by decide⟩
structure Sub (x y:Sn) (r:Nat):Prop where
 z:sz y=sz x+r
 l:x.1 * pw r <= y.1
 h:y.1+y.2.1 <= (x.1+x.2.1) * pw r
theorem ym6 {l w s:Int} (hs:0 <= s):∃ r,Sub (l,w,s) (ren l w s) r/\(ren l w s).2.1=w * pw r/\(ren l w s).1=l * pw r:=by
 unfold ren
 split
 ·split
  ·refine ⟨2,⟨?_,?_,?_⟩,?_,?_⟩
   ·show (s+2).toNat=s.toNat+2; omega
   ·show l * (1 * 256 * 256) <= l * 65536; omega
   ·show l * 65536+w * 65536 <= (l+w) * (1 * 256 * 256); omega
   ·show w * 65536=w * (1 * 256 * 256); omega
   ·show l * 65536=l * (1 * 256 * 256); omega
  ·refine ⟨1,⟨?_,?_,?_⟩,?_,?_⟩
   ·show (s+1).toNat=s.toNat+1; omega
   ·show l * (1 * 256) <= l * 256; omega
   ·show l * 256+w * 256 <= (l+w) * (1 * 256); omega
   ·show w * 256=w * (1 * 256); omega
   ·show l * 256=l * (1 * 256); omega
 ·refine ⟨0,⟨?_,?_,?_⟩,?_,?_⟩
  ·rfl
  ·show l * 1 <= l; omega
  ·show l+w <= (l+w) * 1; omega
  ·show w=w * 1; omega
  ·show l=l * 1; omega
theorem ytp {x:Sn} {c b:Int} (h:Ok x) (hc:Ch c):∃ r,Sub x (nar x c b) r:=by
 obtain ⟨j,k,i⟩:=ygi h.w0 h.w1 hc
 have f:=h.l0; have g:=h.z
 unfold nar
 split
 ·obtain ⟨r,⟨e,d,a⟩,_⟩:=ym6 (l:=x.1) (w:=cut x.2.1 c) (s:=x.2.2) (by omega)
  refine ⟨r,e,d,Int.le_trans a (Int.mul_le_mul_of_nonneg_right ?_ (Int.le_of_lt (uq r)))⟩
  show x.1+cut x.2.1 c <= x.1+x.2.1
  omega
 ·obtain ⟨r,⟨e,d,a⟩,_⟩:=ym6 (l:=x.1+cut x.2.1 c) (w:=x.2.1 - cut x.2.1 c) (s:=x.2.2) (by omega)
  refine ⟨r,e,Int.le_trans (Int.mul_le_mul_of_nonneg_right ?_ (Int.le_of_lt (uq r))) d,Int.le_trans a (Int.mul_le_mul_of_nonneg_right ?_ (Int.le_of_lt (uq r)))⟩
  ·show x.1 <= x.1+cut x.2.1 c; omega
  ·show x.1+cut x.2.1 c+(x.2.1 - cut x.2.1 c) <= x.1+x.2.1; omega
theorem yh4 {x:Sn} {c b:Int} (h:OkS x) (hc:Ch c):OkS (nar x c b):=by
 refine ⟨yzs h.ok hc,?_⟩
 obtain ⟨r,q⟩:=ytp (b:=b) h.ok hc
 rw [q.z,yjf]
 exact Int.le_trans q.h (Int.mul_le_mul_of_nonneg_right h.top (Int.le_of_lt (uq r)))
def blk (l e:Int):Int:=(l+e - 1) / e
def yk6 (l w:Int) (k:Nat):Prop:=(blk l (pw k)+1) * pw k <= l+w
instance (l w:Int) (k:Nat):Decidable (yk6 l w k):=inferInstanceAs (Decidable ((blk l (pw k)+1) * pw k <= l+w))
theorem yrg (l:Int) {e:Int} (h:0 < e):l <= blk l e * e/\blk l e * e < l+e:=by
 unfold blk
 have a:=Int.emod_add_mul_ediv (l+e - 1) e
 have c:=Int.emod_nonneg (l+e - 1) (show e≠0 by omega)
 have b:=Int.emod_lt_of_pos (l+e - 1) h
 rw [Int.mul_comm] at a
 generalize (l+e - 1) / e * e=q at a ⊢
 omega
theorem ym1 {l w:Int} {k:Nat} (h:yk6 l w k):pw k <= w:=by
 have a:=yrg l (uq k)
 unfold yk6 at h
 rw [Int.add_mul] at h
 omega
def tel (l w:Int):Nat->Nat->Nat
 | 0,k=>k
 | f+1,k=>if yk6 l w (k+1) then tel l w f (k+1) else k
theorem ypj {l w:Int} {f k:Nat} (h:yk6 l w (k+1)):tel l w f (k+1)=tel l w (f+1) k:=by
 rw [tel,if_pos h]
theorem yth {l w:Int} {f k:Nat} (h:¬ yk6 l w (k+1)):tel l w f k=k:=by
 cases f with
 | zero=>rfl
 | succ f=>rw [tel,if_neg h]
theorem yiq {l w:Int}:∀ {f k:Nat},yk6 l w k->yk6 l w (tel l w f k)
 | 0,_,h=>h
 | f+1,k,h=>by
  unfold tel
  split
  ·rename_i q; exact yiq q
  ·exact h
theorem pw5:pw 5=1099511627776:=by decide
theorem ysw {l w:Int} {k:Nat} (hw:w <= 1099511627776) (h:yk6 l w k):k <= 5:=by
 have a:=ym1 h
 rw [<- pw5] at hw
 have b:pw k < pw 6:=Int.lt_of_le_of_lt (Int.le_trans a hw) (by decide)
 have:=vdg b
 omega
def tK (x:Sn):Nat:=tel x.1 x.2.1 5 0
def tCn (x:Sn):Int:=blk x.1 (pw (tK x))
def tL (x:Sn):List Int:=wr (sz x - tK x) (tCn x)
theorem veb {x:Sn} (h:Ok x):yk6 x.1 x.2.1 0:=by
 have:=h.w0
 show ((x.1+1 - 1) / 1+1) * 1 <= x.1+x.2.1
 omega
theorem ye2 {x:Sn} (h:Ok x):yk6 x.1 x.2.1 (tK x):=yiq (veb h)
theorem yv8 {x:Sn} (h:OkS x):tK x <= 5/\tK x <= sz x:=by
 have a:=ysw h.ok.w1 (ye2 h.ok)
 have b:=h.sz5
 omega
theorem ynx (x:Sn):(tL x).length=sz x - tK x:=yzm _ _
theorem vcv {x:Sn} (h:Ok x):0 <= tCn x:=by
 have:=h.l0
 have:=uq (tK x)
 exact Int.ediv_nonneg (by omega) (by omega)
theorem va9 {x:Sn} (h:OkS x):tCn x < pw (sz x - tK x):=by
 have b:(tCn x+1) * pw (tK x) <= x.1+x.2.1:=ye2 h.ok
 have a:=h.top
 have e:sz x - tK x+tK x=sz x:=Nat.sub_add_cancel (yv8 h).2
 rw [<- e,yjf] at a
 have c:=Int.le_of_mul_le_mul_right (Int.le_trans b a) (uq (tK x))
 omega
theorem yyz {x:Sn} (h:OkS x):val (tL x)=tCn x:=yq1 _ _ (vcv h.ok) (va9 h)
end SpanMath
namespace L2
open PySem PySem.Spec PyProof.Rows
def yjg (J:It) (te:TE) (D:Addr) (R:Hp->Prop) (H1:Hp):Prop:=∃ W:Nat->Nat->Hp->Prop,(∃ m,W 0 m (upd H1 D (.lst []))) /\
 ∀ i m H2,W i m H2->(J.stop i H2/\R H2)\/(J.go i H2/\∀ x H3,J.yld i H2 x H3->te [some x] H3 fun y H4=>∃ ys,H4 D=some (.lst ys)/\ys.length < sizeLine/\∃ m',m' < m/\W (i+1) m' (upd H4 D (.lst (ys++[y]))))
section
variable {X:Cx} {iter elt:Expr} {x:Str} {px pos:Pos} {scope:Scope} {te:TE} {wi:TI} {pins:List (Addr × Obj)} {σ:St}
theorem yx3 {α:Type} {t:Sem α} {Q Q':α->Shared->Prop} {M:Model} {A:Around} {E:Value->Shared->Prop} {s:Shared} (h:wpAny M A t Q (fun _ _=>False) s) (hQ:∀ a s,Q a s->Q' a s):wpAny M A t Q' E s:=wpAny_mono h hQ fun _ _ z=>z.elim
def cW (n:Nat) (Pv:Nat->Hp->Prop) (i m:Nat) (H:Hp):Prop:=m=n - i/\i <= n/\Pv i H
theorem zk {K:W.Frag} {a D:Addr} {xs:List V} {te:TE} {R:Hp->Prop} {H1:Hp} (Pv:Nat->Hp->Prop) (h0:Pv 0 (upd H1 D (.lst []))) (hl:∀ i H,i <= xs.length->Pv i H->SqL K H a xs)
  (hs:∀ i x H,xs[i]?=some x->i < xs.length->Pv i H->te [some x] H fun y H4=>∃ ys,H4 D=some (.lst ys)/\ys.length < sizeLine/\∃ m',m' < xs.length - i/\cW xs.length Pv (i+1) m' (upd H4 D (.lst (ys++[y]))))
  (hd:∀ H,Pv xs.length H->R H):yjg (Itl K a) te D R H1:=by
 refine ⟨cW xs.length Pv,⟨xs.length,by simp,Nat.zero_le _,h0⟩,?_⟩
 rintro i m H ⟨rfl,b,p⟩
 have q:=hl i H b p
 by_cases hlt:i < xs.length
 ·refine .inr ⟨⟨xs,xs[i],q,by simp [hlt]⟩,fun x c y=>?_⟩
  obtain ⟨e,y⟩:=y
  subst e
  exact hs i x _ (y xs q) hlt p
 ·have e:i=xs.length:=by omega
  subst e
  exact .inl ⟨⟨xs,q,Nat.le_refl _⟩,hd H p⟩
theorem ua {n i:Nat} {Pv:Nat->Hp->Prop} {D:Addr} {ys:List V} {y:V} {H4:Hp} (hD:H4 D=some (.lst ys)) (hl:ys.length < sizeLine) (hi:i < n) (p:Pv (i+1) (upd H4 D (.lst (ys++[y])))) :
  ∃ ys,H4 D=some (.lst ys)/\ys.length < sizeLine/\∃ m',m' < n - i/\cW n Pv (i+1) m' (upd H4 D (.lst (ys++[y]))):=⟨ys,hD,hl,n - (i+1),by omega,rfl,hi,p⟩
end
end L2
namespace L2
open PySem
def yu9:Expr->Bool
 | .Starred _ _=>false
 | _=>true
theorem yc {e:Expr} {es:List Expr} {env:Env} (h:yu9 e=true):starEach (e :: es) env=(false,eval e env) :: starEach es env:=by
 cases e <;> first | rfl | cases h
end L2
namespace L2
open PySem PySem.Spec PyProof.Rows
structure XCls (K:W.Frag) (C:Addr):Prop where
 hd:W.hasDictIn K C=true
 ga:W.findIn K (.ref C) "__getattribute__"=some (some (.builtin "BaseException.__getattribute__"))
 gt:W.findIn K (.ref C) "__getattr__"=some none
 ca:W.findIn K (.ref C) "__class__"=some (some (.builtin "object.__class__"))
 gg:W.specialIn K (.builtin "object.__class__") "__get__"=some (some (.builtin "getset_descriptor.__get__"))
 tk:W.takesIn K (.builtin "object.__class__")=some true
 mo:W.mroIn K C (.type "object")=some true
 mb:W.mroIn K C (.type "BaseException")=some true
section
variable {prog:Program} {w:World} {A:Around} {E:Value->Shared->Prop} {s:Shared} {K:W.Frag} {x C:Addr}
end
section
variable {X:Cx}
end
end L2
namespace L2
open PySem PySem.Spec PyProof.Rows
theorem xk.there {P:Program} {w:World} {H:Hp} {h:Heap} {a:Addr} {o:HO} (x:xk P w H h a o):∃ ob,h.get? a=some ob:=by
 cases o with
 | lst xs=>obtain ⟨_,_,_,_,e⟩:=x; exact ⟨_,e⟩
 | tup xs=>obtain ⟨_,_,_,ob,e,_⟩:=x; exact ⟨_,e⟩
 | dK kvs=>obtain ⟨_,_,_,_,ob,_,_,e,_⟩:=x; exact ⟨_,e⟩
 | dT kvs=>obtain ⟨_,_,_,_,ob,_,_,e,_⟩:=x; exact ⟨_,e⟩
 | set S n=>obtain ⟨ob,_,_,_,e,_⟩:=x; exact ⟨_,e⟩
 | ins C dx fs=>obtain ⟨_,_,_,e,_⟩:=x; exact ⟨_,e⟩
 | own y=>exact x
 | xd fs=>obtain ⟨_,⟨_,_,_,e,_⟩,_⟩:=x; exact ⟨_,e⟩
 | rng lo hi=>obtain ⟨_,_,_,e⟩:=x; exact ⟨_,e⟩
 | frz ob u=>obtain ⟨e,_⟩:=x; exact ⟨_,e⟩
 | tbl ps=>exact ⟨_,(show h.get? a=some _ from x)⟩
 | met f y=>exact ⟨_,(show h.get? a=some _ from x)⟩
 | ext φ=>obtain ⟨_,e,_⟩:=x; exact e
theorem HOk.none_of {P:Program} {w:World} {H:Hp} {h:Heap} {a:Addr} (x:HOk P w H h) (e:h.get? a=none):H a=none:=by
 cases q:H a with
 | none=>rfl
 | some u =>
  obtain ⟨b,z⟩:=(x a u q).there
  rw [e] at z
  cases z
def Fy (X:Cx) (pins:List (Addr × Obj)) (H:Hp) (b:Addr):Prop :=
 H b=none/\b≠X.env.locals/\b∉X.fs/\(b∈X.ex\/X.s₀.heap.get? b=none)/\(∀ y c,X.env.cells.lookup y=some c->c≠b)/\∀ p∈X.pn++pins,p.1≠b
section
variable {X:Cx} {pins:List (Addr × Obj)} {σ:St} {H H':Hp} {s:Shared} {b x T:Addr} {h':Heap}
theorem yjm (I:Inv X pins σ H s) (hb:s.heap.get? b=none) (hn:H' b=none):Fy X pins H' b:=by
 refine ⟨hn,?_,?_,?_,?_,?_⟩
 ·rintro rfl
  obtain ⟨_,⟨_,_,_,e,_⟩,_⟩:=I.loc
  rw [hb] at e; cases e
 ·intro z
  obtain ⟨_,o,e,_⟩:=I.funs.mem z
  rw [hb] at e; cases e
 ·by_cases hx:b∈X.ex
  ·exact .inl hx
  ·refine .inr ?_
   cases q:X.s₀.heap.get? b with
   | none=>rfl
   | some o =>
    obtain ⟨_,e⟩:=I.base.there b o q hx
    rw [hb] at e; cases e
 ·rintro y c e rfl
  obtain ⟨_,_,q,_⟩:=I.cell y c e
  rw [hb] at q; cases q
 ·intro p a z
  have q:=(I.pin p a).1
  rw [z,hb] at q; cases q
theorem Inv.fly (I:Inv X pins σ H s) (hx:Fy X pins H x) (hT:Fy X pins H T)
  (keep:∀ b o,b≠x->b≠T->b∉frs X.stack->s.heap.get? b=some o->h'.get? b=some o)
  (slot:∀ b o,b∈frs X.stack->s.heap.get? b=some o->∃ sl,h'.get? b=some { o with slots:=sl }):Inv X pins σ H { s with heap:=h' }:=by
 have f:∀ {y b o},Fy X pins H y->X.s₀.heap.get? b=some o->b∉X.ex->b≠y:=fun {y b o} Q e a z=>by
  subst z
  rcases Q.2.2.2.1 with q | q
  ·exact a q
  ·rw [e] at q; cases q
 have h:∀ b o,b≠x->b≠T->s.heap.get? b=some o->∃ sl,h'.get? b=some { o with slots:=sl }:=fun b o W L e=>by
  by_cases z:b∈frs X.stack
  ·exact slot b o z e
  ·exact ⟨o.slots,keep b o W L z e⟩
 have g:∀ y c,X.env.cells.lookup y=some c->∀ v,s.heap.IsCell c v->h'.IsCell c v:=fun y c e v ⟨o,D,R⟩=>by
  obtain ⟨sl,q⟩:=h c o (hx.2.2.2.2.1 y c e) (hT.2.2.2.2.1 y c e) D
  exact ⟨_,q,R⟩
 refine ⟨I.ok,I.os,I.bare,⟨fun b o e n A a=>?_,fun b o e n A a=>?_,I.base.free,fun b o e a=>?_,I.base.tups,I.base.frzs,I.base.tbls⟩,?_,fun y c e=>?_,I.free,I.freeC,fun p B=>?_,fun b u e=>?_,I.len⟩
 ·refine keep b o (f hx e a) (f hT e a) (fun z=>?_) (I.base.keep b o e n A a)
  rcases List.mem_cons.mp (I.stkSub b z) with q | q
  ·exact absurd q (Nat.ne_of_lt (Nat.lt_of_lt_of_le (Heap.lt_size e) I.ok.above))
  ·exact A q
 ·obtain ⟨sl,w⟩:=I.base.slot b o e n A a
  obtain ⟨t,j⟩:=h b _ (f hx e a) (f hT e a) w
  exact ⟨t,j⟩
 ·obtain ⟨Y,w⟩:=I.base.there b o e a
  obtain ⟨t,j⟩:=h b _ (f hx e a) (f hT e a) w
  exact ⟨_,j⟩
 ·obtain ⟨m,P,K⟩:=I.loc
  refine ⟨m,?_,fun i y v w j U=>?_⟩
  ·obtain ⟨o,M,J,D,r⟩:=P
   obtain ⟨sl,q⟩:=h _ o (Ne.symm hx.2.1) (Ne.symm hT.2.1) D
   exact ⟨_,M,J,q,r⟩
  ·obtain ⟨u,r,l⟩:=K i y v w j U
   refine ⟨u,r,?_⟩
   rcases l with l | ⟨k,c,e,z⟩
   ·exact .inl l
   ·exact .inr ⟨k,c,e,g y c e _ z⟩
 ·obtain ⟨v,z⟩:=I.cell y c e
  exact ⟨v,g y c e v z⟩
 ·obtain ⟨e,n,F,E,d⟩:=I.pin p B
  refine ⟨keep p.1 p.2 (hx.2.2.2.2.2 p B) (hT.2.2.2.2.2 p B) (fun z=>?_) e,n,F,E,d⟩
  rcases List.mem_cons.mp (I.stkSub _ z) with q | q
  ·exact F q
  ·exact E q
 ·have G:∀ c v,H c=some v->c≠x/\c≠T/\c∉frs X.stack:=fun c v q =>
   ⟨fun z=>(by rw [z,hx.1] at q; cases q),fun z=>(by rw [z,hT.1] at q; cases q),fun z=>(by rw [I.stkFree c z] at q; cases q)⟩
  refine (I.hok b u e).stay (fun c v C q=>?_) (fun _ q=>q) fun _ _ q=>q
  obtain ⟨O,S,N⟩:c≠x/\c≠T/\c∉frs X.stack:=by
   rcases C with rfl | C
   ·exact G _ _ e
   ·exact G _ _ C
  exact keep c v O S N q
def Trd (h:Heap) (x T:Addr) (C fl:Value):Prop :=
 ∃ oe vs oT ts a0,h.get? x=some oe/\(oe.cls=C/\vs[0]?=some a0)/\oe.data=.fields vs/\vs[1]?=some (.ref T)/\T≠x/\h.get? T=some oT/\oT.data=.fields ts/\ts[3]?=some fl
def hid (s:Shared) (X:Cx) (x T:Addr):Heap:=W.hideAll s.heap (x :: T :: frs X.stack)
theorem yrw:(hid s X x T).StaysIn s.heap:=fun _ _ e=>W.of_hideAll _ e
theorem vc9:(hid s X x T).get? x=none:=W.hideAll_none _ (.head _)
theorem vex:(hid s X x T).get? T=none:=W.hideAll_none _ (.tail _ (.head _))
theorem yq6 (I:Inv X pins σ H s):s.heap.FunFrames (hid s X x T) X.stack :=
 W.funFrames_hide I.stack fun b d a c=>.tail _ (.tail _ (List.mem_filterMap.mpr ⟨b,d,c⟩))
theorem vb1 {C fl:Value} (t:Trd s.heap x T C fl):∃ a0,s.heap.TracedAtW (hid s X x T) x C a0 fl:=by
 obtain ⟨e,c,b,d,a0,j,l,f,k,a,g,i,h⟩:=t
 exact ⟨a0,e,c,T,b,d,j,l,f,k,vex,a,g,i,h⟩
theorem ygb {C a0 fl:Value} (I:Inv X pins σ H s) (hx:Fy X pins H x) (hT:Fy X pins H T) (k1:(hid s X x T).StaysIn h') (k2:h'.FunFrames (hid s X x T) X.stack) (k3:h'.TracedAtW (hid s X x T) x C a0 fl)
  (k4:∀ b o,s.heap.get? b=some o->(∀ vs,o.data≠.fields vs)->∃ sl,h'.get? b=some { o with slots:=sl }) :
  Inv X pins σ H { s with heap:=h' }/\∃ T',Fy X pins H T'/\Trd h' x T' C fl:=by
 refine ⟨I.fly hx hT (fun b o i u h e=>k1 b o (W.hideAll_get _ e fun z=>?_)) fun b o t e=>?_,?_⟩
 ·rcases List.mem_cons.mp z with z | z
  ·exact i z
  ·rcases List.mem_cons.mp z with z | z
   ·exact u z
   ·exact h z
 ·obtain ⟨_,v,a,c⟩:=I.stack.mem t
  rw [e] at a; cases a
  exact k4 b o e c
 ·obtain ⟨n,vs,T',y,j,A,k,p,r,l,d,g,f,w⟩:=k3
  refine ⟨T',?_,n,vs,y,j,a0,A,k,p,r,d,g,f,w⟩
  by_cases q:T'=T
  ·rw [q]; exact hT
  ·cases e:s.heap.get? T' with
   | none=>exact yjm I e (I.hok.none_of e)
   | some o =>
    have z:T'∈frs X.stack:=Classical.byContradiction fun z=>by
     have:=W.hideAll_get (x :: T :: frs X.stack) e (fun m=>by
      rcases List.mem_cons.mp m with m | m
      ·exact d m
      ·rcases List.mem_cons.mp m with m | m
       ·exact q m
       ·exact z m)
     rw [show (W.hideAll s.heap (x :: T :: frs X.stack)).get? T'=none from l] at this
     cases this
    obtain ⟨_,v,a,c⟩:=k2.mem z
    rw [g] at a; cases a
    exact absurd f (c _)
end
def CXe (P:Program) (w:World):CXT:=fun outer H s E e s'=>∃ x T C H',e=.ref x/\s'.os=s.os/\AllBare s'.gens/\Un (frs outer) [] H H' s.heap s'.heap/\HOk P w H' s'.heap /\
 (H' x=none/\s.heap.get? x=none)/\(H' T=none/\s.heap.get? T=none)/\Trd s'.heap x T C .none/\E C none H'
def ygp (X:Cx) (Ex:St->XK):Prop:=∀ (pins:List (Addr × Obj)) (σ:St) (H:Hp) (s':Shared) (x T:Addr) (C:Value),Inv X pins σ H s'->Fy X pins H x->Fy X pins H T->Trd s'.heap x T C .none->Ex σ C none H->X.xe (.ref x) s'
theorem yx {P:Program} {w:World} {K:W.Frag} {mg:Str->Option Value} {base:Heap} {N:List Str} {qual:Str} {scope:Scope} {f:Addr} {cd:Value} {A:Around} {outer:List Env} {s:Shared} {H:Hp} {E:XK} :
  ygp (vz (CXe P w) P w K mg base N qual scope f cd A outer s H E) (fun _=>E):=by
 intro a σ g k x T C I h t r q
 show wpAny _ _ (leaving _ _) _ _ _
 obtain ⟨v,u⟩:=vb1 (X:=vz (CXe P w) P w K mg base N qual scope f cd A outer s H E) r
 refine wpAny_leaving_nextW (base:=hid k (vz (CXe P w) P w K mg base N qual scope f cd A outer s H E) x T) (L:=s.heap.objs.size) I.ok.frames (yq6 I) rfl u yrw vc9 fun y ⟨m,j,o,n⟩=>?_
 obtain ⟨d,p,e,l⟩:=ygb I h t m j o n
 have c:∀ {b},Fy (vz (CXe P w) P w K mg base N qual scope f cd A outer s H E) a g b->g b=none/\s.heap.get? b=none:=fun i=>⟨i.1,i.2.2.2.1.resolve_left (by intro z; cases z)⟩
 exact ⟨x,p,C,g,rfl,d.os,d.bare,d.base,d.hok,c h,c e,l,q⟩
theorem ypa {P:Program} {w:World} {K:W.Frag} {mg:Str->Option Value} {base:Heap} {N:List Str} {qual:Str} {scope:Scope} {f:Addr} {cd:Value} {A:Around} {outer:List Env} {s:Shared} {H:Hp} {E:XK}
  {pins:List (Addr × Obj)} {σ:St} {H1:Hp} {s1:Shared} {h':Heap} {x:Addr} {C:Value} {vs:List Value} (I:Inv (vz (CXe P w) P w K mg base N qual scope f cd A outer s H E) pins σ H1 s1) (m:Heap.MadeExcOf s1.heap h' x C vs) (q:E C none H1) :
  (vz (CXe P w) P w K mg base N qual scope f cd A outer s H E).xe (.ref x) { s1 with heap:=h' }:=by
 obtain ⟨t,n,_,_⟩:=m.there
 have e:Fy (vz (CXe P w) P w K mg base N qual scope f cd A outer s H E) pins H1 x:=yjm I m.new (I.hok.none_of m.new)
 have d:Inv (vz (CXe P w) P w K mg base N qual scope f cd A outer s H E) pins σ H1 { s1 with heap:=h' }:=I.kept (t':=s1.toks) m.keeps
 show wpAny _ _ (leaving _ _) _ _ _
 refine wpAny_leaving_firstW (base:=hid { s1 with heap:=h' } (vz (CXe P w) P w K mg base N qual scope f cd A outer s H E) x x) (L:=s.heap.objs.size) (a0:=.ref t) d.ok.frames (yq6 d) rfl n yrw vc9 rfl rfl rfl fun j ⟨i,l,o,k⟩=>?_
 obtain ⟨c,p,g,t'⟩:=ygb d e e i l o k
 have a:∀ {b},Fy (vz (CXe P w) P w K mg base N qual scope f cd A outer s H E) pins H1 b->H1 b=none/\s.heap.get? b=none:=fun h=>⟨h.1,h.2.2.2.1.resolve_left (by intro z; cases z)⟩
 exact ⟨x,p,C,H1,rfl,c.os,c.bare,c.base,c.hok,a e,a g,t',q⟩
end L2
namespace L2
open PySem PySem.Spec PyProof.Rows
def yr9 (sp:Sp) (dvs:List V) (Ex:St->XK) (t:TA):TE:=fun σ H Q=>t σ H fun vs H1=>sp (vs++dvs) H1 Q (Ex σ)
def ygh (C:Addr) (m:Str) (sp:Sp) (dvs:List V) (Ex:St->XK) (ta:TE) (t:TA):TE:=fun σ H Q=>ta σ H fun x H1=>∃ a dx fs,x=.ref a/\H1 a=some (.ins C dx fs)/\fs.lookup m=none /\
 t σ H1 fun vs H2=>sp (x :: (vs++dvs)) H2 Q (Ex σ)
def ysd (C:Addr) (sp:Sp) (dvs:List V) (Ex:St->XK) (t:TA):TE:=fun σ H Q=>t σ H fun vs H1=>∀ x dx,H1 x=none->H1 dx=none->dx≠x ->
 sp (.ref x :: (vs++dvs)) (upd (upd H1 dx (.own x)) x (.ins C dx [])) (fun v H2=>v=.non/\Q (.ref x) H2) (Ex σ)
section
variable {X:Cx} {k:Nat} {f C:Addr} {fd:FuncData} {ps:List Str} {sp:Sp} {dvs:List V} {ds:List Value} {Ex:St->XK} {x m:Str} {p pos apos:Pos} {e o:Expr} {es:List Expr} {ta:TE} {t:TA}
theorem Inv.came {pins:List (Addr × Obj)} {σ:St} {H:Hp} {s s':Shared} {v:Value} (I:Inv X pins σ H s) (hc:ygp X Ex) (h:CXe X.prog X.w X.stack H s (Ex σ) v s'):X.xe v s':=by
 obtain ⟨y,T,D,i,rfl,j,a,f,c,d,e,g,q⟩:=h
 exact hc pins σ i s' y T D (I.call' j f c a fun b z=>absurd z (by simp)) (yjm I d.2 d.1) (yjm I e.2 e.1) g q
theorem ynj {pins:List (Addr × Obj)} {σ:St} {H:Hp} {s:Shared} {Q:VK} {us:List Value} {vs:List V} (F:wc X.prog X.w X.K X.mg X.base (CXe X.prog X.w) k f fd ps sp) (hr:jb k X.A) (hb:ux X.K fd ps ds) (hd:wt dvs ds) (hc:ygp X Ex)
  (I:Inv X pins σ H s) (r:wt vs us) (h:sp (vs++dvs) H Q (Ex σ)):wpAny (model X.prog X.w) X.A (call (.ref f) us) (EP X pins σ Q) X.xe s:=by
 have b:wt (vs++dvs) (us++ds):=r.append hd
 have c:(us++ds).length=ps.length:=by rw [<- b.length]; exact F.len _ _ _ _ h
 refine wpAny_call (codeAny_mono (F.run X.A X.stack s H ⟨us,[]⟩ (us++ds) (vs++dvs) Q (Ex σ) hr I.env0 (hb s us I.kIn c) b h) fun r d a=>?_)
 cases r with
 | error e=>exact I.came hc a
 | ok fl =>
  cases fl with
  | ret u=>exact I.after a
  | next=>exact False.elim a
  | brk=>exact False.elim a
  | cont=>exact False.elim a
theorem vw (F:wc X.prog X.w X.K X.mg X.base (CXe X.prog X.w) k f fd ps sp) (hr:jb k X.A) (hg:Gl X x) (hm:X.mg x=some (.ref f)) (hk:W.keepIn X.K (.ref f)=true) (hb:ux X.K fd ps ds) (hd:wt dvs ds) (hc:ygp X Ex)
  (ha:PA X (e :: es) t) (hdb:(x == ("__debug__":Str))=false:=by decide) (he:starEach (e :: es) X.env=(false,eval e X.env) :: starEach es X.env:=by rfl) (hpl:(backTo pos (starEach es X.env)).any (·.1)=false:=by rfl) :
  PE X (.Call (.Name x p) (e :: es) [] pos) (yr9 sp dvs Ex t):=by
 intro a s σ H Q I h
 refine wpAny_Call_Name_kw (jn I hg hm ?_ hdb)
 refine W.callWith_K (h₀:=X.base) I.ok.mod.kin hk (thn (ha pos a s σ H _ I h) fun i g ⟨d,c,b,r,q⟩=>⟨b.kIn,?_⟩) he hpl
 exact ynj F hr hb hd hc b r q
theorem vt {pl:Sem Bool} (he:PE X o ta) (c:Cls X.K C) (hm:yxw X.K C m f) (F:wc X.prog X.w X.K X.mg X.base (CXe X.prog X.w) k f fd ps sp) (hr:jb k X.A) (hb:ux X.K fd ps ds) (hd:wt dvs ds) (hc:ygp X Ex) (ha:PA X (e :: es) t)
  (hst:starEach (e :: es) X.env=(false,eval e X.env) :: starEach es X.env:=by rfl) (hpl:(backTo pos (starEach es X.env)).any (·.1)=false:=by rfl)
  (ht:eval (.Call (.Attribute o m apos) (e :: es) [] pos) X.env=(do
   let ov <- eval o X.env
   standAt apos.atName
   let (f,first) <- holding [ov] (getMethod ov m pl)
   callWith pos f first (backTo pos (starEach (e :: es) X.env)) (backToKw pos (keywordEach [] X.env))):=by rfl) :
  PE X (.Call (.Attribute o m apos) (e :: es) [] pos) (ygh C m sp dvs Ex ta t):=by
 intro b s σ H Q I h
 refine W.methodCall_KW (pl:=pl) (thn (he b s σ H _ I h) fun u p h'=>?_) ht
 obtain ⟨x,i,g,v,a,D,B,n,y,l,q⟩:=h'
 subst n
 obtain rfl:u=Value.ref a:=v
 refine yax g y c hm l ?_
 refine W.callWith_K (first:=[.ref a]) (h₀:=X.base) I.ok.mod.kin hm.kp (thn (ha pos b p σ i _ g q) fun us E ⟨vs,z,d,r,j⟩=>⟨d.kIn,?_⟩) hst hpl
 exact ynj (us:=.ref a :: us) (vs:=.ref a :: vs) F hr hb hd hc d (.cons rfl r) j
theorem ylp {pins:List (Addr × Obj)} {σ:St} {H:Hp} {s:Shared} {Q:VK} {us:List Value} {vs:List V} (M:Mk X.K C f) (F:wc X.prog X.w X.K X.mg X.base (CXe X.prog X.w) k f fd ps sp) (hr:jb (k+1) X.A) (hb:ux X.K fd ps ds) (hd:wt dvs ds)
  (hc:ygp X Ex) (I:Inv X pins σ H s) (r:wt vs us)
  (h:∀ x dx,H x=none->H dx=none->dx≠x->sp (.ref x :: (vs++dvs)) (upd (upd H dx (.own x)) x (.ins C dx [])) (fun v H2=>v=.non/\Q (.ref x) H2) (Ex σ)) :
  wpAny (model X.prog X.w) X.A (call (.ref C) us) (EP X pins σ Q) X.xe s:=by
 have d:=h (s.heap.objs.size+1) s.heap.objs.size (I.hok.fresh (Nat.le_succ _)) (I.hok.fresh (Nat.le_refl _)) (Nat.ne_of_lt (Nat.lt_succ_self _))
 have b:=Inv.made (C:=C) I
 have c:wt (V.ref (s.heap.objs.size+1) :: (vs++dvs)) (Value.ref (s.heap.objs.size+1) :: (us++ds)):=.cons rfl (r.append hd)
 have n:(Value.ref (s.heap.objs.size+1) :: us++ds).length=ps.length:=by
  have e:=c.length
  rw [F.len _ _ _ _ d] at e
  exact e.symm
 refine wpAny_call (yio (f:=f) I.kIn M.makes M.init (beq_iff_eq.mp M.fn) (codeAny_mono (F.run _ X.stack _ _ ⟨Value.ref (s.heap.objs.size+1) :: us,[]⟩ (Value.ref (s.heap.objs.size+1) :: (us++ds)) _ _ (Ex σ) (hr.make C us [])
  (b.env0.make C us []) (hb _ (Value.ref (s.heap.objs.size+1) :: us) b.kIn n) c d) fun r o a=>?_))
 cases r with
 | error e=>exact b.came hc a
 | ok fl =>
  cases fl with
  | ret u =>
   obtain ⟨v,j,g,m,i,l⟩:=b.after a
   subst i
   exact ⟨m,⟨V.ref (s.heap.objs.size+1),j,g,rfl,l⟩⟩
  | next=>exact False.elim a
  | brk=>exact False.elim a
  | cont=>exact False.elim a
theorem u7 (M:Mk X.K C f) (F:wc X.prog X.w X.K X.mg X.base (CXe X.prog X.w) k f fd ps sp) (hr:jb (k+1) X.A) (hg:Gl X x) (hm:X.mg x=some (.ref C)) (hb:ux X.K fd ps ds) (hd:wt dvs ds) (hc:ygp X Ex)
  (ha:PA X (e :: es) t) (hdb:(x == ("__debug__":Str))=false:=by decide) (he:starEach (e :: es) X.env=(false,eval e X.env) :: starEach es X.env:=by rfl) (hpl:(backTo pos (starEach es X.env)).any (·.1)=false:=by rfl) :
  PE X (.Call (.Name x p) (e :: es) [] pos) (ysd C sp dvs Ex t):=by
 intro a s σ H Q I h
 refine wpAny_Call_Name_kw (jn I hg hm ?_ hdb)
 refine W.callWith_K (h₀:=X.base) I.ok.mod.kin M.kp (thn (ha pos a s σ H _ I h) fun i g ⟨d,c,b,r,q⟩=>⟨b.kIn,?_⟩) he hpl
 exact ylp M F hr hb hd hc b r q
end
theorem PS.nox {X:Cx} {st:Stmt} {t:TS} (h:PS X.nox st t):PS X st t:=fun a s σ H D I b =>
 wpAny_mono (h a s σ H D (I.wish _) b) (fun _ _ q=>q.unwish) fun _ _ z=>False.elim z
section
variable {P:Program} {w:World} {K:W.Frag} {mg:Str->Option Value} {base:Heap}
theorem wj {X:Cx}:ygp X (fun _ _ _ _=>False):=fun _ _ _ _ _ _ _ _ _ _ _ q=>q.elim
theorem Fun.okE {x qual:Str} {st:Stmt} {f:Addr} {fd:FuncData} {N ps:List Str} {k:Nat} {sp:Sp} (F:Fun K x qual st f fd) (S:yk N ps (yg st)) (len:∀ vs H Q E,sp vs H Q E->vs.length=ps.length)
  (hbody:∀ (cdv:Value) (A:Around) (outer:List Env) (s:Shared) (H:Hp) (vs:List V) (Q:VK) (E:XK),jb k (A.deeper (envOfC qual (yg st) s.heap.objs.size f cdv))->sp vs H Q E ->
   ∃ t,PSs (vz (CXe P w) P w K mg base N qual (yg st) f cdv A outer s H E) (wq st) t/\t { nx:=fun _ H'=>Q .non H',rt:=Q } (ybi N vs) H):wc P w K mg base (CXe P w) (k+1) f fd ps sp:=by
 obtain ⟨l,h,kV,d,j,m,cdv,i,e,rfl,c,a⟩:=F.ex
 exact yw3 c a S len fun A outer s H vs Q E g b=>hbody cdv A outer s H vs Q E g b
end
abbrev bmV:List Value:=[.type "ValueError",.type "Exception",.type "BaseException",.type "object"]
abbrev XMk (K:W.Frag) (C:Addr):Prop:=W.excIn K C bmV "ValueError.__new__"=true
theorem ys5 {K:W.Frag} {h:Heap} {C:Addr} {bmB:List Value} {newId:String} (X:K.In h) (q:W.excIn K C bmB newId=true) :
  ∃ bm N nm qn bs hdct sn sub ab col dd k0 k1 k2 k3 k5 mN,h.get? C=some (excClassObj nm qn C N bs bm hdct sn sub ab col dd k0 k1 k2 k3 k5 newId)/\h.Ns N mN/\mN "__init__"=none/\OwnTail h bmB bm:=by
 unfold W.excIn at q
 split at q
 ·rename_i dd cd sl ho
  split at q
  ·rename_i C' bm k0 k1 k2 k3 n k5 hm d
   simp only [Bool.and_eq_true,beq_iff_eq,Bool.not_eq_true'] at q
   obtain ⟨⟨⟨⟨⟨rfl,rfl⟩,a⟩,j⟩,b⟩,c⟩:=q
   obtain ⟨nm,bs,i,e,qn,g,sn,sub,ab,col,f⟩:=cd
   dsimp only at hm a b c
   subst hm a
   obtain ⟨l⟩:=sl
   have d:l=[k0,k1,k2,k3,some (.builtin n),k5]:=d
   subst d
   exact ⟨bm,e,nm,qn,bs,g,sn,sub,ab,col,dd,k0,k1,k2,k3,k5,_,X _ _ ho,.of_isNs (W.isNs_of_in X b),W.nsMap_none_of_in X b c,W.tail_of_in X j⟩
  ·cases q
 ·cases q
def yrx (E:XK) (C:Addr) (t:TA):TS:=fun _ σ H=>t σ H fun vs H1=>vs.length <= sizeLine/\E (.ref C) none H1
theorem wy {P:Program} {w:World} {K:W.Frag} {mg:Str->Option Value} {base:Heap} {N:List Str} {qual:Str} {scope:Scope} {f:Addr} {cd:Value} {A:Around} {outer:List Env} {s:Shared} {H:Hp} {E:XK}
  {C:Addr} {x:Str} {np cpos pos:Pos} {e₀:Expr} {ybb:List Expr} {t:TA} (hg:Gl (vz (CXe P w) P w K mg base N qual scope f cd A outer s H E) x) (hm:mg x=some (.ref C)) (hC:XMk K C)
  (ha:PA (vz (CXe P w) P w K mg base N qual scope f cd A outer s H E) (e₀ :: ybb) t)
  (he:starEach (e₀ :: ybb) (envOfC qual scope s.heap.objs.size f cd)=(false,eval e₀ (envOfC qual scope s.heap.objs.size f cd)) :: starEach ybb (envOfC qual scope s.heap.objs.size f cd):=by rfl)
  (hplain:(backTo cpos (starEach ybb (envOfC qual scope s.heap.objs.size f cd))).any (·.1)=false:=by rfl) (hdb:(x == ("__debug__":Str))=false:=by decide) :
  PS (vz (CXe P w) P w K mg base N qual scope f cd A outer s H E) (.Raise (some (.Call (.Name x np) (e₀ :: ybb) [] cpos)) none pos) (yrx E C t):=by
 intro a p σ j D I h
 obtain ⟨k,l,nm,q,bs,hdct,sn,sub,ab,col,dd,k0,k1,k2,k3,k5,mN,d,n,g,T⟩:=ys5 I.mod.kin hC
 refine wpAny_Raise_call_subT (C:=C) (nm:=nm) (q:=q) (N:=l) (bs:=bs) (bm:=k) (hdct:=hdct) (sn:=sn) (sub:=sub) (ab:=ab) (col:=col) (dd:=dd) (k0:=k0) (k1:=k1) (k2:=k2) (k3:=k3) (k5:=k5)
  F.excBase_ValueError (mN:=mN) (T.hasType F.excBase_ValueError.hasBase) (I.ok.hd rfl) (by
   show (backTo cpos (starEach (e₀ :: ybb) (envOfC qual scope s.heap.objs.size f cd))).any (·.1)=false
   rw [he]; show (false || (backTo cpos (starEach ybb (envOfC qual scope s.heap.objs.size f cd))).any (·.1))=false; rw [hplain]; rfl) g (jn I hg hm ⟨rfl,?_⟩ hdb)
 have i:=ha cpos a p σ j _ I h
 have c:starEach (e₀ :: ybb) (vz (CXe P w) P w K mg base N qual scope f cd A outer s H E).env=(false,eval e₀ (vz (CXe P w) P w K mg base N qual scope f cd A outer s H E).env) :: starEach ybb (vz (CXe P w) P w K mg base N qual scope f cd A outer s H E).env:=he
 rw [c] at i ⊢
 refine Calls.evalArgs_plain (wpAny_mono i (by rintro z s₂ ⟨G,v,b,r,u,o⟩; exact ⟨rfl,by rw [<- r.length]; exact u,b.bk _ _ d,n.keeps b.bk,T.keeps b.bk,fun B y m=>ypa b m o⟩) fun _ _ y=>y)
end L2
namespace L2
open PySem PySem.Spec PyProof.Rows
section
variable {X:Cx} {pins:List (Addr × Obj)} {σ:St} {H:Hp} {s:Shared} {x T:Addr}
abbrev Cx.pnd (X:Cx) (pn:List (Addr × Obj)):Cx:={ X with pn:=pn }
def XT (Y:Cx) (Ex:St->XK) (e:Value) (s':Shared):Prop:=∃ pins σ H x T C,e=.ref x/\Inv Y pins σ H s'/\Fy Y pins H x/\Fy Y pins H T/\Trd s'.heap x T C .none/\Ex σ C none H
abbrev Cx.tr (X:Cx) (pn:List (Addr × Obj)) (Ex:St->XK):Cx:=(X.pnd pn).wish (XT (X.pnd pn) Ex)
end
def ye7.un (D:ye7) (i:Nat):ye7:=⟨fun σ H=>D.nx (σ.set i none) H,D.rt,fun σ H=>D.bk (σ.set i none) H,fun σ H=>D.ct (σ.set i none) H⟩
section
variable {X:Cx} {body suite:List Stmt} {b₀:Stmt} {tx n:Str} {np hpos pos:Pos} {D:Addr} {i:Nat} {tb:(St->XK)->TS} {ts:TS}
end
section
variable {σ:St} {H:Hp} {Q:VK} {tr:TA} {ta:TE} {nx:St->Hp->Prop} {rt:VK} {bk ct:St->Hp->Prop} {ts:TS}
theorem yu2 {sp:Sp} {dvs:List V} {Ex:St->XK} (h:tr σ H fun vs H1=>sp (vs++dvs) H1 Q (Ex σ)):yr9 sp dvs Ex tr σ H Q:=h
theorem yez {C:Addr} {m:Str} {sp:Sp} {dvs:List V} {Ex:St->XK} (h:ta σ H fun x H1=>∃ a dx fs,x=.ref a/\H1 a=some (.ins C dx fs)/\fs.lookup m=none/\tr σ H1 fun vs H2=>sp (x :: (vs++dvs)) H2 Q (Ex σ)):ygh C m sp dvs Ex ta tr σ H Q:=h
theorem yuo {C:Addr} {sp:Sp} {dvs:List V} {Ex:St->XK} (h:tr σ H fun vs H1=>∀ x dx,H1 x=none->H1 dx=none->dx≠x->sp (.ref x :: (vs++dvs)) (upd (upd H1 dx (.own x)) x (.ins C dx [])) (fun v H2=>v=.non/\Q (.ref x) H2) (Ex σ)):ysd C sp dvs Ex tr σ H Q:=h
theorem yva {E:XK} {C:Addr} {D:ye7} (h:tr σ H fun vs H1=>vs.length <= sizeLine/\E (.ref C) none H1):yrx E C tr D σ H:=h
end
end L2
namespace L2
open PySem PySem.Spec PyProof.Rows
section
variable {κ:Type} [DecidableEq κ]
def zd (kvs:List (κ × V)) (k:κ):Option V:=(kvs.find? fun kv=>decide (kv.1=k)).map (·.2)
def ybw (kvs:List (κ × V)) (k:κ) (v:V):List (κ × V) :=
 if (kvs.any fun kv=>decide (kv.1=k))=true then kvs.map (fun kv=>if kv.1=k then (kv.1,v) else kv) else kvs++[(k,v)]
def ybj (kvs:List (κ × V)) (k:κ):List (κ × V):=kvs.filter fun kv=>decide (kv.1≠k)
theorem xw {p:κ × V} {r:List (κ × V)} {k:κ} (e:p.1=k):zd (p :: r) k=some p.2:=by simp [zd,List.find?_cons,e]
theorem xu {p:κ × V} {r:List (κ × V)} {k:κ} (e:¬ p.1=k):zd (p :: r) k=zd r k:=by simp [zd,List.find?_cons,e]
theorem zy (k:κ):∀ kvs:List (κ × V),(kvs.any fun kv=>decide (kv.1=k))=(zd kvs k).isSome
 | []=>rfl
 | p :: r=>by
  rw [List.any_cons]
  by_cases e:p.1=k
  ·simp only [xw e,decide_eq_true e,Bool.true_or,Option.isSome_some]
  ·rw [xu e,decide_eq_false e,Bool.false_or]; exact zy k r
theorem yir (k j:κ) (y:V):∀ kvs:List (κ × V),zd (kvs.map fun kv=>if kv.1=k then (kv.1,y) else kv) j=(zd kvs j).map fun x=>if j=k then y else x
 | []=>rfl
 | p :: r=>by
  have a:=yir k j y r
  rw [List.map_cons]
  by_cases h:p.1=k
  ·rw [if_pos h]
   by_cases e:p.1=j
   ·rw [xw (p:=(p.1,y)) e,xw e,Option.map_some,if_pos (e.symm.trans h)]
   ·rw [xu (p:=(p.1,y)) e,xu e,a]
  ·rw [if_neg h]
   by_cases e:p.1=j
   ·rw [xw (p:=p) e,xw e,Option.map_some,if_neg (fun z=>h (e.trans z))]
   ·rw [xu (p:=p) e,xu e,a]
theorem yf3 (k j:κ) (y:V):∀ kvs:List (κ × V),zd kvs k=none->zd (kvs++[(k,y)]) j=if j=k then some y else zd kvs j
 | [],_=>by
  by_cases e:k=j
  ·rw [if_pos e.symm]; exact xw (p:=(k,y)) e
  ·rw [if_neg (fun z=>e z.symm)]; exact xu (p:=(k,y)) e
 | p :: r,hn=>by
  rw [List.cons_append]
  have a:¬ p.1=k:=fun z=>by rw [xw z] at hn; cases hn
  rw [xu a] at hn
  have b:=yf3 k j y r hn
  by_cases e:p.1=j
  ·rw [xw e,xw e,if_neg (fun z=>a (e.trans z))]
  ·rw [xu e,xu e,b]
theorem yad (kvs:List (κ × V)) (k j:κ) (y:V):zd (ybw kvs k y) j=if j=k then some y else zd kvs j:=by
 unfold ybw
 by_cases a:(kvs.any fun c=>decide (c.1=k))=true
 ·rw [if_pos a,yir]
  rw [zy] at a
  by_cases e:j=k
  ·obtain ⟨x,b⟩:=Option.isSome_iff_exists.mp a
   rw [if_pos e,e,b,Option.map_some,if_pos rfl]
  ·rw [if_neg e]
   cases zd kvs j with
   | none=>rfl
   | some x=>rw [Option.map_some,if_neg e]
 ·rw [if_neg a]
  refine yf3 k j y kvs ?_
  rw [zy] at a
  cases q:zd kvs k with
  | none=>rfl
  | some x=>rw [q] at a; exact (a rfl).elim
theorem ycg (kvs:List (κ × V)) (k:κ) (v:V):(ybw kvs k v).length <= kvs.length+1:=by
 unfold ybw
 split
 ·rw [List.length_map]; omega
 ·rw [List.length_append,List.length_cons,List.length_nil]; omega
theorem ybr {kvs:List (κ × V)} {k:κ} (v:V) (h:zd kvs k=none):ybw kvs k v=kvs++[(k,v)]:=by
 unfold ybw
 rw [zy,h]
 exact if_neg (by decide)
theorem ygq.isSome_eq {o:Option V} {u:Option Value} (r:ygq o u):o.isSome=u.isSome:=by
 cases o with
 | none=>cases u with
  | none=>rfl
  | some _=>exact (show False from r).elim
 | some _=>cases u with
  | none=>exact (show False from r).elim
  | some _=>rfl
theorem KV.val {kvs:List (κ × V)} {vs:List (κ × Value)} (r:KV kvs vs) (k:κ):ygq (zd kvs k) (valueAt vs k):=by
 unfold KV at r
 induction r with
 | nil=>exact True.intro
 | @cons p q ps qs h t ih =>
  obtain ⟨c,d⟩:=h
  by_cases e:p.1=k
  ·have a:q.1=k:=c.symm.trans e
   have b:valueAt (q :: qs) k=some q.2:=by simp [valueAt,List.find?_cons,a]
   rw [xw e,b]; exact d
  ·have a:¬ q.1=k:=fun z=>e (c.trans z)
   have b:valueAt (q :: qs) k=valueAt qs k:=by simp [valueAt,List.find?_cons,a]
   rw [xu e,b]; exact ih
theorem KV.any {kvs:List (κ × V)} {vs:List (κ × Value)} (r:KV kvs vs) (k:κ):(kvs.any fun kv=>decide (kv.1=k))=vs.any fun kv=>decide (kv.1=k):=by
 unfold KV at r
 induction r with
 | nil=>rfl
 | cons h t ih=>rw [List.any_cons,List.any_cons,ih,h.1]
theorem KV.repl {kvs:List (κ × V)} {vs:List (κ × Value)} (r:KV kvs vs) (k:κ) {y:V} {u:Value} (ry:xl y u) :
  KV (kvs.map fun kv=>if kv.1=k then (kv.1,y) else kv) (vs.map fun kv=>if kv.1=k then (kv.1,u) else kv):=by
 unfold KV at r ⊢
 induction r with
 | nil=>exact .nil
 | @cons p q ps qs h t ih =>
  rw [List.map_cons,List.map_cons]
  refine .cons ?_ ih
  obtain ⟨a,b⟩:=h
  by_cases e:p.1=k
  ·rw [if_pos e,if_pos (a.symm.trans e)]; exact ⟨a,ry⟩
  ·rw [if_neg e,if_neg (fun z=>e (a.trans z))]; exact ⟨a,b⟩
theorem KV.put {kvs:List (κ × V)} {vs:List (κ × Value)} (r:KV kvs vs) (k:κ) {y:V} {u:Value} (ry:xl y u):KV (ybw kvs k y) (stored vs k u):=by
 unfold ybw stored
 rw [r.any k]
 by_cases e:(vs.any fun a=>decide (a.1=k))=true
 ·rw [if_pos e,if_pos e]; exact r.repl k ry
 ·rw [if_neg e,if_neg e]; exact Paired.snoc r ⟨rfl,ry⟩
theorem KV.drop {kvs:List (κ × V)} {vs:List (κ × Value)} (r:KV kvs vs) (k:κ):KV (ybj kvs k) (without vs k):=by
 unfold KV at r ⊢
 unfold ybj without
 induction r with
 | nil=>exact .nil
 | @cons p q ps qs h t ih =>
  obtain ⟨c,f⟩:=h
  rw [List.filter_cons,List.filter_cons]
  by_cases e:p.1=k
  ·have a:¬ decide (p.1≠k)=true:=by simp [e]
   have b:¬ decide (q.1≠k)=true:=by simp [c.symm.trans e]
   rw [if_neg a,if_neg b]; exact ih
  ·have d:¬ q.1=k:=fun z=>e (c.trans z)
   have a:decide (p.1≠k)=true:=by simp [e]
   have b:decide (q.1≠k)=true:=by simp [d]
   rw [if_pos a,if_pos b]; exact .cons ⟨c,f⟩ ih
theorem KV.length {kvs:List (κ × V)} {vs:List (κ × Value)} (r:KV kvs vs):kvs.length=vs.length:=Paired.length r
theorem you (kvs:List (κ × V)) (k:κ):(ybj kvs k).length <= kvs.length:=List.length_filter_le _ _
end
theorem yky {P:Program} {w:World} {k:Key} {u:Value} (r:xl (kV k) u):(wl P w).is k u=true:=by
 cases k with
 | inl i=>obtain ⟨t,e⟩:=(show ∃ t,u=Value.int i t from r); subst e; exact yhf P w i t
 | inr x=>obtain ⟨t,e⟩:=(show ∃ t,u=Value.str x t from r); subst e; exact yg8 P w x t
theorem yfy {P:Program} {w:World}:∀ {ks:List Key} {us:List Value},wt (ks.map kV) us->ItemsAre (wl P w) ks us
 | [],_,r=>by rw [List.map_nil] at r; cases r; exact .nil
 | k :: ks,_,r=>by
  rw [List.map_cons] at r
  cases r with
  | cons h t=>exact .cons (yky h) (yfy t)
abbrev KT (H:Hp):List (List Key × V)->List (List Key × Addr × Value)->Prop:=Paired fun p q=>p.1=q.1/\H q.2.1=some (.tup (p.1.map kV))/\xl p.2 q.2.2
theorem KT.val {H:Hp} {kvs:List (List Key × V)} {xs:List (List Key × Addr × Value)} (r:KT H kvs xs) (k:List Key):ygq (zd kvs k) ((atKey xs k).map (·.2)):=by
 induction r with
 | nil=>exact True.intro
 | @cons p q ps qs h t ih =>
  obtain ⟨c,_,d⟩:=h
  by_cases e:p.1=k
  ·have a:q.1=k:=c.symm.trans e
   have b:atKey (q :: qs) k=some q.2:=by simp [atKey,List.find?_cons,a]
   rw [xw e,b]; exact d
  ·have a:¬ q.1=k:=fun z=>e (c.trans z)
   have b:atKey (q :: qs) k=atKey qs k:=by simp [atKey,List.find?_cons,a]
   rw [xu e,b]; exact ih
theorem KT.repl {H:Hp} {kvs:List (List Key × V)} {xs:List (List Key × Addr × Value)} (r:KT H kvs xs) (k:List Key) {y:V} {u:Value} (ry:xl y u) :
  KT H (kvs.map fun kv=>if kv.1=k then (kv.1,y) else kv) (xs.map (putAt k u)):=by
 induction r with
 | nil=>exact .nil
 | @cons p q ps qs h t ih =>
  rw [List.map_cons,List.map_cons]
  refine .cons ?_ ih
  obtain ⟨a,b,c⟩:=h
  unfold putAt
  by_cases e:p.1=k
  ·rw [if_pos e,if_pos (a.symm.trans e)]; exact ⟨a,b,ry⟩
  ·rw [if_neg e,if_neg (fun z=>e (a.trans z))]; exact ⟨a,b,c⟩
theorem KT.put {H:Hp} {kvs:List (List Key × V)} {xs:List (List Key × Addr × Value)} (r:KT H kvs xs) (k:List Key) {b:Addr} {y:V} {u:Value} (hb:H b=some (.tup (k.map kV))) (ry:xl y u) :
  KT H (ybw kvs k y) (storedH xs k b u):=by
 have e:(kvs.any fun a=>decide (a.1=k))=(atKey xs k).isSome:=by
  rw [zy,(r.val k).isSome_eq,Option.isSome_map]
 unfold ybw storedH
 rw [e]
 by_cases q:(atKey xs k).isSome=true
 ·rw [if_pos q,if_pos q]; exact r.repl k ry
 ·rw [if_neg q,if_neg q]; exact Paired.snoc r ⟨rfl,hb,ry⟩
theorem KT.keeps {H H':Hp} {kvs:List (List Key × V)} {xs:List (List Key × Addr × Value)} (r:KT H kvs xs) (ht:∀ b ys,H b=some (.tup ys)->H' b=some (.tup ys)):KT H' kvs xs :=
 Paired.mapP r fun _ _ z=>⟨z.1,ht _ _ z.2.1,z.2.2⟩
section
variable {P:Program} {w:World} {H:Hp} {h:Heap} {a:Addr}
theorem vdf {u:HO} (ok:HOk P w H h) (e:Rd H a u):xk P w H h a u:=e.ok ok
theorem yh8 {kvs:List (Key × V)} (ok:HOk P w H h) (e:Rd H a (.dK kvs)):kvs.length <= sizeLine/\(a == sysModules)=false/\∃ vs,KV kvs vs/\h.DictOf (wl P w) a vs :=
 show xk P w H h a (.dK kvs) from vdf ok e
theorem vdk {kvs:List (Key × V)} (ok:HOk P w H h) (e:H a=some (.dK kvs)):kvs.length <= sizeLine/\(a == sysModules)=false/\∃ vs,KV kvs vs/\h.DictOf (wl P w) a vs:=yh8 ok (.inl e)
theorem ygj {ks:List Key} (ok:HOk P w H h) (e:H a=some (.tup (ks.map kV))):(tupleKind (wl P w)).is h ks a:=by
 obtain ⟨_,b,r,o,c,f,n,d⟩:=(show xk P w H h a (.tup (ks.map kV)) from ok a _ e)
 exact ⟨o,b.toArray,n,c,f,d,by simpa using yfy r⟩
theorem yk0 {kvs:List (List Key × V)} (ok:HOk P w H h) (e:Rd H a (.dT kvs)):kvs.length <= sizeLine/\(a == sysModules)=false /\
  ∃ xs,KT H kvs xs/\h.DictOfH (tupleKind (wl P w)) a xs:=by
 obtain ⟨z,y,xs,r,o,d,j,f,n,i,k,g⟩:=(show xk P w H h a (.dT kvs) from vdf ok e)
 refine ⟨z,y,xs,r,o,d,j,f,n,i,k,fun x b=>?_,g⟩
 have c:∀ {l:List (List Key × V)} {m:List (List Key × Addr × Value)},KT H l m->∀ x∈m,(tupleKind (wl P w)).is h x.1 x.2.1:=by
  intro l m q
  induction q with
  | nil=>intro x b; exact nomatch b
  | @cons p q ps qs hq t ih =>
   intro x b
   rcases List.mem_cons.mp b with e | b
   ·subst e
    exact ygj ok (by rw [<- hq.1]; exact hq.2.1)
   ·exact ih x b
 exact c r x b
theorem vfh {kvs:List (List Key × V)} (ok:HOk P w H h) (e:H a=some (.dT kvs)):kvs.length <= sizeLine/\(a == sysModules)=false /\
  ∃ xs,KT H kvs xs/\h.DictOfH (tupleKind (wl P w)) a xs:=yk0 ok (.inl e)
end
def ybo (H:Hp) (a:Addr) (y:V) (r:Option V):Prop :=
 (∃ kvs k,Rd H a (.dK kvs)/\y=kV k/\r=zd kvs k)\/∃ kvs k b,Rd H a (.dT kvs)/\y=.ref b/\H b=some (.tup (k.map kV))/\r=zd kvs k
def yok (H:Hp) (a:Addr) (y v:V) (H':Hp):Prop :=
 (∃ kvs k,H a=some (.dK kvs)/\y=kV k/\kvs.length < sizeLine/\H'=upd H a (.dK (ybw kvs k v))) \/
 ∃ kvs k b,H a=some (.dT kvs)/\y=.ref b/\H b=some (.tup (k.map kV))/\kvs.length < sizeLine/\H'=upd H a (.dT (ybw kvs k v))
theorem ybo.k {H:Hp} {a:Addr} {kvs:List (Key × V)} {k:Key} (e:H a=some (.dK kvs)):ybo H a (kV k) (zd kvs k):=.inl ⟨kvs,k,.inl e,rfl,rfl⟩
theorem ybo.t {H:Hp} {a b:Addr} {kvs:List (List Key × V)} {k:List Key} (e:H a=some (.dT kvs)) (eb:H b=some (.tup (k.map kV))):ybo H a (.ref b) (zd kvs k):=.inr ⟨kvs,k,b,.inl e,rfl,eb,rfl⟩
theorem yok.k {H:Hp} {a:Addr} {kvs:List (Key × V)} {k:Key} {v:V} (e:H a=some (.dK kvs)) (hl:kvs.length < sizeLine):yok H a (kV k) v (upd H a (.dK (ybw kvs k v))):=.inl ⟨kvs,k,e,rfl,hl,rfl⟩
theorem yok.t {H:Hp} {a b:Addr} {kvs:List (List Key × V)} {k:List Key} {v:V} (e:H a=some (.dT kvs)) (eb:H b=some (.tup (k.map kV))) (hl:kvs.length < sizeLine) :
  yok H a (.ref b) v (upd H a (.dT (ybw kvs k v))):=.inr ⟨kvs,k,b,e,rfl,eb,hl,rfl⟩
section
variable {X:Cx} {pins:List (Addr × Obj)} {σ:St} {H:Hp} {s:Shared} {a:Addr} {y v:V} {u r:Value} {o:Option V} {A:Around} {E:Value->Shared->Prop}
theorem Inv.big (I:Inv X pins σ H s):sysModules < s.heap.objs.size:=by
 have h:mainGlobals < s.heap.objs.size:=(I.mod.glob.keeps I.bk).lt
 exact Nat.lt_trans (by decide) h
theorem yl3 {Q:Value->Shared->Prop} (hu:A.units+1 < cLine) (I:Inv X pins σ H s) (g:ybo H a y (some v)) (ry:xl y u) (h:∀ w' s',Inv X pins σ H s'->xl v w'->Q w' s') :
  wpAny (model X.prog X.w) A (getItem (.ref a) u) Q E s:=by
 rcases g with ⟨f,k,e,m,l⟩ | ⟨f,k,b,e,m,B,l⟩
 ·subst m
  obtain ⟨z,x,t,d,j⟩:=yh8 I.hok e
  obtain ⟨w',n,c⟩:=ygq.some_of (v:=v) (o:=valueAt t k) (by rw [l]; exact d.val k)
  exact wpAny_getItem_of (yky ry) j.mapOf n (h w' _ (I.tok _) c)
 ·subst m
  cases (show u=Value.ref b from ry)
  obtain ⟨z,x,q,d,j⟩:=yk0 I.hok e
  obtain ⟨w',n,c⟩:=ygq.some_of (v:=v) (o:=(atKey q k).map (·.2)) (by rw [l]; exact d.val k)
  obtain ⟨p,r,i⟩:=Option.map_eq_some_iff.mp n
  refine wpAny_getItem_heap (tupleKind_room_in1 hu) (ygj I.hok B) j r ?_
  rw [i]
  exact h w' _ (I.tok _) c
theorem vgz {Q:Value->Shared->Prop} (hu:A.units+1 < cLine) (I:Inv X pins σ H s) (g:ybo H a y o) (ry:xl y u) (h:∀ s',Inv X pins σ H s'->Q (.bool o.isSome) s') :
  wpAny (model X.prog X.w) A (compareOp .In u (.ref a)) Q E s:=by
 rcases g with ⟨d,k,e,j,l⟩ | ⟨d,k,b,e,j,m,l⟩
 ·subst j
  obtain ⟨z,i,p,c,f⟩:=yh8 I.hok e
  refine wpAny_in_of (yky ry) i f.mapOf ?_
  rw [<- (c.val k).isSome_eq,<- l]
  exact h _ (I.tok _)
 ·subst j
  cases (show u=Value.ref b from ry)
  obtain ⟨z,i,n,c,f⟩:=yk0 I.hok e
  refine wpAny_in_heap (tupleKind_room_in1 hu) (ygj I.hok m) i f ?_
  have q:=(c.val k).isSome_eq
  rw [Option.isSome_map] at q
  rw [<- q,<- l]
  exact h _ (I.tok _)
theorem yty {Q:Value->Shared->Prop} (hu:A.units+1 < cLine) (I:Inv X pins σ H s) (g:ybo H a y o) (ry:xl y u) (h:∀ s',Inv X pins σ H s'->Q (.bool (!o.isSome)) s') :
  wpAny (model X.prog X.w) A (compareOp .NotIn u (.ref a)) Q E s:=by
 rcases g with ⟨d,k,e,j,l⟩ | ⟨d,k,b,e,j,m,l⟩
 ·subst j
  obtain ⟨z,i,p,c,f⟩:=yh8 I.hok e
  refine wpAny_notIn_of (yky ry) i f.mapOf ?_
  rw [<- (c.val k).isSome_eq,<- l]
  exact h _ (I.tok _)
 ·subst j
  cases (show u=Value.ref b from ry)
  obtain ⟨z,i,n,c,f⟩:=yk0 I.hok e
  refine wpAny_notIn_heap (tupleKind_room_in1 hu) (ygj I.hok m) i f ?_
  have q:=(c.val k).isSome_eq
  rw [Option.isSome_map] at q
  rw [<- q,<- l]
  exact h _ (I.tok _)
theorem yhw {h':Heap} {t':Nat} {ob:HO} (I:Inv X pins σ H s) (mu:Mut (H a)) (hs:Heap.SameBut a s.heap h') (he:∃ q,h'.get? a=some q) (new:xk X.prog X.w (upd H a ob) h' a ob) :
  Inv X pins σ (upd H a ob) { s with heap:=h',toks:=t' } :=
 I.write (x:=a) (e:=a) mu (.inl rfl) (fun b q c z=>(hs.2 b c).trans z) he new
theorem yq3 {P:Program} {w:World} {H':Hp} {h':Heap} {kvs:List (Key × V)} {vs:List (Key × Value)} (z:kvs.length <= sizeLine) (hd:(a == sysModules)=false) (rel:KV kvs vs) (dd:h'.DictOf (wl P w) a vs) :
  xk P w H' h' a (.dK kvs):=⟨z,hd,vs,rel,dd⟩
theorem ylv {H':Hp} {Q:Unit->Shared->Prop} (hu:A.units+1 < cLine) (I:Inv X pins σ H s) (g:yok H a y v H') (ry:xl y u) (rv:xl v r) (h:∀ s',Inv X pins σ H' s'->Q () s') :
  wpAny (model X.prog X.w) A (setItem (.ref a) u r) Q E s:=by
 rcases g with ⟨d,k,e,n,l,m⟩ | ⟨d,k,b,e,n,C,l,m⟩
 ·subst n m
  obtain ⟨z,x,R,f,t⟩:=vdk I.hok e
  have p:R.length <= sizeLine:=by rw [<- f.length]; exact z
  have o:(ybw d k v).length <= sizeLine:=by have:=ycg d k v; omega
  refine wpAny_setItem_pairs (hsz:=p) (yky ry) t fun F i B=>h _ ?_
  have G:∃ q,F.get? a=some q:=let ⟨q,_,_,j,_⟩:=i; ⟨q,j⟩
  exact yhw I (by rw [e]; exact True.intro) B G (yq3 o x (f.put k rv) i)
 ·subst n m
  cases (show u=Value.ref b from ry)
  obtain ⟨z,x,J,f,t⟩:=vfh I.hok e
  have p:J.length <= sizeLine:=by rw [<- Paired.length f]; exact z
  have o:(ybw d k v).length <= sizeLine:=by have:=ycg d k v; omega
  refine wpAny_setItem_heap (hsz:=p) (tupleKind_room_in1 hu) (ygj I.hok C) t fun F i B=>h _ ?_
  obtain ⟨q,M,K,j,L,O,P,_,N⟩:=i
  refine yhw I (by rw [e]; exact True.intro) B ⟨q,j⟩ ⟨o,x,_,(f.put k C rv).keeps fun c S D=>?_,q,M,K,j,L,O,P,N⟩
  rw [ym (xi D e (fun z=>nomatch z))]
  exact D
end
section
variable {X:Cx} {pins:List (Addr × Obj)} {σ:St} {H:Hp} {s:Shared} {a:Addr} {kvs:List (Key × V)} {k:Key} {u:Value} {A:Around} {E:Value->Shared->Prop}
theorem vfe {v:V} {more:List Value} {Q:Value->Shared->Prop} (I:Inv X pins σ H s) (e:H a=some (.dK kvs)) (ry:xl (kV k) u) (l:zd kvs k=some v) (hm:more=[]\/∃ x,more=[x])
  (h:∀ w' s',Inv X pins σ (upd H a (.dK (ybj kvs k))) s'->xl v w'->Q w' s'):wpAny (model X.prog X.w) A (call (.builtin "dict.pop") (.ref a :: u :: more)) Q E s:=by
 obtain ⟨z,n,g,b,f⟩:=vdk I.hok e
 obtain ⟨w',y,d⟩:=ygq.some_of (v:=v) (o:=valueAt g k) (by rw [<- l]; exact b.val k)
 have j:(keyPart u).isSome=true:=by
  cases k with
  | inl i=>obtain ⟨t,q⟩:=(show ∃ t,u=Value.int i t from ry); subst q; rfl
  | inr x=>obtain ⟨t,q⟩:=(show ∃ t,u=Value.str x t from ry); subst q; rfl
 have r:argsOk "dict.pop" ⟨.ref a :: u :: more,[]⟩:=by
  rcases hm with q | ⟨x,q⟩
  ·subst q; exact PySem.F.args_dict_pop_2 _ _
  ·subst q; exact PySem.F.args_dict_pop_3 _ _ _
 refine call_meetsIn PySem.F.slot_dict_pop f.typeIs PySem.F.entry_dict_pop r (meets_dict_pop_there (wl X.prog X.w) a (yky ry) more hm j)
  ⟨g,w',f,by rw [<- b.length]; exact z,y,fun p c B=>h w' _ ?_ d⟩
 have m:∃ q,p.get? a=some q:=let ⟨q,_,_,hq,_⟩:=c; ⟨q,hq⟩
 exact yhw I (by rw [e]; exact True.intro) B m (yq3 (Nat.le_trans (you kvs k) z) n (b.drop k) c)
theorem vfb {Q:Value->Shared->Prop} (I:Inv X pins σ H s) (e:Rd H a (.dK kvs)) (h:∀ t s',Inv X pins σ H s'->Q (.int kvs.length t) s'):wpAny (model X.prog X.w) A (call (.builtin "len") [.ref a]) Q E s:=by
 obtain ⟨z,c,f,b,d⟩:=yh8 I.hok e
 refine call_len_dict c d (by rw [<- b.length]; rw [sizeLine_eq] at z; omega) ?_
 rw [<- b.length]
 exact h _ _ (I.tok _)
end
def vgb (i:Expr):Prop:=∀ ov iv,subscripted i false ov iv=operate [ov,iv] (getItem ov iv)
theorem yub {prog:Program} {w:World} {A:Around} {E:Value->Shared->Prop} {s:Shared} {env:Env} {value slice:Expr} {pos:Pos} {T id:String} {Q:Value->Shared->Prop}
  (hl:typeLookup (.type T) "__getitem__"=pure (some (.builtin id))) (hs:vgb slice)
  (h:wpAny (model prog w) A (eval value env) (fun o s₁=>wpAny (model prog w) A (eval slice env) (fun i s₂=>s₂.TypeIs o T/\wpAny (model prog w) A (getItem o i) Q E s₂) E s₁) E s) :
  wpAny (model prog w) A (eval (.Subscript value slice pos) env) Q E s:=by
 refine Subscript_ (wpAny_mono h (fun o s₁ h₁=>wpAny_mono h₁ (fun i s₂ h₂=>?_) fun _ _ x=>x) fun _ _ x=>x)
 obtain ⟨b,h₂⟩:=h₂
 unfold subscriptTail
 refine wpAny_bind ?_
 rw [getitemInPython_of_ne b.not_modules]
 refine wpAny_bind (wpAny_specialOf b hl ?_)
 have a:wpAny (model prog w) A (subscripted slice false o i) (fun r s₃=>wpAny (model prog w) A (letTemporaryGo value o r >>= fun _=>pure r) Q E s₃) E s₂:=by
  rw [hs o i]
  exact wpAny_operating (wpAny_mono h₂ (fun r s₃ h₃=>wpAny_bind (wpAny_letTemporaryGo (wpAny_pure h₃))) fun _ _ x=>x)
 first
  | exact wpAny_pure (wpAny_bind a)
  | exact wpAny_bind (wpAny_pure (wpAny_bind a))
  | exact wpAny_bind a
theorem yhb {X:Cx} {pins:List (Addr × Obj)} {σ:St} {H:Hp} {s:Shared} {a:Addr} {y:V} {o:Option V} (I:Inv X pins σ H s) (g:ybo H a y o):s.TypeIs (.ref a) "dict":=by
 rcases g with ⟨d,k,e,_,_⟩ | ⟨d,k,b,e,_,_,_⟩
 ·obtain ⟨_,_,f,_,c⟩:=yh8 I.hok e
  exact c.typeIs
 ·obtain ⟨_,_,h,_,c⟩:=yk0 I.hok e
  exact c.typeIs
def vdr (td ty:TE):TE:=fun σ H Q=>td σ H fun x H1=>ty σ H1 fun y H2=>∃ a v,x=.ref a/\ybo H2 a y (some v)/\Q v H2
def vgj (ty td:TE):TE:=fun σ H Q=>ty σ H fun y H1=>td σ H1 fun x H2=>∃ a o,x=.ref a/\ybo H2 a y o/\Q (.bl o.isSome) H2
def yne (ty td:TE):TE:=fun σ H Q=>ty σ H fun y H1=>td σ H1 fun x H2=>∃ a o,x=.ref a/\ybo H2 a y o/\Q (.bl (!o.isSome)) H2
def vdl (td ty tv:TE):TS:=fun D σ H=>tv σ H fun v H1=>td σ H1 fun x H2=>ty σ H2 fun y H3=>∃ a H4,x=.ref a/\yok H3 a y v H4/\D.nx σ H4
section
variable {X:Cx} {o i e value:Expr} {pos pos' tpos:Pos} {td ty tv:TE}
theorem za (hu:X.A.units+1 < cLine) (ho:PE X o td) (hi:PE X i ty) (hs:vgb i):PE X (.Subscript o i pos) (vdr td ty):=by
 intro b s σ H Q I h
 refine yub PySem.F.slot_dict_getitem.lookup hs (thn (ho b s σ H _ I h) fun u n ⟨x,f,r,p,q⟩=>thn (hi b n σ f _ r q) fun z w h'=>?_)
 obtain ⟨y,e,d,j,a,v,m,g,l⟩:=h'
 subst m
 obtain rfl:u=Value.ref a:=p
 exact ⟨yhb d g,yl3 hu d g j fun t B k c=>⟨v,e,k,c,l⟩⟩
theorem yzn (hu:X.A.units+1 < cLine) (hi:PE X i ty) (ho:PE X o td):PC X .In i o (vgj ty td):=by
 intro b s σ H Q I h
 refine thn (hi b s σ H _ I h) fun v m ⟨y,e,r,f,p⟩=>thn (ho b m σ e _ r p) fun u t h'=>?_
 obtain ⟨x,c,d,n,a,q,l,g,k⟩:=h'
 subst l
 obtain rfl:u=Value.ref a:=n
 exact vgz hu d g f fun w j=>⟨.bl q.isSome,c,j,rfl,k⟩
theorem yfz (hu:X.A.units+1 < cLine) (hi:PE X i ty) (ho:PE X o td):PC X .NotIn i o (yne ty td):=by
 intro b s σ H Q I h
 refine thn (hi b s σ H _ I h) fun v m ⟨y,e,r,f,p⟩=>thn (ho b m σ e _ r p) fun u t h'=>?_
 obtain ⟨x,c,d,n,a,q,l,g,k⟩:=h'
 subst l
 obtain rfl:u=Value.ref a:=n
 exact yty hu d g f fun w j=>⟨.bl (!q.isSome),c,j,rfl,k⟩
theorem yhz (hu:X.A.units+1 < cLine) (ho:PE X o td) (hi:PE X i ty) (hv:PE X value tv) (hs:swapsWith value (some (.Subscript o i pos')) pos.line X.env=pure false) :
  PS X (.Assign [.Subscript o i pos'] value pos) (vdl td ty tv):=by
 intro b s σ H D I h
 refine wpAny_Assign_Subscript (thn (hv b s σ H _ I h) fun r p ⟨v,j,d,n,m⟩=>thn (ho b p σ j _ d m) fun u t ⟨x,e,f,q,C⟩=>thn (hi b t σ e _ f C) fun E F h'=>?_) hs
 obtain ⟨y,J,w,k,a,z,c,g,l⟩:=h'
 subst c
 obtain rfl:u=Value.ref a:=q
 exact ylv hu w g k n fun G B=>⟨σ,z,B,l⟩
end
theorem yo0 {P:Program} {w:World} {H:Hp} (h:Heap) (hb:sysModules < h.objs.size):xk P w H (h.push { cls:=.type "dict",data:=.dict #[] }) h.objs.size (.dK []) :=
 ⟨Nat.zero_le _,beq_eq_false_iff_ne.mpr (Ne.symm (Nat.ne_of_lt hb)),[],.nil,Heap.DictOf.new h⟩
theorem yoq {P:Program} {w:World} {H:Hp} (h:Heap) (hb:sysModules < h.objs.size):xk P w H (h.push { cls:=.type "dict",data:=.dict #[] }) h.objs.size (.dT []) :=
 ⟨Nat.zero_le _,beq_eq_false_iff_ne.mpr (Ne.symm (Nat.ne_of_lt hb)),[],.nil,_,#[],0,Heap.get?_push_size _ rfl,⟨rfl,rfl,rfl⟩,rfl,rfl,List.nodup_nil⟩
def yrb:TE:=fun _ H Q=>∀ p,H p=none->Q (.ref p) (upd H p (.dK []))
def yry:TE:=fun _ H Q=>∀ p,H p=none->Q (.ref p) (upd H p (.dT []))
section
variable {X:Cx} {pos:Pos}
theorem yis:PE X (.Dict [] [] pos) yrb:=fun b s σ H Q I h =>
 wpAny_Dict_empty ⟨.ref s.heap.objs.size,_,I.laid (a:=s.heap.objs.size) (o:=.dK []) (t':=s.toks) (fun _ _ q=>Heap.get?_push_of_some _ q) (Nat.le_refl _) (yo0 s.heap I.big),rfl,h _ (I.hok.fresh (Nat.le_refl _))⟩
theorem yqf:PE X (.Dict [] [] pos) yry:=fun b s σ H Q I h =>
 wpAny_Dict_empty ⟨.ref s.heap.objs.size,_,I.laid (a:=s.heap.objs.size) (o:=.dT []) (t':=s.toks) (fun _ _ q=>Heap.get?_push_of_some _ q) (Nat.le_refl _) (yoq s.heap I.big),rfl,h _ (I.hok.fresh (Nat.le_refl _))⟩
end
structure M1 (X:Cx) (o:Expr) (m:Str) (apos:Pos) (e:Expr) (cpos:Pos):Prop where
 base:attributeBase o m X.env (eval o X.env)=eval o X.env
 few:((backTo cpos (starEach [e] X.env)).all (fun x=>!x.1) && (backToKw cpos (keywordEach [] X.env)).all (fun x=>x.1.isSome)
  && decide (([e]:List Expr).length+([]:List Keyword).length+(if ([]:List Keyword).isEmpty then 0 else 1) < 30))=true
 line:(apos.endLine == cpos.line)=true
 trees:backTo cpos (starEach [e] X.env)=[(false,eval e X.env)]
structure M2 (X:Cx) (o:Expr) (m:Str) (apos:Pos) (e f:Expr) (cpos:Pos):Prop where
 base:attributeBase o m X.env (eval o X.env)=eval o X.env
 few:((backTo cpos (starEach [e,f] X.env)).all (fun x=>!x.1) && (backToKw cpos (keywordEach [] X.env)).all (fun x=>x.1.isSome)
  && decide (([e,f]:List Expr).length+([]:List Keyword).length+(if ([]:List Keyword).isEmpty then 0 else 1) < 30))=true
 line:(apos.endLine == cpos.line)=true
 trees:backTo cpos (starEach [e,f] X.env)=[(false,eval e X.env),(false,eval f X.env)]
def IsD (H:Hp) (a:Addr):Prop:=(∃ kvs,Rd H a (.dK kvs))\/∃ kvs,Rd H a (.dT kvs)
theorem vbn {X:Cx} {pins:List (Addr × Obj)} {σ:St} {H:Hp} {s:Shared} {a:Addr} (I:Inv X pins σ H s) (d:IsD H a) :
  s.TypeIs (.ref a) "dict"/\(∀ b,Value.ref a=.ref b->∃ ob,s.heap.get? b=some ob/\ob.dict=none)/\(a == sysModules)=false:=by
 rcases d with ⟨g,e⟩ | ⟨g,e⟩
 ·obtain ⟨_,f,k,_,c⟩:=yh8 I.hok e
  refine ⟨c.typeIs,fun b q=>?_,f⟩
  cases q
  obtain ⟨ob,_,_,h,i,_⟩:=c
  exact ⟨ob,h,i.2.1⟩
 ·obtain ⟨_,f,j,_,c⟩:=yk0 I.hok e
  refine ⟨c.typeIs,fun b q=>?_,f⟩
  cases q
  obtain ⟨ob,_,_,h,i,_⟩:=c
  exact ⟨ob,h,i.2.1⟩
section
variable {X:Cx} {pins:List (Addr × Obj)} {σ:St} {H:Hp} {s:Shared} {a:Addr} {y d:V} {u r:Value} {o:Option V} {A:Around} {E:Value->Shared->Prop}
end
def yqs (td ty:TE):TE:=fun σ H Q=>td σ H fun x H1=>∃ a,x=.ref a/\IsD H1 a/\ty σ H1 fun y H2=>∃ kvs k v,H2 a=some (.dK kvs)/\y=kV k/\zd kvs k=some v/\Q v (upd H2 a (.dK (ybj kvs k)))
section
variable {X:Cx} {o e f:Expr} {apos cpos:Pos} {td ty tx:TE}
theorem ypk (ho:PE X o td) (he:PE X e ty) (m:M1 X o "pop" apos e cpos):PE X (.Call (.Attribute o "pop" apos) [e] [] cpos) (yqs td ty):=by
 intro b s σ H Q I h
 refine wpAny_Call_method m.base m.few m.line PySem.F.plainAttrs_dict PySem.F.slot_dict_pop PySem.F.type_dict_pop (thn (ho b s σ H _ I h) fun u w h'=>?_)
 obtain ⟨x,q,f,A,a,g,d,t⟩:=h'
 subst g
 obtain rfl:u=Value.ref a:=A
 obtain ⟨D,i,_⟩:=vbn f d
 refine ⟨D,i,?_⟩
 rw [m.trees]
 refine Calls.callWith_builtin rfl (Calls.evalArgs_plain (Calls.spliced_cons (thn (he b w σ q _ f t) fun G L ⟨y,K,p,r,z,k,v,j,n,l,C⟩=>Calls.spliced_nil ?_)))
 subst n
 exact vfe p j r l (.inl rfl) fun E J B c=>⟨v,_,B,c,C⟩
end
section
variable {X:Cx} {pins:List (Addr × Obj)} {σ:St} {H:Hp} {s:Shared} {a:Addr} {kvs:List (Key × V)} {A:Around} {E:Value->Shared->Prop}
end
section
variable {X:Cx} {pins:List (Addr × Obj)} {σ:St} {H:Hp} {s:Shared} {a:Addr} {y:V} {u:Value} {A:Around} {E:Value->Shared->Prop}
end
end L2
namespace L2
open PySem PySem.Spec PyProof.Rows
@[irreducible] def QE (X:Cx) (e:Expr) (t:TE):Prop:=PE X e t
@[irreducible] def QSs (X:Cx) (st:List Stmt) (t:TS):Prop:=PSs X st t
section
variable {X:Cx} {e:Expr} {es:List Expr} {te:TE} {t:TA} {pos:Pos} {ts us:TS} {st:Stmt} {ybb:List Stmt}
end
end L2
namespace L2
open PySem PySem.Spec PyProof.Rows
@[irreducible] def QS (X:Cx) (st:Stmt) (t:TS):Prop:=PS X st t
section
variable {X:Cx} {e:Expr} {te:TE} {pos:Pos} {ts us:TS} {st:Stmt} {ybb:List Stmt}
theorem yo {R:TS->Prop} (h1:PS X st ts) (h2:∃ us,PSs X ybb us/\R (vfo ts us)):∃ t,PSs X (st :: ybb) t/\R t:=let ⟨_,a,b⟩:=h2; ⟨_,yh h1 a,b⟩
end
end L2
namespace L2
open PySem PySem.Spec PyProof.Rows
theorem yeu:∀ {bs:List Bool} {us:List Value},wt (bs.map V.bl) us->us=bs.map Value.bool
 | [],_,.nil=>rfl
 | b :: r,_,.cons a t=>by rw [show _=Value.bool b from a,yeu t]; rfl
theorem ymn (bs:List Bool):((List.range bs.length).all fun i=>(bs[i]?).getD true)=bs.all id:=by
 rw [Bool.eq_iff_iff,List.all_eq_true,List.all_eq_true]
 constructor
 ·intro h b c
  obtain ⟨i,a,rfl⟩:=List.getElem_of_mem c
  have:=h i (List.mem_range.mpr a)
  rw [List.getElem?_eq_getElem a] at this
  exact this
 ·intro h i a
  have a:=List.mem_range.mp a
  rw [List.getElem?_eq_getElem a]
  exact h _ (List.getElem_mem a)
section
variable {X:Cx}
theorem z0 (hc:X.calm=true):yak X (.builtin "all") (fun xs H Q=>∃ p bs,xs=[.ref p]/\SqL X.K H p (List.map V.bl bs)/\Q (.bl (bs.all id)) H):=by
 intro g s σ H xs C Q I r h
 obtain ⟨p,bs,rfl,k,q⟩:=h
 obtain ⟨u,rfl,o⟩:=yc9 r
 cases o
 obtain ⟨m,w,j,D⟩:=I.list k
 obtain rfl:=yeu w
 have c:=j.isList
 have d:p < s.heap.objs.size:=by obtain ⟨_,e,_⟩:=c; exact Heap.lt_size e
 refine call_all_walk (wpAny_pyIter_list c ?_)
 refine ⟨s.heap.objs.size,[s.heap.objs.size,p],[s.heap.objs.size],(bs.map Value.bool).toArray.size,_,_,fun i=>(bs[i]?).getD true,rfl,Walks.list (A:=X.A.in1) (show X.A.handled=none from I.ok.hd hc) _ p (Nat.ne_of_lt d) (bs.map Value.bool).toArray,
  ⟨⟨_,Heap.get?_push_size _ rfl,rfl,rfl⟩,c.push _⟩,fun i v z y B a f=>?_,fun E n l=>?_⟩
 ·have a:(bs.map Value.bool)[i]?=some v:=by simpa using a
  rw [List.getElem?_map] at a
  cases e:bs[i]? with
  | none=>rw [e] at a; cases a
  | some b =>
   dsimp only at f
   rw [e] at a f
   cases a
   exact wpAny_truthy_bool f
 ·have e:((List.range (bs.map Value.bool).toArray.size).all fun i=>(bs[i]?).getD true)=bs.all id:=by
   rw [List.size_toArray,List.length_map]
   exact ymn bs
  rw [e]
  refine ⟨.bl (bs.all id),H,I.kept (t':=n) fun b x e=>l b x (fun t=>?_) (Heap.get?_push_of_some _ e),rfl,q⟩
  rw [List.mem_singleton.mp t] at e
  exact Nat.lt_irrefl _ (Heap.lt_size e)
end
end L2
namespace L2
open PySem PySem.Spec PyProof.Rows
theorem xm {env:Env}:∀ {names:List (Str × NameKind)} {x:Str} {k:NameKind},
  (names.map fun (n,k)=>if (k == NameKind.free && env.scope.kind == .function && env.kindOf n == some .cell) then (n,NameKind.cell) else (n,k)).lookup x=some k->∃ k0,(x,k0)∈names/\(k=k0\/k0=.free)
 | [],_,_,h=>by simp at h
 | (n,k1) :: r,x,k,h=>by
  rw [List.map_cons] at h
  by_cases hx:x=n
  ·subst hx
   refine ⟨k1,.head _,?_⟩
   dsimp only at h
   split at h
   ·rename_i hc
    simp only [Bool.and_eq_true,beq_iff_eq] at hc
    exact .inr hc.1.1
   ·simp [List.lookup] at h
    exact .inl h.symm
  ·have:(x == n)=false:=by simpa using hx
   have a:(r.map fun (n,k)=>if (k == NameKind.free && env.scope.kind == .function && env.kindOf n == some .cell) then (n,NameKind.cell) else (n,k)).lookup x=some k:=by
    dsimp only at h
    split at h <;> simpa [List.lookup,this] using h
   obtain ⟨k0,m,q⟩:=xm a
   exact ⟨k0,.tail _ m,q⟩
def jv (ys:List Str) (env:Env):List (Str × Addr):=ys.map fun y=>(y,(env.cells.lookup y).getD 0)
theorem yev {env:Env}:∀ {ys:List Str} {y:Str} {c:Addr},(jv ys env).lookup y=some c->y∈ys/\c=(env.cells.lookup y).getD 0
 | [],_,_,h=>by simp [jv] at h
 | z :: r,y,c,h=>by
  by_cases hy:y=z
  ·subst hy
   simp [jv,List.lookup] at h
   exact ⟨.head _,h.symm⟩
  ·have a:(y == z)=false:=by simpa using hy
   have b:(jv r env).lookup y=some c:=by simpa [jv,List.lookup,a] using h
   obtain ⟨m,e⟩:=yev b
   exact ⟨.tail _ m,e⟩
theorem yae {env:Env}:∀ {ys:List Str} {y:Str},y∈ys->(jv ys env).lookup y=some ((env.cells.lookup y).getD 0)
 | z :: r,y,h=>by
  by_cases hy:y=z
  ·subst hy
   simp [jv,List.lookup]
  ·have a:(y == z)=false:=by simpa using hy
   have b:y∈r:=by
    rcases List.mem_cons.mp h with q | q
    ·exact absurd q hy
    ·exact q
   have:=yae (env:=env) b
   simpa [jv,List.lookup,a] using this
abbrev Cx.compF (X:Cx) (scope:Scope) (ys:List Str) (C:Addr) (x:Str) (s2:Shared) (H2:Hp) (fp:List Addr):Cx :=
 { X with N:=x :: ys,s₀:=s2,H₀:=H2,env:=compEnvC scope (jv ys X.env) C X.env,outer:=X.stack,ex:=fp,fn:=fun _=>false,pn:=[],xe:=fun _ _=>False }
def ub (J:It) (te:TE) (fr:St) (D:Addr) (R:Hp->Prop) (H1:Hp):Prop:=∃ W:Nat->Nat->Hp->Prop,(∃ m,W 0 m (upd H1 D (.lst []))) /\
 ∀ i m H2,W i m H2->(J.stop i H2/\R H2)\/(J.go i H2/\∀ x H3,J.yld i H2 x H3->te (some x :: fr) H3 fun y H4=>∃ ys,H4 D=some (.lst ys)/\ys.length < sizeLine/\∃ m',m' < m/\W (i+1) m' (upd H4 D (.lst (ys++[y]))))
def w5 (js:List Nat) (σ:St):St:=js.map fun j=>(σ[j]?).getD none
def yn2 (wi:TI) (te:TE) (js:List Nat):TE:=fun σ H Q=>wi σ H fun J H1=>∀ D,H1 D=none->ub J te (w5 js σ) D (fun H2=>Q (.ref D) H2) H1
section
variable {X:Cx} {iter elt:Expr} {x:Str} {px pos:Pos} {scope:Scope} {te:TE} {wi:TI} {pins:List (Addr × Obj)} {σ:St} {ys:List Str} {js:List Nat}
theorem yuv {H:Hp} {Q:VK} (h:wi σ H fun J H1=>∀ D,H1 D=none->ub J te (w5 js σ) D (fun H2=>Q (.ref D) H2) H1):yn2 wi te js σ H Q:=h
theorem ydd {K:W.Frag} {a D:Addr} {xs:List V} {te:TE} {fr:St} {R:Hp->Prop} {H1:Hp} (Pv:Nat->Hp->Prop) (h0:Pv 0 (upd H1 D (.lst []))) (hl:∀ i H,i <= xs.length->Pv i H->SqL K H a xs)
  (hs:∀ i x H,xs[i]?=some x->i < xs.length->Pv i H->te (some x :: fr) H fun y H4=>∃ ys,H4 D=some (.lst ys)/\ys.length < sizeLine/\∃ m',m' < xs.length - i/\cW xs.length Pv (i+1) m' (upd H4 D (.lst (ys++[y]))))
  (hd:∀ H,Pv xs.length H->R H):ub (Itl K a) te fr D R H1:=by
 refine ⟨cW xs.length Pv,⟨xs.length,by simp,Nat.zero_le _,h0⟩,?_⟩
 rintro i m H ⟨rfl,b,p⟩
 have q:=hl i H b p
 by_cases hlt:i < xs.length
 ·refine .inr ⟨⟨xs,xs[i],q,by simp [hlt]⟩,fun x c y=>?_⟩
  obtain ⟨e,y⟩:=y
  subst e
  exact hs i x _ (y xs q) hlt p
 ·have e:i=xs.length:=by omega
  subst e
  exact .inl ⟨⟨xs,q,Nat.le_refl _⟩,hd H p⟩
theorem yhd {lo:Int} {n:Nat} {D:Addr} {te:TE} {fr:St} {R:Hp->Prop} {H1:Hp} (Pv:Nat->Hp->Prop) (h0:Pv 0 (upd H1 D (.lst [])))
  (hs:∀ i H,i < n->Pv i H->te (some (.int (lo+i)) :: fr) H fun y H4=>∃ ys,H4 D=some (.lst ys)/\ys.length < sizeLine/\∃ m',m' < n - i/\cW n Pv (i+1) m' (upd H4 D (.lst (ys++[y]))))
  (hd:∀ H,Pv n H->R H):ub (Itr lo n) te fr D R H1:=by
 refine ⟨cW n Pv,⟨n,by simp,Nat.zero_le _,h0⟩,?_⟩
 rintro i m H ⟨rfl,b,p⟩
 by_cases hlt:i < n
 ·refine .inr ⟨hlt,fun x a y=>?_⟩
  obtain ⟨e,y⟩:=y
  subst e y
  exact hs i _ hlt p
 ·have e:i=n:=by omega
  subst e
  exact .inl ⟨Nat.le_refl _,hd H p⟩
end
end L2
namespace L2
theorem vd {α:Type} {P:α->Prop}:∀ y∈([]:List α),P y:=fun _ h=>nomatch h
theorem all_cons {α:Type} {P:α->Prop} {y:α} {r:List α} (h:P y) (t:∀ z∈r,P z):∀ z∈y :: r,P z:=fun z a=>by
 rcases List.mem_cons.mp a with e | a
 ·exact e ▸ h
 ·exact t z a
end L2
namespace L2
open PySem PySem.Spec PyProof.Rows
section
variable {prog:Program} {w:World} {A:Around} {E:Value->Shared->Prop} {s:Shared}
end
section
variable {X:Cx}
theorem yif:∀ {ns:List Int} {us:List Value},wt (ns.map V.int) us->∃ xs:Array (Int × Tok),us.toArray=intItems xs/\xs.toList.map (·.1)=ns
 | [],_,.nil=>⟨#[],by simp [intItems],rfl⟩
 | n :: r,_,.cons (l₂:=us) a t=>by
  obtain ⟨d,rfl⟩:=a
  obtain ⟨xs,b,c⟩:=yif t
  refine ⟨((n,d) :: xs.toList).toArray,?_,by simp [c]⟩
  have:us=(intItems xs).toList:=by rw [<- b]
  rw [this]
  simp [intItems]
theorem j6 (hc:X.calm=true):yak X (.builtin "sum") (fun vs H Q=>∃ p ns,vs=[.ref p]/\SqL X.K H p (List.map V.int ns)/\Q (.int ns.sum) H):=by
 intro a s σ H t v Q I r h
 obtain ⟨p,ns,rfl,c,q⟩:=h
 obtain ⟨u,rfl,j⟩:=yc9 r
 cases j
 obtain ⟨m,i,f,n⟩:=I.list c
 obtain ⟨e,b,k⟩:=yif i
 have l:s.heap.IsList p (intItems e):=b ▸ f.isList
 refine sum_intListG (I.ok.hd hc) l fun o d t' g=>?_
 rw [preSum_eq,List.take_of_length_le (by simp),k]
 exact ⟨.int ns.sum,H,I.kept (t':=d) g,⟨_,rfl⟩,q⟩
end
end L2
namespace L2
open PySem PySem.Spec PyProof.Rows
section
variable {X:Cx} {e:Expr} {t1 t2:TE}
def yxu (t1 t2:TE):TE:=fun σ H Q=>t1 σ H Q\/t2 σ H Q
theorem yjb (h1:PE X e t1) (h2:PE X e t2):PE X e (yxu t1 t2):=by
 intro a s σ H Q I h
 rcases h with h | h
 ·exact h1 a s σ H Q I h
 ·exact h2 a s σ H Q I h
theorem yi9 {σ:St} {H:Hp} {Q:VK} (h:t1 σ H Q):yxu t1 t2 σ H Q:=.inl h
theorem ydo {σ:St} {H:Hp} {Q:VK} (h:t2 σ H Q):yxu t1 t2 σ H Q:=.inr h
end
theorem ve {H:Hp} {p:Addr} {o:HO} {A:Hp->Prop} (hp:H p=none) (h:∀ H',y0 H H'->H' p=some o->A H'):A (upd H p o):=h _ (vv hp) ya
theorem yw {α:Type} {H:Hp} {p:Addr} {o:HO} {A:Hp->α->Prop} {Q:α} (hp:H p=none) (h:∀ H',y0 H H'->H' p=some o->A H' Q):A (upd H p o) Q:=h _ (vv hp) ya
section
variable {K:W.Frag} {a D:Addr} {xs:List V} {te:TE} {fr:St} {R:Hp->Prop} {H1:Hp}
theorem yf7 (Pv:Nat->Hp->Prop) (h0:Pv 0 (upd H1 D (.lst []))) (hl:∀ i H,i <= xs.length->Pv i H->SqT K H a xs)
  (hs:∀ i x H,xs[i]?=some x->i < xs.length->Pv i H->te (some x :: fr) H fun y H4=>∃ ys,H4 D=some (.lst ys)/\ys.length < sizeLine/\∃ m',m' < xs.length - i/\cW xs.length Pv (i+1) m' (upd H4 D (.lst (ys++[y]))))
  (hd:∀ H,Pv xs.length H->R H):ub (Itt K a) te fr D R H1:=by
 refine ⟨cW xs.length Pv,⟨xs.length,by simp,Nat.zero_le _,h0⟩,?_⟩
 rintro i m H ⟨rfl,b,p⟩
 have q:=hl i H b p
 by_cases hlt:i < xs.length
 ·refine .inr ⟨⟨xs,xs[i],q,by simp [hlt]⟩,fun x c y=>?_⟩
  obtain ⟨e,y⟩:=y
  subst e
  exact hs i x _ (y xs q) hlt p
 ·have e:i=xs.length:=by omega
  subst e
  exact .inl ⟨⟨xs,q,Nat.le_refl _⟩,hd H p⟩
theorem yox (Pv:Nat->Hp->Prop) (h0:Pv 0 (upd H1 D (.lst []))) (hl:∀ i H,i <= xs.length->Pv i H->SqT K H a xs)
  (hs:∀ i x H,xs[i]?=some x->i < xs.length->Pv i H->te [some x] H fun y H4=>∃ ys,H4 D=some (.lst ys)/\ys.length < sizeLine/\∃ m',m' < xs.length - i/\cW xs.length Pv (i+1) m' (upd H4 D (.lst (ys++[y]))))
  (hd:∀ H,Pv xs.length H->R H):yjg (Itt K a) te D R H1:=by
 refine ⟨cW xs.length Pv,⟨xs.length,by simp,Nat.zero_le _,h0⟩,?_⟩
 rintro i m H ⟨rfl,b,p⟩
 have q:=hl i H b p
 by_cases hlt:i < xs.length
 ·refine .inr ⟨⟨xs,xs[i],q,by simp [hlt]⟩,fun x c y=>?_⟩
  obtain ⟨e,y⟩:=y
  subst e
  exact hs i x _ (y xs q) hlt p
 ·have e:i=xs.length:=by omega
  subst e
  exact .inl ⟨⟨xs,q,Nat.le_refl _⟩,hd H p⟩
def Mp (H1:Hp) (D:Addr) (f:Nat->V) (i:Nat) (H:Hp):Prop:=y0 H1 H/\H D=some (.lst ((List.range i).map f))
theorem Mp.zero {f:Nat->V} (hD:H1 D=none):Mp H1 D f 0 (upd H1 D (.lst [])):=⟨vv hD,ya⟩
theorem Mp.step {f:Nat->V} {n i:Nat} {H4:Hp} {y:V} (hD:H1 D=none) (hn:n < sizeLine) (hi:i < n) (S:y0 H1 H4) (h4:H4 D=some (.lst ((List.range i).map f))) (e:y=f i) :
  ∃ ys,H4 D=some (.lst ys)/\ys.length < sizeLine/\∃ m',m' < n - i/\cW n (Mp H1 D f) (i+1) m' (upd H4 D (.lst (ys++[y]))):=by
 refine ua (n:=n) h4 (by rw [List.length_map,List.length_range]; omega) hi ⟨?_,?_⟩
 ·intro b o a
  rw [ym (yd a hD)]
  exact S b o a
 ·rw [ya,List.range_succ,List.map_append,e]
  rfl
theorem ycj {f:Nat->V} {g:V->V} {xs:List V} (h:∀ i x,xs[i]?=some x->f i=g x):(List.range xs.length).map f=xs.map g:=by
 refine List.ext_getElem? fun i=>?_
 rw [List.getElem?_map,List.getElem?_map]
 by_cases hi:i < xs.length
 ·rw [List.getElem?_range hi,List.getElem?_eq_getElem hi]
  show some (f i)=some (g xs[i])
  rw [h i _ (List.getElem?_eq_getElem hi)]
 ·rw [List.getElem?_eq_none (by rw [List.length_range]; omega),List.getElem?_eq_none (by omega)]
  rfl
def ofG (g:V->V) (xs:List V) (i:Nat):V:=((xs[i]?).map g).getD .non
theorem yja {g:V->V} {xs:List V} {i:Nat} {x:V} (h:xs[i]?=some x):ofG g xs i=g x:=by
 unfold ofG
 rw [h]
 rfl
def MpK (H1:Hp) (D:Addr) (f:Nat->V) (n i:Nat):VK:=fun y H4=>∃ ys,H4 D=some (.lst ys)/\ys.length < sizeLine/\∃ m',m' < n - i/\cW n (Mp H1 D f) (i+1) m' (upd H4 D (.lst (ys++[y])))
theorem Mp.done {g:V->V} {i:Nat} {x y:V} {H4:Hp} (hD:H1 D=none) (hn:xs.length < sizeLine) (hx:xs[i]?=some x) (S:y0 H1 H4) (h4:H4 D=some (.lst ((List.range i).map (ofG g xs)))) (e:y=g x):MpK H1 D (ofG g xs) xs.length i y H4:=by
 have a:i < xs.length:=by
  rcases Nat.lt_or_ge i xs.length with q | q
  ·exact q
  ·rw [List.getElem?_eq_none q] at hx; cases hx
 exact Mp.step hD hn a S h4 (e.trans (yja hx).symm)
theorem Mp.doneR {f:Nat->V} {n i:Nat} {y:V} {H4:Hp} (hD:H1 D=none) (hn:n < sizeLine) (hi:i < n) (S:y0 H1 H4) (h4:H4 D=some (.lst ((List.range i).map f))) (e:y=f i):MpK H1 D f n i y H4:=Mp.step hD hn hi S h4 e
theorem ycd (g:V->V) (hq:SqL K H1 a xs) (hD:H1 D=none)
  (hs:∀ i x H,xs[i]?=some x->y0 H1 H->H D=some (.lst ((List.range i).map (ofG g xs)))->te (some x :: fr) H (MpK H1 D (ofG g xs) xs.length i))
  (hd:∀ H,y0 H1 H->H D=some (.lst (xs.map g))->R H):ub (Itl K a) te fr D R H1 :=
 ydd (Mp H1 D (ofG g xs)) (Mp.zero hD) (fun _ _ _ p=>p.1.seq hq) (fun i x H b c p=>hs i x H b p.1 p.2)
  fun H p=>hd H p.1 (by rw [<- ycj (f:=ofG g xs) fun i x=>yja]; exact p.2)
theorem ydi (g:V->V) (hq:SqT K H1 a xs) (hD:H1 D=none)
  (hs:∀ i x H,xs[i]?=some x->y0 H1 H->H D=some (.lst ((List.range i).map (ofG g xs)))->te (some x :: fr) H (MpK H1 D (ofG g xs) xs.length i))
  (hd:∀ H,y0 H1 H->H D=some (.lst (xs.map g))->R H):ub (Itt K a) te fr D R H1 :=
 yf7 (Mp H1 D (ofG g xs)) (Mp.zero hD) (fun _ _ _ p=>p.1.tup hq) (fun i x H b c p=>hs i x H b p.1 p.2)
  fun H p=>hd H p.1 (by rw [<- ycj (f:=ofG g xs) fun i x=>yja]; exact p.2)
theorem yln (g:V->V) (hq:SqT K H1 a xs) (hD:H1 D=none)
  (hs:∀ i x H,xs[i]?=some x->y0 H1 H->H D=some (.lst ((List.range i).map (ofG g xs)))->te [some x] H (MpK H1 D (ofG g xs) xs.length i))
  (hd:∀ H,y0 H1 H->H D=some (.lst (xs.map g))->R H):yjg (Itt K a) te D R H1 :=
 yox (Mp H1 D (ofG g xs)) (Mp.zero hD) (fun _ _ _ p=>p.1.tup hq) (fun i x H b c p=>hs i x H b p.1 p.2)
  fun H p=>hd H p.1 (by rw [<- ycj (f:=ofG g xs) fun i x=>yja]; exact p.2)
theorem yfu {lo:Int} {n:Nat} (f:Nat->V) (hD:H1 D=none)
  (hs:∀ i H,i < n->y0 H1 H->H D=some (.lst ((List.range i).map f))->te (some (.int (lo+i)) :: fr) H (MpK H1 D f n i))
  (hd:∀ H,y0 H1 H->H D=some (.lst ((List.range n).map f))->R H):ub (Itr lo n) te fr D R H1 :=
 yhd (Mp H1 D f) (Mp.zero hD) (fun i H a p=>hs i H a p.1 p.2) fun H p=>hd H p.1 p.2
theorem yta {tr:TA} {σ:St} {H:Hp} {R:It->Hp->Prop} (h:tr σ H fun vs H1=>∃ i j:Int,vs=[.int i,.int j]/\(-(2 ^ 62) <= i/\i < 2 ^ 62/\-(2 ^ 62) <= j/\j < 2 ^ 62)/\R (Itr i (j - i).toNat) H1):vc3 tr σ H R:=h
end
structure Mk0 (K:W.Frag) (C:Addr):Prop where
 makes:W.makesIn K C=true
 init:W.findIn K (.ref C) "__init__"=some (some (.builtin "object.__init__"))
 kp:W.keepIn K (.ref C)=true
end L2
namespace L2
open PySem PySem.Spec PyProof.Rows
end L2
namespace L2
open PySem PySem.Spec PyProof.Rows
abbrev Cx.compT (X:Cx) (scope:Scope) (ys:List Str) (C:Addr) (xs:List Str) (s2:Shared) (H2:Hp) (fp:List Addr):Cx :=
 { X with N:=xs++ys,s₀:=s2,H₀:=H2,env:=compEnvC scope (jv ys X.env) C X.env,outer:=X.stack,ex:=fp,fn:=fun _=>false,pn:=[],xe:=fun _ _=>False }
def jq (J:It) (g:TG) (te:TE) (n:Nat) (fr:St) (D:Addr) (R:Hp->Prop) (H1:Hp):Prop:=∃ W:Nat->Nat->Hp->Prop,(∃ m,W 0 m (upd H1 D (.lst []))) /\
 ∀ i m H2,W i m H2->(J.stop i H2/\R H2)\/(J.go i H2/\∀ x H3 pre,J.yld i H2 x H3->List.length pre=n->g x (pre++fr) H3 fun σ' H'=>(∃ pre',List.length pre'=n/\σ'=pre'++fr)/\te σ' H' fun y H4=>∃ ys,H4 D=some (.lst ys)/\ys.length < sizeLine/\∃ m',m' < m/\W (i+1) m' (upd H4 D (.lst (ys++[y]))))
def yno (wi:TI) (g:TG) (te:TE) (n:Nat) (js:List Nat):TE:=fun σ H Q=>wi σ H fun J H1=>∀ D,H1 D=none->jq J g te n (w5 js σ) D (fun H2=>Q (.ref D) H2) H1
section
variable {X:Cx} {iter elt tg:Expr} {xs:List Str} {g:TG} {pos:Pos} {scope:Scope} {te:TE} {wi:TI} {pins:List (Addr × Obj)} {σ:St} {ys:List Str} {js:List Nat}
theorem ya0 {s2:Shared} {H2:Hp} {it:Addr} {fp:List Addr} {tn:Nat->Heap->Prop} {J:It} (hc:X.calm=true)
  (he:∀ (C:Addr) (s2:Shared) (H2:Hp) (fp:List Addr),PE (X.compT scope ys C xs s2 H2 fp) elt te)
  (hgt:∀ (C:Addr) (s2:Shared) (H2:Hp) (fp:List Addr),PG (X.compT scope ys C xs s2 H2 fp) tg g)
  (hcell:∀ y∈scope.names,y.2≠.cell) (hkind:scope.kind=.function)
  (hfr:∀ y∈scope.names,y.2=.free->y.1∈ys) (hyc:∀ y∈ys,X.env.kindOf y=some .cell) (hrel:∀ y∈ys,(relabel scope X.env).names.lookup y=some .cell) (hjs:js.map (fun j=>X.N[j]?)=ys.map some)
  (I2:Inv X pins σ H2 s2) (T:yk9 X.prog X.w X.K tg J fp it tn) (st2:tn 0 s2.heap) (f2:∀ b∈fp,yid X pins H2 b)
  {R:Addr->Hp->Prop} (h:∀ D,H2 D=none->jq J g te xs.length (w5 js σ) D (R D) H2) {RR:Value->Addr->Result->Shared->Prop} {E:Value->Shared->Prop}
  (hR:∀ (D C:Addr) (H':Hp) (s':Shared) (m:Str->Option Value),yid X pins H' C->s'.heap.Ns C m->Inv X pins σ H' s'->R D H'->RR (.ref D) C (.ok .next) s') :
  wpAny (model X.prog X.w) X.A (newList []) (fun acc s₃=>wpAny (model X.prog X.w) X.A (newFunctionEnv scope X.env.globals (jv ys X.env) [] X.env.qual none .none (some X.env)) (fun cenv s₄ =>
   codeAny (model X.prog X.w) X.A (.compStart (.ListComp elt [⟨tg,iter,[],0⟩] scope pos) 0 (.ref it) acc { cenv with scope:=relabel scope X.env }) (RR acc cenv.locals) s₄) E s₃) E s2:=by
 have k:∀ y c,(jv ys X.env).lookup y=some c->X.env.cells.lookup y=some c:=fun y c e=>by
  obtain ⟨m,rfl⟩:=yev e
  obtain ⟨c',q⟩:=I2.ok.has y (.inl (hyc y m))
  rw [q]
  rfl
 refine wpAny_newObj_type (wpAny_newFunctionEnv hcell (by intro y hy; simp at hy) (fun h₁ hns₁ hsb₁=>?_) hkind)
 dsimp only at hns₁ hsb₁ ⊢
 generalize P:s2.heap.push { cls:=.type "list",dict:=none,data:=.seq ([]:List Value).toArray }=G at hns₁ hsb₁ ⊢
 have hC:G.objs.size=s2.heap.objs.size+1:=by rw [<- P,Heap.size_push]
 have a3:s2.heap.objs.size≠G.objs.size:=by rw [hC]; exact Nat.ne_of_lt (Nat.lt_succ_self _)
 have F:s2.heap.objs.size <= G.objs.size:=by rw [hC]; exact Nat.le_succ _
 have f:∀ b,b < s2.heap.objs.size->b≠G.objs.size/\b≠s2.heap.objs.size:=fun b a=>⟨by rw [hC]; exact Nat.ne_of_lt (Nat.lt_succ_of_lt a),Nat.ne_of_lt a⟩
 have B:∀ b o,s2.heap.get? b=some o->h₁.get? b=some o:=fun b o e=>hsb₁.extBut b o (f b (Heap.lt_size e)).1 (Heap.get?_push_of_some _ (P ▸ Heap.get?_push_of_some _ e))
 have a4:h₁.get? s2.heap.objs.size=some { cls:=.type "list",data:=.seq ([]:List Value).toArray }:=hsb₁.extBut _ _ a3 (Heap.get?_push_of_some _ (P ▸ Heap.get?_push_size _ rfl))
 have U:∀ b∈fp,b < s2.heap.objs.size:=fun b a=>let ⟨_,e,_⟩:=T.obj 0 _ st2 b a; Heap.lt_size e
 have a7:∀ b∈fp,b∉frs X.stack:=fun b a z=>(List.mem_cons.mp (I2.stkSub b z)).elim (f2 b a).2.1 (f2 b a).2.2.1
 have nC:H2 G.objs.size=none:=I2.hok.fresh F
 have nD:H2 s2.heap.objs.size=none:=I2.hok.fresh (Nat.le_refl _)
 have t:∀ y c,(jv ys X.env).lookup y=some c->∃ v o,s2.heap.get? c=some o/\o.data=.cell v:=fun y c e=>by
  obtain ⟨v,o,q1,q2⟩:=I2.cell y c (k y c e)
  exact ⟨v,o,q1,q2⟩
 have a8:(X.compT scope ys G.objs.size xs s2 H2 fp).Ok:=by
  refine ⟨I2.ok.mod,hkind,I2.ok.glob,I2.ok.blt,F,fun y z c e S=>I2.ok.inj y z c (k y c e) (k z c S),fun y e=>?_,fun y c z e=>(by cases z),I2.ok.hd,I2.ok.frames,.inl rfl,fun b a=>⟨(f b (U b a)).1,fun y c e=>(f2 b a).2.2.2.2.1 y c (k y c e)⟩,I2.bs,?_,fun b o e a=>?_,fun b a=>a7 b a,I2.stack,I2.stkFree⟩
  ·have S:(relabel scope X.env).names.lookup y=some .cell\/(relabel scope X.env).names.lookup y=some .free:=e
   have ac:y∈ys:=by
    rcases S with S | S
    ·obtain ⟨k0,m,q⟩:=xm S
     rcases q with q | q
     ·exact absurd q.symm (hcell _ m)
     ·exact hfr _ m q
    ·obtain ⟨k0,m,q⟩:=xm S
     rcases q with q | q
     ·exact hfr _ m q.symm
     ·exact hfr _ m q
   exact ⟨_,yae ac⟩
  ·exact Nat.le_trans I2.ok.bsz I2.sz
  ·rcases (f2 b a).2.2.2.1 with z | z
   ·exact I2.ok.noex b o e z
   ·exact absurd (Nat.lt_of_lt_of_le (Heap.lt_size (I2.ok.bs b o e).1) z) (Nat.lt_irrefl _)
 have a1:(w5 js σ).length=ys.length:=by
  have:=congrArg List.length hjs
  simpa [w5] using this
 have I3:∀ Z,Inv (X.compT scope ys G.objs.size xs s2 H2 fp) [] (List.replicate xs.length none++w5 js σ) (upd H2 s2.heap.objs.size (.lst [])) { s2 with heap:=h₁,toks:=Z }:=fun Z =>
  ⟨a8,rfl,I2.bare,Un.laid B (Nat.le_refl _) nD,⟨_,hns₁,fun i y v e1 M e3=>by
    by_cases hi0:i < xs.length
    ·rw [List.getElem?_append_left (by simpa using hi0),List.getElem?_replicate,if_pos hi0] at M
     cases M
    ·obtain ⟨i,rfl⟩:∃ i',i=xs.length+i':=⟨i - xs.length,by omega⟩
     have e1:ys[i]?=some y:=by rw [List.getElem?_append_right (by omega)] at e1; simpa using e1
     have M:(w5 js σ)[i]?=some (some v):=by rw [List.getElem?_append_right (by simp)] at M; simpa using M
     have hy:y∈ys:=List.mem_of_getElem? e1
     have Q:=congrArg (fun l=>l[i]?) hjs
     simp only [List.getElem?_map,e1,Option.map_some] at Q
     cases q:js[i]? with
     | none=>rw [q] at Q; cases Q
     | some j =>
      rw [q] at Q
      have Q:X.N[j]?=some y:=by simpa using Q
      have es:σ[j]?=some (some v):=by
       simp only [w5,List.getElem?_map,q,Option.map_some,Option.some.injEq] at M
       cases r:σ[j]? with
       | none=>rw [r] at M; cases M
       | some w'=>rw [r] at M; rw [show w'=some v from M]
      obtain ⟨m0,_,ab⟩:=I2.loc
      obtain ⟨u,ru,lk⟩:=ab j y v Q es (.inr (.inl (hyc y hy)))
      refine ⟨u,ru,.inr ⟨.inl (hrel y hy),?_⟩⟩
      rcases lk with ⟨k1,_⟩ | ⟨_,c,ec,o,ho,hd⟩
      ·rw [hyc y hy] at k1; cases k1
      ·refine ⟨c,?_,o,B c o ho,hd⟩
       show (jv ys X.env).lookup y=some c
       rw [yae hy,ec]
       rfl⟩,fun y c e=>(by
    obtain ⟨v,o,q1,q2⟩:=t y c e
    exact ⟨v,o,B c o q1,q2⟩),(by show upd H2 s2.heap.objs.size _ G.objs.size=none; rw [ym a3.symm]; exact nC),fun y c e=>(by
    obtain ⟨v,o,q1,q2⟩:=t y c e
    show upd H2 s2.heap.objs.size _ c=none
    rw [ym (f c (Heap.lt_size q1)).2]
    exact I2.freeC y c (k y c e)),fun p hp=>(by simp at hp),
   I2.hok.laid B (Nat.le_refl _) ⟨Nat.zero_le _,[],_,.nil,a4⟩,by show (List.replicate xs.length none++w5 js σ).length=(xs++ys).length; simp [a1]⟩
 have H:∀ {H':Hp},(∀ b∈fp,H' b=none)->∀ b∈fp,yid (X.compT scope ys G.objs.size xs s2 H2 fp) [] H' b:=fun hn b a=>⟨hn b a,(f b (U b a)).1,a7 b a,.inl a,fun y c e=>(f2 b a).2.2.2.2.1 y c (k y c e),fun p hp=>(by simp at hp)⟩
 have O:∀ Z,codeAny (model X.prog X.w) X.A (.compLoop (.ListComp elt [⟨tg,iter,[],0⟩] scope pos) 0 (.ref it) (.ref s2.heap.objs.size) (compEnvC scope (jv ys X.env) G.objs.size X.env)) (RR (.ref s2.heap.objs.size) G.objs.size) { s2 with heap:=h₁,toks:=Z }:=by
  intro Z
  obtain ⟨W,⟨m0,w0⟩,a5⟩:=h s2.heap.objs.size nD
  refine codeAny_loop rfl (fun n s'=>∃ i v H',List.length v=xs.length/\Inv (X.compT scope ys G.objs.size xs s2 H2 fp) [] (v++w5 js σ) H' s'/\tn i s'.heap/\(∀ b∈fp,H' b=none)/\W i n H') (fun n s' hI=>?_) m0
   ⟨0,List.replicate xs.length none,_,by simp,I3 Z,T.keep 0 _ _ st2 (fun b a o e=>B b o e),fun b a=>(by rw [ym (f b (U b a)).2]; exact (f2 b a).1),w0⟩
  obtain ⟨i,v,H',hv,I,st,fr,w⟩:=hI
  show wpAny _ _ ((compTurn (.ListComp elt [⟨tg,iter,[],0⟩] scope pos) 0 (.ref it) (.ref s2.heap.objs.size) (compEnvC scope (jv ys X.env) G.objs.size X.env)).onRaise (fun x=>do noteFrame x (compEnvC scope (jv ys X.env) G.objs.size X.env); theTreesLotGoes x)) _ _ s'
  refine wpAny_noted ?_
  rw [compTurn_list1]
  refine wpAny_bind (wpAny_standAt (wpAny_bind ?_))
  rcases a5 i n H' w with ⟨a6,q⟩ | ⟨go,a0⟩
  ·refine thn (T.done (X.compT scope ys G.objs.size xs s2 H2 fp) rfl rfl rfl hc i [] s' (v++w5 js σ) H' _ I (H fr) st a6) fun r s4 ⟨hr,I4⟩=>?_
   subst hr
   refine wpAny_pure ?_
   obtain ⟨m,hn,_⟩:=I4.loc
   exact hR _ _ H' s4 m (I2.fpOk F I4.free) hn (I2.call' (ch:=fp) I4.os I4.base I4.hok I4.bare fun b a=>⟨(f2 b a).2.2.2.1,(f2 b a).2.1,(f2 b a).2.2.2.2.1,(f2 b a).2.2.2.2.2⟩) q
  ·refine thn (T.item (X.compT scope ys G.objs.size xs s2 H2 fp) rfl rfl rfl hc i [] s' (v++w5 js σ) H' _ I (H fr) st go) fun r s4 ⟨u,hr,h4⟩=>?_
   subst hr
   refine wpAny_bind (thn h4 fun _ s5 ⟨y,H5,I5,r5,y5,Y,aa⟩=>wpAny_bind ?_)
   have a9:=I5.pinned (H aa) (T.obj _ _ Y)
   refine yx3 (hgt _ _ _ _ _ s5 (v++w5 js σ) H5 y u _ a9 r5 (a0 y H5 v y5 hv)) fun _ s6 ⟨σ',H6,I6,⟨L,ad,ep⟩,q6⟩=>?_
   subst ep
   refine wpAny_bind (wpAny_bind (yx3 (he _ _ _ _ _ s6 (L++w5 js σ) H6 _ I6 q6) fun u2 s7 ⟨y2,H7,I7,r7,zs,hD,hl,m',hm,w'⟩=>wpAny_bind ?_))
   refine yx3 (wu _ s7 (L++w5 js σ) H7 (.ref s2.heap.objs.size) [y2] (.ref s2.heap.objs.size) [u2] (fun _ H8=>H8=upd H7 s2.heap.objs.size (.lst (zs++[y2]))) I7 rfl (.cons r7 .nil) ⟨_,zs,y2,rfl,rfl,hD,hl,rfl⟩) fun _ s8 h'=>?_
   obtain ⟨_,H8,I8,_,e8⟩:=h'
   subst e8
   have a2:∀ b∈fp,∀ o,s5.heap.get? b=some o->s8.heap.get? b=some o/\upd H7 s2.heap.objs.size (HO.lst (zs++[y2])) b=none:=fun b a o e =>
    ⟨(I8.pin (b,o) (List.mem_append_right _ (List.mem_append_right _ (xr a e)))).1,(I8.pin (b,o) (List.mem_append_right _ (List.mem_append_right _ (xr a e)))).2.1⟩
   refine wpAny_pure (wpAny_pure ⟨rfl,m',hm,i+1,L,_,ad,I8.unpinned,T.keep _ _ _ Y fun b a o e=>(a2 b a o e).1,fun b a=>?_,w'⟩)
   obtain ⟨o,e,d⟩:=T.obj _ _ Y b a
   exact (a2 b a o e).2
 exact codeAny_compStart_list (O _) (T.self X.A 0 _ _ _ (T.keep 0 _ _ st2 (fun b a o e=>B b o e)) (O _))
theorem yi0 (hc:X.calm=true) (hi:PI X tg iter wi) (he:∀ (C:Addr) (s2:Shared) (H2:Hp) (fp:List Addr),PE (X.compT scope ys C xs s2 H2 fp) elt te) (hjs:js.map (fun j=>X.N[j]?)=ys.map some)
  (hgt:∀ (C:Addr) (s2:Shared) (H2:Hp) (fp:List Addr),PG (X.compT scope ys C xs s2 H2 fp) tg g)
  (hclos:closureFor scope X.env=pure (jv ys X.env)) (hyc:∀ y∈ys,X.env.kindOf y=some .cell) (hrel:∀ y∈ys,(relabel scope X.env).names.lookup y=some .cell)
  (hfr:∀ y∈scope.names,y.2=.free->y.1∈ys:=by decide +kernel) (hcell:∀ y∈scope.names,y.2≠.cell:=by decide +kernel) (hkind:scope.kind=.function:=by rfl)
  (hnames:∀ y∈scope.names,y.2=.local->scope.names.lookup y.1=some .local:=by decide +kernel) (hs:∀ x,foldedSetIterable iter X.env x=pure x:=by intro _; rfl) :
  PE X (.ListComp elt [⟨tg,iter,[],0⟩] scope pos) (yno wi g te xs.length js):=by
 intro a s σ H Q I h
 rw [eval_ListComp]
 refine wpAny_comprehension_free (use:=none) rfl hs hclos hkind hnames (thn (hi a s σ H _ I h) fun v K u=>thn u fun z s2 B=>?_)
 obtain ⟨F,fp,E,J,H2,e,k,T,d,i,h⟩:=B
 subst e
 refine ya0 (R:=fun D c=>Q (.ref D) c) (RR:=compPost (model X.prog X.w) X.A X.xe none (EP X a σ Q)) hc he hgt hcell hkind hfr hyc hrel hjs k T d i h ?_
 intro D C c n m f t r q
 refine ⟨m,t,fun G p=>⟨.ref D,c,?_,rfl,q⟩⟩
 exact r.turned (t':=n.toks) (fun b o l e=>p.extBut b o l e) f.1 f.2.1 f.2.2.2.1 f.2.2.2.2.1 f.2.2.2.2.2
theorem yur {H:Hp} {Q:VK} {n:Nat} (h:wi σ H fun J H1=>∀ D,H1 D=none->jq J g te n (w5 js σ) D (fun H2=>Q (.ref D) H2) H1):yno wi g te n js σ H Q:=h
end
section
variable {X:Cx} {iter elt:Expr} {x:Str} {px pos:Pos} {scope:Scope} {te:TE} {wi:TI} {pins:List (Addr × Obj)} {σ:St} {ys:List Str} {js:List Nat}
theorem vaa {J:It} {fr:St} {D:Addr} {R:Hp->Prop} {H1:Hp} (h:ub J te fr D R H1):jq J (w4 0) te 1 fr D R H1:=by
 obtain ⟨W,c,j⟩:=h
 refine ⟨W,c,fun i m b w=>(j i m b w).imp id fun ⟨d,y⟩=>⟨d,fun x f a g e=>?_⟩⟩
 match a,e with
 | [z],_=>exact ⟨⟨[some x],rfl,rfl⟩,y x f g⟩
theorem ydg {s2:Shared} {H2:Hp} {it:Addr} {fp:List Addr} {tn:Nat->Heap->Prop} {J:It} (hc:X.calm=true)
  (he:∀ (C:Addr) (s2:Shared) (H2:Hp) (fp:List Addr),PE (X.compF scope ys C x s2 H2 fp) elt te)
  (hcell:∀ y∈scope.names,y.2≠.cell) (hkind:scope.kind=.function) (hx:scope.names.lookup x=some .local) (hnd:(x :: ys).Nodup)
  (hfr:∀ y∈scope.names,y.2=.free->y.1∈ys) (hyc:∀ y∈ys,X.env.kindOf y=some .cell) (hrel:∀ y∈ys,(relabel scope X.env).names.lookup y=some .cell) (hjs:js.map (fun j=>X.N[j]?)=ys.map some)
  (I2:Inv X pins σ H2 s2) (T:yk9 X.prog X.w X.K (.Name x px) J fp it tn) (st2:tn 0 s2.heap) (f2:∀ b∈fp,yid X pins H2 b)
  {R:Addr->Hp->Prop} (h:∀ D,H2 D=none->ub J te (w5 js σ) D (R D) H2) {RR:Value->Addr->Result->Shared->Prop} {E:Value->Shared->Prop}
  (hR:∀ (D C:Addr) (H':Hp) (s':Shared) (m:Str->Option Value),yid X pins H' C->s'.heap.Ns C m->Inv X pins σ H' s'->R D H'->RR (.ref D) C (.ok .next) s') :
  wpAny (model X.prog X.w) X.A (newList []) (fun acc s₃=>wpAny (model X.prog X.w) X.A (newFunctionEnv scope X.env.globals (jv ys X.env) [] X.env.qual none .none (some X.env)) (fun cenv s₄ =>
   codeAny (model X.prog X.w) X.A (.compStart (.ListComp elt [⟨.Name x px,iter,[],0⟩] scope pos) 0 (.ref it) acc { cenv with scope:=relabel scope X.env }) (RR acc cenv.locals) s₄) E s₃) E s2 :=
 ya0 (tg:=.Name x px) (xs:=[x]) (g:=w4 0) hc he (fun C s2 H2 fp=>xc (i:=0) hnd rfl (Or.inl (lookup_relabel_local hx)) (Or.inr (lookup_relabel_local hx))) hcell hkind hfr hyc hrel hjs I2 T st2 f2 (fun D a=>vaa (h D a)) hR
theorem w9 (hc:X.calm=true) (hi:PI X (.Name x px) iter wi) (he:∀ (C:Addr) (s2:Shared) (H2:Hp) (fp:List Addr),PE (X.compF scope ys C x s2 H2 fp) elt te) (hjs:js.map (fun j=>X.N[j]?)=ys.map some)
  (hclos:closureFor scope X.env=pure (jv ys X.env)) (hnd:(x :: ys).Nodup:=by decide) (hyc:∀ y∈ys,X.env.kindOf y=some .cell) (hrel:∀ y∈ys,(relabel scope X.env).names.lookup y=some .cell)
  (hfr:∀ y∈scope.names,y.2=.free->y.1∈ys:=by decide +kernel) (hcell:∀ y∈scope.names,y.2≠.cell:=by decide +kernel) (hkind:scope.kind=.function:=by rfl)
  (hnames:∀ y∈scope.names,y.2=.local->scope.names.lookup y.1=some .local:=by decide +kernel) (hx:scope.names.lookup x=some .local:=by rfl) (hs:∀ x,foldedSetIterable iter X.env x=pure x:=by intro _; rfl) :
  PE X (.ListComp elt [⟨.Name x px,iter,[],0⟩] scope pos) (yn2 wi te js):=by
 intro a s σ H Q I h
 rw [eval_ListComp]
 refine wpAny_comprehension_free (use:=none) rfl hs hclos hkind hnames (thn (hi a s σ H _ I h) fun v G t=>thn t fun u s2 z=>?_)
 obtain ⟨E,fp,B,J,H2,e,i,T,d,g,h⟩:=z
 subst e
 refine ydg (R:=fun D c=>Q (.ref D) c) (RR:=compPost (model X.prog X.w) X.A X.xe none (EP X a σ Q)) hc he hcell hkind hx hnd hfr hyc hrel hjs i T d g h ?_
 intro D C c l m f r p q
 refine ⟨m,r,fun F n=>⟨.ref D,c,?_,rfl,q⟩⟩
 exact p.turned (t':=l.toks) (fun b o k e=>n.extBut b o k e) f.1 f.2.1 f.2.2.2.1 f.2.2.2.2.1 f.2.2.2.2.2
theorem yip {i:Nat} {y:Str} {py spos:Pos} (hN:X.N.Nodup) (hy:X.N[i]?=some y) (hl:X.env.scope.names.lookup y=some .local) (hc:X.calm=true) (hi:PI X (.Name x px) iter wi)
  (he:∀ (C:Addr) (s2:Shared) (H2:Hp) (fp:List Addr),PE (X.compF scope ys C x s2 H2 fp) elt te) (hjs:js.map (fun j=>X.N[j]?)=ys.map some)
  (hclos:closureFor scope X.env=pure (jv ys X.env)) (hyc:∀ y∈ys,X.env.kindOf y=some .cell) (hrel:∀ y∈ys,(relabel scope X.env).names.lookup y=some .cell)
  (hsw:swapsWith (.ListComp elt [⟨.Name x px,iter,[],0⟩] scope pos) (some (.Name y py)) spos.line X.env=pure true:=by rfl) (hnd:(x :: ys).Nodup:=by decide)
  (hfr:∀ y∈scope.names,y.2=.free->y.1∈ys:=by decide +kernel) (hcell:∀ y∈scope.names,y.2≠.cell:=by decide +kernel) (hkind:scope.kind=.function:=by rfl)
  (hnames:∀ y∈scope.names,y.2=.local->scope.names.lookup y.1=some .local:=by decide +kernel) (hx:scope.names.lookup x=some .local:=by rfl) (hs:∀ x,foldedSetIterable iter X.env x=pure x:=by intro _; rfl) :
  PS X (.Assign [.Name y py] (.ListComp elt [⟨.Name x px,iter,[],0⟩] scope pos) spos) (vdw (yn2 wi te js) (w4 i)):=by
 intro a s σ H p I h
 rw [exec_Assign_Name_used _ _ _ _ hsw]
 refine wpAny_bind (wpAny_standAt (wpAny_bind ?_))
 show wpAny _ X.A (do let _ <- comprehension (.ListComp elt [⟨.Name x px,iter,[],0⟩] scope pos) scope X.env _ (newList []) false (eval iter X.env) (some (assign (.Name y py) X.env))) _ _ s
 refine wpAny_bind (wpAny_mono (wpAny_comprehension_free (use:=some (assign (.Name y py) X.env)) (Q:=fun _ d=>SP X a p .next d) rfl hs hclos hkind hnames (thn (hi a s σ H _ I h) fun v U M=>thn M fun L s2 u=>?_)) (fun _ d F=>wpAny_pure (wpAny_pure F)) fun _ _ e=>e)
 obtain ⟨P,fp,O,J,H2,e,E,T,t,B,h⟩:=u
 subst e
 refine ydg (R:=fun D k=>w4 i (.ref D) σ k p.nx) (RR:=compPost (model X.prog X.w) X.A X.xe (some (assign (.Name y py) X.env)) (fun _ d=>SP X a p .next d)) hc he hcell hkind hx hnd hfr hyc hrel hjs E T t B h ?_
 intro D C k d m f K G q
 refine wpAny_assign_Name (j3 (v:=V.ref D) G hN hy (Or.inl hl) rfl (fun n r g=>?_) (Or.inr hl))
 refine ⟨m,?_,fun S l=>⟨_,k,?_,q⟩⟩
 ·obtain ⟨b,l,c⟩:=g
  refine K.sameBut l fun z=>?_
  rcases c with c | c
  ·exact f.2.1 (z.trans c)
  ·exact f.2.2.2.2.1 y b c z.symm
 ·exact r.turned (t':=n.toks) (fun b o c e=>l.extBut b o c e) f.1 f.2.1 f.2.2.2.1 f.2.2.2.2.1 f.2.2.2.2.2
end
end L2
namespace L2
open PySem PySem.Spec PyProof.Rows
section
variable {X:Cx} {tg:Expr}
end
section
variable {prog:Program} {w:World} {A:Around} {E:Value->Shared->Prop} {s:Shared}
theorem jm {it l:Addr} {i:Nat} {items} {x:Value} {Q:Value->Shared->Prop} (hit:s.heap.IsTupleIter it l i) (hl:s.heap.IsTuple l items) (hx:items[i]?=some x)
  (hQ:∀ h',h'.IsTupleIter it l (i+1)->Heap.SameBut it s.heap h'->Q x { s with heap:=h' }):wpAny (model prog w) A (Builtin.SmallTypes.nextOf (.ref it)) Q E s:=by
 obtain ⟨h,b,e,a⟩:=id hit
 obtain ⟨f,c,_,g,d⟩:=hl
 unfold Builtin.SmallTypes.nextOf
 refine wpAny_bind (wpAny_callSpecial?_slot (name:=Str.ofString "__next__") hit.typeIs slot_tupleiter_next (wpAny_call_entry slot_tupleiter_next hit.typeIs entry_tupleiter_next ?_ (args_tupleiter_next _)))
 show wpAny _ _ (field (.ref it) 0 >>= _) _ _ s
 refine wpAny_bind (wpAny_field b a (x:=.ref l) rfl ?_)
 show wpAny _ _ (if (Value.ref l == Value.none)=true then _ else _) _ _ s
 rw [if_neg (show ¬ ((Value.ref l == Value.none)=true) from Bool.false_ne_true)]
 show wpAny _ _ (field (.ref it) 1 >>= _) _ _ s
 refine wpAny_bind (wpAny_field b a (x:=.int i 0) rfl ?_)
 show wpAny _ _ (seqItems? (.ref l) >>= _) _ _ s
 refine wpAny_bind (wpAny_seqItems c d ?_)
 simp only [Int.toNat_natCast,hx]
 refine wpAny_bind (wpAny_setField b a (by simp) (wpAny_pure ⟨x,rfl,wpAny_pure (hQ _ ⟨_,Heap.get?_update_self _ b (Obj.isFreed_of_fields (Obj.data_mapFields a _)),(Obj.cls_mapFields ..).trans e,?_⟩ (Heap.SameBut.update ..))⟩))
 rw [Obj.data_mapFields a]
 simp [rawInt]
theorem yb9 {it l:Addr} {i:Nat} {items} {Q:Value->Shared->Prop} (hh:A.handled=none) (hit:s.heap.IsTupleIter it l i) (hl:s.heap.IsTuple l items) (hx:items[i]?=none)
  (hE:∀ h' e,Heap.ExtBut it s.heap h'->(∃ o,h'.get? e=some o/\o.cls=.type "StopIteration")->E (.ref e) { s with heap:=h' }):wpAny (model prog w) A (Builtin.SmallTypes.nextOf (.ref it)) Q E s:=by
 obtain ⟨k,c,g,b⟩:=id hit
 obtain ⟨h,d,_,j,f⟩:=hl
 unfold Builtin.SmallTypes.nextOf
 refine wpAny_bind (wpAny_callSpecial?_slot (name:=Str.ofString "__next__") hit.typeIs slot_tupleiter_next (wpAny_call_entry slot_tupleiter_next hit.typeIs entry_tupleiter_next ?_ (args_tupleiter_next _)))
 (show wpAny _ _ (field (.ref it) 0 >>= _) _ _ s); refine wpAny_bind (wpAny_field c b (x:=.ref l) rfl ?_)
 (show wpAny _ _ (if (Value.ref l == Value.none)=true then _ else _) _ _ s); rw [if_neg (show ¬ ((Value.ref l == Value.none)=true) from Bool.false_ne_true)]
 (show wpAny _ _ (field (.ref it) 1 >>= _) _ _ s); refine wpAny_bind (wpAny_field c b (x:=.int i 0) rfl ?_)
 (show wpAny _ _ (seqItems? (.ref l) >>= _) _ _ s); refine wpAny_bind (wpAny_seqItems d f ?_)
 simp only [Int.toNat_natCast,hx]; refine wpAny_bind (wpAny_rule (wpAny_bind (wpAny_setField c b (by simp) ?_)))
 (show wpAny _ _ (newExc (.type "StopIteration") [] >>= _) _ _ _); refine wpAny_bind ?_
 simp only [newExc,newTuple]; refine wpAny_bind (wpAny_newObj_type ?_ (by size_fits))
 refine wpAny_bind (m:=firstArgMember _ _) (wpAny_of_eq (a:=Value.none) (by first | rfl | (simp only [firstArgMember]; rfl)) (wpAny_newObj_type ?_ (by size_fits)))
 simp only [raiseNew]; refine wpAny_bind (wpAny_handled ?_)
 (first | rw [show A.in1.handled=none from hh] | rw [hh]); refine wpAny_bind (wpAny_pure (wpAny_throw ?_))
 exact hE _ _ (((Heap.SameBut.update _ ..).extBut.push _).push _) ⟨_,Heap.get?_push_size _ rfl,rfl⟩
end
section
open AutoSeq1 (wpAny_loadPart')
set_option maxRecDepth 100000
end
section
variable {prog:Program} {w:World} {A:Around} {E:Value->Shared->Prop} {s:Shared}
end
section
variable {X:Cx}
end
end L2
namespace L2
open PySem PySem.Spec PyProof.Rows
section
variable {X:Cx} {tg:Expr}
end
end L2
namespace L2
section
variable {σ:St} {H:Hp} {Q:VK} {td ty tx tv:TE}
theorem vcf (h:td σ H fun x H1=>ty σ H1 fun y H2=>∃ a v,x=.ref a/\ybo H2 a y (some v)/\Q v H2):vdr td ty σ H Q:=h
theorem veq (h:ty σ H fun y H1=>td σ H1 fun x H2=>∃ a o,x=.ref a/\ybo H2 a y o/\Q (.bl o.isSome) H2):vgj ty td σ H Q:=h
theorem yqc (h:ty σ H fun y H1=>td σ H1 fun x H2=>∃ a o,x=.ref a/\ybo H2 a y o/\Q (.bl (!o.isSome)) H2):yne ty td σ H Q:=h
theorem va2 {nx bk ct:St->Hp->Prop} {rt:VK} (h:tv σ H fun v H1=>td σ H1 fun x H2=>ty σ H2 fun y H3=>∃ a H4,x=.ref a/\yok H3 a y v H4/\nx σ H4):vdl td ty tv ⟨nx,rt,bk,ct⟩ σ H:=h
theorem yt4 (h:∀ p,H p=none->Q (.ref p) (upd H p (.dT []))):yry σ H Q:=h
end
end L2
namespace L2
open PySem PySem.Spec PyProof.Rows
def Itz (K:W.Frag) (a b:Addr):It :=
 ⟨fun i H=>∃ xs ys x y,SqL K H a xs/\SqL K H b ys/\xs[i]?=some x/\ys[i]?=some y,
  fun i H v H'=>∃ t x y,v=.ref t/\H t=none/\H'=upd H t (.tup [x,y])/\(∀ xs,SqL K H a xs->xs[i]?=some x)/\(∀ ys,SqL K H b ys->ys[i]?=some y),
  fun i H=>∃ xs ys,SqL K H a xs/\SqL K H b ys/\(xs.length <= i\/ys.length <= i)⟩
structure Zap (z TI TO i1 i2:Addr):Prop where
 a1:TI≠z
 a2:TO≠z
 a3:i1≠z
 a4:i2≠z
 a5:TI≠TO
 a6:TI≠i1
 a7:TI≠i2
 a8:TO≠i1
 a9:TO≠i2
 b1:i1≠i2
def Zst (z TI TO i1 i2 l1 l2:Addr) (i:Nat) (h:Heap):Prop:=IsZip h z TI TO .none/\IsPair h TI (.ref i1) (.ref i2)/\(∃ a b,IsPair h TO a b)/\h.IsListIter i1 l1 i/\h.IsListIter i2 l2 i
theorem uo {h:Heap} {a b:Addr} {o o':Obj} (e:h.get? a=some o) (e':h.get? b=some o') (n:o.cls≠o'.cls):a≠b:=by
 rintro rfl
 rw [e] at e'
 cases e'
 exact n rfl
theorem yr7 (z:Nat):Zap (z+4) (z+2) (z+3) z (z+1):=by
 constructor <;> (show (_:Nat)≠(_:Nat); omega)
theorem nT {a b:String} (h:Value.type a≠Value.type b):Value.type a≠Value.type b:=h
theorem Zap.apart {X:Cx} {pins:List (Addr × Obj)} {σ:St} {H:Hp} {s:Shared} {z TI TO i1 i2 l1 l2:Addr} {i:Nat} {xs ys:List Value} (d:Zap z TI TO i1 i2) (st:Zst z TI TO i1 i2 l1 l2 i s.heap) (p:PlainL s.heap l1 xs.toArray) (q:PlainL s.heap l2 ys.toArray) (_:Inv X pins σ H s):ZipApart z TI TO i1 i2 l1 l2:=by
 obtain ⟨k,o,⟨a,b,c⟩,⟨r,j,n,_⟩,⟨v,m,l,_⟩⟩:=st
 obtain ⟨t,g,e,_⟩:=p.isList
 obtain ⟨u,f,h,_⟩:=q.isList
 exact ⟨d.a1,d.a2,d.a3,d.a4,d.a5,d.a6,d.a7,d.a8,d.a9,d.b1,
  uo g k (by rw [e]; exact nT (by decide)),uo g c (by rw [e]; exact nT (by decide)),uo g j (by rw [e,n]; decide),uo g m (by rw [e,l]; decide),
  uo f k (by rw [h]; exact nT (by decide)),uo f c (by rw [h]; exact nT (by decide)),uo f j (by rw [h,n]; decide),uo f m (by rw [h,l]; decide)⟩
theorem ypb {P:Program} {w:World} {K:W.Frag} {elts:List Expr} {x1} {tpos:Pos} (l1 l2 z TI TO i1 i2:Addr) (d:Zap z TI TO i1 i2) :
  yk9 P w K (.Tuple elts x1 tpos) (Itz K l1 l2) [z,TI,TO,i1,i2] z (Zst z TI TO i1 i2 l1 l2) where
 mem:=by simp
 obj:=fun i h G b g=>by
  obtain ⟨O,j,⟨_,_,m⟩,⟨o1,e1,_,d1⟩,⟨o2,e2,_,d2⟩⟩:=G
  simp only [List.mem_cons,List.not_mem_nil,or_false] at g
  rcases g with rfl | rfl | rfl | rfl | rfl
  ·exact ⟨_,O,fun v z=>by cases z⟩
  ·exact ⟨_,j,fun v z=>by cases z⟩
  ·exact ⟨_,m,fun v z=>by cases z⟩
  ·exact ⟨o1,e1,fun v z=>by rw [d1] at z; cases z⟩
  ·exact ⟨o2,e2,fun v z=>by rw [d2] at z; cases z⟩
 keep:=fun i h Y G k=>by
  obtain ⟨O,j,⟨a,b,m⟩,h1,h2⟩:=G
  exact ⟨k z (by simp) _ O,k TI (by simp) _ j,⟨a,b,k TO (by simp) _ m⟩,h1.at fun o e=>k i1 (by simp) o e,h2.at fun o e=>k i2 (by simp) o e⟩
 item:=by
  intro X hP hw hK hc i N s σ H E I F G hg
  subst hP hw hK
  obtain ⟨xs,ys,x,y,U,L,t,hy⟩:=hg
  obtain ⟨ab,rv,p,ac⟩:=I.list U
  obtain ⟨a0,R,p',a8⟩:=I.list L
  obtain ⟨u,hu,ru⟩:=rv.get t
  obtain ⟨u',aa,ad⟩:=R.get hy
  have D:=d.apart G p p' I
  obtain ⟨O,j,⟨va,vb,m⟩,J,M⟩:=G
  refine wpAny_pyNext_zip_item D O j m J M p.isList p'.isList (x:=u) (y:=u') (by simpa using hu) (by simpa using aa) fun Y a1 a2 a3 a4 a5 a6 hk=>?_
  refine ⟨_,rfl,wpAny_letOwnedTupleGo_zip a1 fun r a7 l=>?_⟩
  have C:H s.heap.objs.size=none:=I.hok.fresh (Nat.le_refl _)
  have lz:z < s.heap.objs.size:=Heap.lt_size O
  have lo:TO < s.heap.objs.size:=Heap.lt_size m
  have lI:TI < s.heap.objs.size:=Heap.lt_size j
  have af:i1 < s.heap.objs.size:=by obtain ⟨o,e,_⟩:=id J; exact Heap.lt_size e
  have ae:i2 < s.heap.objs.size:=by obtain ⟨o,e,_⟩:=id M; exact Heap.lt_size e
  have keep:∀ b o,b≠z->b≠TO->b≠i1->b≠i2->s.heap.get? b=some o->r.get? b=some o:=fun b o T n2 Z n4 e=>(l.2 b T).trans (hk b o T n2 Z n4 e)
  have a9:r.get? s.heap.objs.size=some { cls:=.type "tuple",data:=.seq #[u,u'] }:=(l.2 _ (Nat.ne_of_gt lz)).trans a5
  have nt:∀ {b v},H b=some v->b≠z/\b≠TO/\b≠i1/\b≠i2:=fun {b v} e=>⟨yd e (F z (by simp)).1,yd e (F TO (by simp)).1,yd e (F i1 (by simp)).1,yd e (F i2 (by simp)).1⟩
  have Q:HOk X.prog X.w (upd H s.heap.objs.size (.tup [x,y])) r:=fun b o e=>by
   by_cases g:b=s.heap.objs.size
   ·subst g
    rw [ya] at e
    cases e
    exact ⟨by show 2 <= sizeLine; decide,[u,u'],.cons ru (.cons ad .nil),⟨_,a9,rfl,_,rfl⟩⟩
   ·rw [ym g] at e
    refine (I.hok b o e).stay (fun c v B q=>?_) (fun c q=>by rw [ym (yd q C)]; exact q) fun c ys q=>by rw [ym (yd q C)]; exact q
    obtain ⟨T,n2,Z,n4⟩:c≠z/\c≠TO/\c≠i1/\c≠i2:=by
     rcases B with rfl | B
     ·exact nt e
     ·exact nt B
    exact keep c v T n2 Z n4 q
  have un:Un (frs X.stack) [z,TI,TO,i1,i2] H (upd H s.heap.objs.size (.tup [x,y])) s.heap r:=by
   have S:∀ {b o},b∉[z,TI,TO,i1,i2]->s.heap.get? b=some o->r.get? b=some o:=fun {b o} g e=>keep b o (fun q=>g (by simp [q])) (fun q=>g (by simp [q])) (fun q=>g (by simp [q])) (fun q=>g (by simp [q])) e
   refine ⟨fun b o e n _ t=>S t e,fun b o e n _ t=>⟨o.slots,S t e⟩,fun b o e n _=>by rw [ym (Nat.ne_of_lt (Heap.lt_size e))]; exact n,fun b o e t=>⟨o,S t e⟩,
    fun b ys e=>by rw [ym (yd e C)]; exact e,fun b o v e=>by rw [ym (yd e C)]; exact e,fun b ps e=>⟨#[],by rw [ym (yd e C),e]; simp⟩⟩
  have I1:Inv X N σ (upd H s.heap.objs.size (.tup [x,y])) { s with heap:=r }:=I.call' (s':={ s with heap:=r }) rfl un Q I.bare fun b g=>by
   have f:=F b g
   exact ⟨f.2.2.2.1,f.2.1,f.2.2.2.2.1,f.2.2.2.2.2⟩
  refine ⟨.ref s.heap.objs.size,_,I1,rfl,⟨_,x,y,rfl,C,rfl,fun zs h=>by rw [I.list_inj h U]; exact t,fun zs h=>by rw [I.list_inj h L]; exact hy⟩,?_,fun b g=>?_⟩
  ·exact ⟨a7,keep _ _ D.TIz D.TITO D.TIi1 D.TIi2 j,⟨u,u',(l.2 _ D.TOz).trans a2⟩,a3.at fun o e=>(l.2 _ D.i1z).trans e,a4.at fun o e=>(l.2 _ D.i2z).trans e⟩
  ·rw [ym (fun q=>?_)]
   ·exact (F b g).1
   ·have U:b < s.heap.objs.size:=by
     simp only [List.mem_cons,List.not_mem_nil,or_false] at g
     rcases g with rfl | rfl | rfl | rfl | rfl <;> assumption
    exact absurd q (Nat.ne_of_lt U)
 done:=by
  intro X hP hw hK hc i N s σ H E I F G hg
  subst hP hw hK
  obtain ⟨xs,ys,U,L,t⟩:=hg
  obtain ⟨ab,rv,p,ac⟩:=I.list U
  obtain ⟨a0,R,p',a8⟩:=I.list L
  have D:=d.apart G p p' I
  obtain ⟨O,j,⟨va,vb,m⟩,J,M⟩:=G
  have hl:=rv.length
  have ag:=R.length
  refine wpAny_pyNext_zip_end (show X.A.handled=none from I.ok.hd hc) D O j m J M p.isList p'.isList (by simp; omega) fun Y hk=>⟨rfl,?_⟩
  have nt:∀ {b v},H b=some v->b≠z/\b≠TO/\b≠i1/\b≠i2:=fun {b v} e=>⟨yd e (F z (by simp)).1,yd e (F TO (by simp)).1,yd e (F i1 (by simp)).1,yd e (F i2 (by simp)).1⟩
  have Q:HOk X.prog X.w H Y:=fun b o e=>by
   refine (I.hok b o e).stay (fun c v B q=>?_) (fun c q=>q) fun c ys q=>q
   obtain ⟨T,n2,Z,n4⟩:c≠z/\c≠TO/\c≠i1/\c≠i2:=by
    rcases B with rfl | B
    ·exact nt e
    ·exact nt B
   exact hk c v T n2 Z n4 q
  have un:Un (frs X.stack) [z,TI,TO,i1,i2] H H s.heap Y:=by
   have S:∀ {b o},b∉[z,TI,TO,i1,i2]->s.heap.get? b=some o->Y.get? b=some o:=fun {b o} g e=>hk b o (fun q=>g (by simp [q])) (fun q=>g (by simp [q])) (fun q=>g (by simp [q])) (fun q=>g (by simp [q])) e
   exact ⟨fun b o e n _ t=>S t e,fun b o e n _ t=>⟨o.slots,S t e⟩,fun b o e n _=>n,fun b o e t=>⟨o,S t e⟩,fun b ys e=>e,fun b o v e=>e,fun b ps e=>⟨#[],by rw [e]; simp⟩⟩
  exact I.call' (s':={ s with heap:=Y }) rfl un Q I.bare fun b g=>by
   have f:=F b g
   exact ⟨f.2.2.2.1,f.2.1,f.2.2.2.2.1,f.2.2.2.2.2⟩
 self:=fun _ _ _ _ _ G h=>wpAny_pyIter_zip G.1 h
section
variable {X:Cx}
def vf4 (K:W.Frag) (ta:TA):TI:=fun σ H R=>ta σ H fun vs H1=>∃ a b,vs=[.ref a,.ref b]/\(∃ xs ys,SqL K H1 a xs/\SqL K H1 b ys)/\R (Itz K a b) H1
theorem yrs {elts:List Expr} {x1} {tpos:Pos} {l m:Expr} {ta:TA} {p pos:Pos} (hg:Gl X "zip") (hm:X.mg "zip"=none) (ha:PA X [l,m] ta) (hs:starEach [l,m] X.env=[(false,eval l X.env),(false,eval m X.env)]:=by rfl) (hs2:starEach [m] X.env=[(false,eval m X.env)]:=by rfl) :
  PI X (.Tuple elts x1 tpos) (.Call (.Name "zip" p) [l,m] [] pos) (vf4 X.K ta):=by
 intro d s σ H R I h
 refine Call_ (ycr I hg hm (show bootBuiltins "zip"=some (.type "zip") by decide +kernel) (PyProof.Rows.callWith_type1 (thn (ha pos d s σ H _ I h) fun L c h'=>?_) (by rw [hs,hs2]) (by rw [hs2]; rfl)))
 obtain ⟨N,z,f,E,C⟩:=h'
 obtain ⟨a,b,e,⟨J,P,A,t⟩,q⟩:=C
 subst e
 cases E with
 | cons r rr =>
  cases rr with
  | cons r' rr =>
   cases rr
   cases r
   cases r'
   obtain ⟨F,M,v,j⟩:=f.list A
   obtain ⟨u,D,i,w⟩:=f.list t
   refine call_zip_2 v.isList i.isList fun O j k o G y x B=>?_
   refine wpAny_pyIter_zip j ?_
   have n:Zap (c.heap.objs.size+4) (c.heap.objs.size+2) (c.heap.objs.size+3) c.heap.objs.size (c.heap.objs.size+1):=yr7 _
   refine ⟨c.heap.objs.size+4,[c.heap.objs.size+4,c.heap.objs.size+2,c.heap.objs.size+3,c.heap.objs.size,c.heap.objs.size+1],_,_,z,rfl,f.kept (t':=c.toks) B,ypb a b _ _ _ _ _ n,⟨j,k,⟨_,_,o⟩,G,y⟩,fun b g=>?_,q⟩
   have g:c.heap.objs.size <= b:=by
    simp only [List.mem_cons,List.not_mem_nil,or_false] at g
    rcases g with rfl | rfl | rfl | rfl | rfl <;> omega
   exact f.fpOk g (f.hok.fresh g)
theorem yy0 {K:W.Frag} {ta:TA} {σ:St} {H:Hp} {R:It->Hp->Prop} (h:ta σ H fun vs H1=>∃ a b,vs=[.ref a,.ref b]/\(∃ xs ys,SqL K H1 a xs/\SqL K H1 b ys)/\R (Itz K a b) H1):vf4 K ta σ H R:=h
end
theorem ydc {K:W.Frag} {a b D:Addr} {xs ys:List V} {g:TG} {te:TE} {n:Nat} {fr:St} {R:Hp->Prop} {H1:Hp} (f:Nat->V) (hq:SqL K H1 a xs) (hq':SqL K H1 b ys) (hl:ys.length=xs.length) (hD:H1 D=none)
  (hs:∀ i x y H t pre,xs[i]?=some x->ys[i]?=some y->y0 H1 H->H D=some (.lst ((List.range i).map f))->H t=none->List.length pre=n->g (.ref t) (pre++fr) (upd H t (.tup [x,y])) fun σ' H'=>(∃ pre',List.length pre'=n/\σ'=pre'++fr)/\te σ' H' (MpK H1 D f xs.length i))
  (hd:∀ H,y0 H1 H->H D=some (.lst ((List.range xs.length).map f))->R H):jq (Itz K a b) g te n fr D R H1:=by
 refine ⟨cW xs.length (Mp H1 D f),⟨xs.length,by simp,Nat.zero_le _,Mp.zero hD⟩,?_⟩
 rintro i m H ⟨rfl,o,p⟩
 have q:=p.1.seq hq
 have c:=p.1.seq hq'
 by_cases hlt:i < xs.length
 ·refine .inr ⟨⟨xs,ys,xs[i],ys[i]'(by omega),q,c,by simp [hlt],by simp [hl,hlt]⟩,fun y H' pre k h=>?_⟩
  obtain ⟨t,x,y,rfl,l,rfl,d,j⟩:=k
  exact hs i x y H t pre (d xs q) (j ys c) p.1 p.2 l h
 ·have e:i=xs.length:=by omega
  subst e
  exact .inl ⟨⟨xs,ys,q,c,.inl (Nat.le_refl _)⟩,hd H p.1 p.2⟩
section
variable {X:Cx} {iter elt tg:Expr} {xs:List Str} {g:TG} {pos:Pos} {scope:Scope} {te:TE} {wi:TI} {ys:List Str} {js:List Nat}
theorem ypo {i:Nat} {y:Str} {py spos:Pos} (hN:X.N.Nodup) (hy:X.N[i]?=some y) (hl:X.env.scope.names.lookup y=some .local) (hc:X.calm=true) (hi:PI X tg iter wi)
  (he:∀ (C:Addr) (s2:Shared) (H2:Hp) (fp:List Addr),PE (X.compT scope ys C xs s2 H2 fp) elt te) (hjs:js.map (fun j=>X.N[j]?)=ys.map some)
  (hgt:∀ (C:Addr) (s2:Shared) (H2:Hp) (fp:List Addr),PG (X.compT scope ys C xs s2 H2 fp) tg g)
  (hclos:closureFor scope X.env=pure (jv ys X.env)) (hyc:∀ y∈ys,X.env.kindOf y=some .cell) (hrel:∀ y∈ys,(relabel scope X.env).names.lookup y=some .cell)
  (hsw:swapsWith (.ListComp elt [⟨tg,iter,[],0⟩] scope pos) (some (.Name y py)) spos.line X.env=pure true:=by rfl)
  (hfr:∀ y∈scope.names,y.2=.free->y.1∈ys:=by decide +kernel) (hcell:∀ y∈scope.names,y.2≠.cell:=by decide +kernel) (hkind:scope.kind=.function:=by rfl)
  (hnames:∀ y∈scope.names,y.2=.local->scope.names.lookup y.1=some .local:=by decide +kernel) (hs:∀ x,foldedSetIterable iter X.env x=pure x:=by intro _; rfl) :
  PS X (.Assign [.Name y py] (.ListComp elt [⟨tg,iter,[],0⟩] scope pos) spos) (vdw (yno wi g te xs.length js) (w4 i)):=by
 intro a s σ H r I h
 rw [exec_Assign_Name_used _ _ _ _ hsw]
 refine wpAny_bind (wpAny_standAt (wpAny_bind ?_))
 show wpAny _ X.A (do let _ <- comprehension (.ListComp elt [⟨tg,iter,[],0⟩] scope pos) scope X.env _ (newList []) false (eval iter X.env) (some (assign (.Name y py) X.env))) _ _ s
 refine wpAny_bind (wpAny_mono (wpAny_comprehension_free (use:=some (assign (.Name y py) X.env)) (Q:=fun _ d=>SP X a r .next d) rfl hs hclos hkind hnames (thn (hi a s σ H _ I h) fun v W O=>thn O fun M s2 B=>?_)) (fun _ d G=>wpAny_pure (wpAny_pure G)) fun _ _ e=>e)
 obtain ⟨S,fp,P,J,H2,e,F,T,u,E,h⟩:=B
 subst e
 refine ya0 (R:=fun D l=>w4 i (.ref D) σ l r.nx) (RR:=compPost (model X.prog X.w) X.A X.xe (some (assign (.Name y py) X.env)) (fun _ d=>SP X a r .next d)) hc he hgt hcell hkind hfr hyc hrel hjs F T u E h ?_
 intro D C l d m f L K q
 refine wpAny_assign_Name (j3 (v:=V.ref D) K hN hy (Or.inl hl) rfl (fun p t k=>?_) (Or.inr hl))
 refine ⟨m,?_,fun U n=>⟨_,l,?_,q⟩⟩
 ·obtain ⟨b,n,c⟩:=k
  refine L.sameBut n fun z=>?_
  rcases c with c | c
  ·exact f.2.1 (z.trans c)
  ·exact f.2.2.2.2.1 y b c z.symm
 ·exact t.turned (t':=p.toks) (fun b o c e=>n.extBut b o c e) f.1 f.2.1 f.2.2.2.1 f.2.2.2.2.1 f.2.2.2.2.2
end
section
variable {X:Cx}
def onI (f:Int->Int):V->V
 | .int i=>.int (f i)
 | v=>v
theorem ynk (f:Int->Int) (ns:List Int):(ns.map V.int).map (onI f)=(ns.map f).map V.int:=by
 rw [List.map_map,List.map_map]
 rfl
theorem yn5 {pre:List (Option V)} (h:List.length pre=2):∃ v1 v2,pre=[v1,v2]:=by
 match pre,h with
 | [v1,v2],_=>exact ⟨v1,v2,rfl⟩
end
section
variable {X:Cx}
def vdc:V->List V->Hp->VK->Prop:=fun x vs H Q=>∃ i:Int,x=.int i/\vs=[]/\Q (.int (Builtin.Int.intBits i:Nat)) H
theorem ys6:MtR X "int.bit_length" vdc:=by
 intro b s σ H x e v f Q I c d h
 obtain ⟨i,rfl,rfl,q⟩:=h
 obtain ⟨t,rfl⟩:=c
 have a:=d.zero
 subst a
 exact PyProof.Rows.call_int_bit_length ⟨.int _,H,I.tok _,⟨_,rfl⟩,q⟩
theorem vag {K:W.Frag} {i:Int} {H:Hp} {Q:VK} (h:Q (.int (Builtin.Int.intBits i:Nat)) H):tyV K "int" (.int i) H/\vdc (.int i) [] H Q:=⟨rfl,i,rfl,rfl,h⟩
end
end L2
namespace L2
open PySem PySem.Spec PyProof.Rows
section
variable {prog:Program} {w:World} {A:Around} {E:Value->Shared->Prop} {s:Shared}
theorem yo9 {z TI TO i1 i2 l1 l2:Addr} {k1 k2:Nat} {xs ys:Array Value} {x y a b:Value} {Q:Value->Shared->Prop} (D:ZipApart z TI TO i1 i2 l1 l2) (hz:IsZip s.heap z TI TO .none) (hTI:IsPair s.heap TI (.ref i1) (.ref i2)) (hTO:IsPair s.heap TO a b)
  (h1:s.heap.IsTupleIter i1 l1 k1) (h2:s.heap.IsTupleIter i2 l2 k2) (hl1:s.heap.IsTuple l1 xs) (hl2:s.heap.IsTuple l2 ys) (hx:xs[k1]?=some x) (hy:ys[k2]?=some y)
  (hQ:∀ h',IsZip h' z TI TO (rawInt s.heap.objs.size)->IsPair h' TO x y->h'.IsTupleIter i1 l1 (k1+1)->h'.IsTupleIter i2 l2 (k2+1)->IsPair h' s.heap.objs.size x y->h'.objs.size=s.heap.objs.size+1->(∀ c o,c≠z->c≠TO->c≠i1->c≠i2->s.heap.get? c=some o->h'.get? c=some o)->Q (.ref s.heap.objs.size) { s with heap:=h' }) :
  wpAny (model prog w) A (Builtin.«zip.__next__» ⟨[.ref z],[]⟩) (fun fin s'=>∃ v,fin=.done (.ret v)/\Q v s') E s:=by
 (show wpAny _ _ (field (.ref z) 2 >>= _) _ _ _); refine wpAny_bind (wpAny_field hz rfl (x:=.bool false) rfl ?_)
 (show wpAny _ _ (field (.ref z) 3 >>= _) _ _ _); refine wpAny_bind (wpAny_field hz rfl (x:=.ref TI) rfl ?_); refine wpAny_bind (wpAny_seqItems hTI rfl ?_)
 (show wpAny _ _ (Builtin.SmallTypes.ownedTupleIsFree (.ref z) >>= _) _ _ _); refine wpAny_bind ?_; unfold Builtin.SmallTypes.ownedTupleIsFree
 refine wpAny_bind (wpAny_field hz rfl (x:=.none) rfl (wpAny_pure ?_)); simp only [if_true]; refine wpAny_bind (wpAny_rule ?_)
 refine wpAny_bind (wpAny_field hz rfl (x:=.ref TO) rfl ?_); refine wpAny_bind (wpAny_setField_rec hz (by simp) fun h₁ hz₁ hs₁=>?_)
 replace hz₁:IsZip h₁ z TI TO .ellipsis:=hz₁; refine wpAny_bind ?_; simp only [List.zipIdx_cons,List.zipIdx_nil,List.forIn_cons,List.forIn_nil]
 refine wpAny_bind (wpAny_bind (wpAny_onRaise ?_)); (show wpAny _ _ (Builtin.SmallTypes.nextOf (.ref i1) >>= _) _ _ _)
 refine wpAny_bind (jm (h1.at fun o e=>hs₁.extBut _ _ D.i1z e) (hl1.extBut hs₁.extBut D.l1z) hx fun h₂ h1₂ hs₂=>wpAny_pure ?_)
 have hTO₂:IsPair h₂ TO a b:=hs₂.extBut _ _ D.TOi1 (hs₁.extBut _ _ D.TOz hTO); refine wpAny_bind (wpAny_seqItems hTO₂ rfl ?_)
 refine wpAny_bind (wpAny_updateSeq_pair hTO₂ fun h₃ hTO₃ hs₃=>?_); replace hTO₃:IsPair h₃ TO x b:=hTO₃; refine wpAny_bind (wpAny_letGo (wpAny_pure ?_))
 refine wpAny_bind (wpAny_bind (wpAny_onRaise ?_)); (show wpAny _ _ (Builtin.SmallTypes.nextOf (.ref i2) >>= _) _ _ _)
 refine wpAny_bind (jm (h2.at fun o e=>hs₃.extBut _ _ D.TOi2.symm (hs₂.extBut _ _ D.i12.symm (hs₁.extBut _ _ D.i2z e))) (((hl2.extBut hs₁.extBut D.l2z).extBut hs₂.extBut D.l2i1).extBut hs₃.extBut D.l2TO) hy fun h₄ h2₄ hs₄=>wpAny_pure ?_)
 have hTO₄:IsPair h₄ TO x b:=hs₄.extBut _ _ D.TOi2 hTO₃; refine wpAny_bind (wpAny_seqItems hTO₄ rfl ?_)
 refine wpAny_bind (wpAny_updateSeq_pair hTO₄ fun h₅ hTO₅ hs₅=>?_); replace hTO₅:IsPair h₅ TO x y:=hTO₅; refine wpAny_bind (wpAny_letGo (wpAny_pure (wpAny_pure ?_)))
 refine wpAny_bind (wpAny_seqItems hTO₅ rfl ?_); refine wpAny_bind (wpAny_newTuple ?_)
 have g:h₅.objs.size=s.heap.objs.size:=by (rw [hs₅.1,hs₄.1,hs₃.1,hs₂.1,hs₁.1])
 have hz₅:IsZip h₅ z TI TO .ellipsis:=(hs₅.extBut _ _ D.TOz.symm (hs₄.extBut _ _ D.i2z.symm (hs₃.extBut _ _ D.TOz.symm (hs₂.extBut _ _ D.i1z.symm hz₁))))
 have hk₅:∀ c o,c≠z->c≠TO->c≠i1->c≠i2->s.heap.get? c=some o->h₅.get? c=some o:=fun c o f j l m e=>hs₅.extBut _ _ j (hs₄.extBut _ _ m (hs₃.extBut _ _ j (hs₂.extBut _ _ l (hs₁.extBut _ _ f e))))
 have h1₅:h₅.IsTupleIter i1 l1 (k1+1):=h1₂.at fun o e=>hs₅.extBut _ _ D.TOi1.symm (hs₄.extBut _ _ D.i12 (hs₃.extBut _ _ D.TOi1.symm e))
 have h2₅:h₅.IsTupleIter i2 l2 (k2+1):=h2₄.at fun o e=>hs₅.extBut _ _ D.TOi2.symm e
 have d:z < h₅.objs.size:=(Heap.lt_size hz₅)
 (show wpAny _ _ (Builtin.SmallTypes.ownedTupleHandOut (.ref z) (.ref h₅.objs.size) >>= _) _ _ _); refine wpAny_bind ?_; unfold Builtin.SmallTypes.ownedTupleHandOut
 have hz₆:IsZip (h₅.push { cls:=.type "tuple",data:=.seq #[x,y] }) z TI TO .ellipsis:=(Heap.get?_push_of_some _ hz₅)
 refine wpAny_bind (wpAny_setField_rec hz₆ (by simp) fun h₇ hz₇ hs₇=>?_); replace hz₇:IsZip h₇ z TI TO (rawInt h₅.objs.size):=hz₇
 refine wpAny_setField_rec hz₇ (by simp) fun h₈ hz₈ hs₈=>?_; replace hz₈:IsZip h₈ z TI TO (rawInt h₅.objs.size):=hz₈
 have k:∀ c o,c≠z->h₅.get? c=some o->h₈.get? c=some o:=(fun c o f e=>hs₈.extBut _ _ f (hs₇.extBut _ _ f (Heap.get?_push_of_some _ e)))
 have hT₈:IsPair h₈ h₅.objs.size x y:=(hs₈.extBut _ _ (Nat.ne_of_gt d) (hs₇.extBut _ _ (Nat.ne_of_gt d) (Heap.get?_push_size _ rfl)))
 have i:h₈.objs.size=h₅.objs.size+1:=by (rw [hs₈.1,hs₇.1,Heap.size_push])
 (rw [g] at hz₈ hT₈ i); refine wpAny_pure ⟨_,rfl,?_⟩; show Q (.ref h₅.objs.size) _; rw [g]
 exact hQ h₈ hz₈ (k _ _ D.TOz hTO₅) (h1₅.at fun o e=>k _ o D.i1z e) (h2₅.at fun o e=>k _ o D.i2z e) hT₈ i (fun c o f j l m e=>k c o f (hk₅ c o f j l m e))
theorem yts {z TI TO i1 i2 l1 l2:Addr} {k1 k2:Nat} {xs ys:Array Value} {a b:Value} {Q:Fin->Shared->Prop} (hh:A.handled=none) (D:ZipApart z TI TO i1 i2 l1 l2) (hz:IsZip s.heap z TI TO .none) (hTI:IsPair s.heap TI (.ref i1) (.ref i2)) (hTO:IsPair s.heap TO a b)
  (h1:s.heap.IsTupleIter i1 l1 k1) (h2:s.heap.IsTupleIter i2 l2 k2) (hl1:s.heap.IsTuple l1 xs) (hl2:s.heap.IsTuple l2 ys) (hend:xs[k1]?=none\/ys[k2]?=none)
  (hE:∀ h' e,(∀ c o,c≠z->c≠TO->c≠i1->c≠i2->s.heap.get? c=some o->h'.get? c=some o)->(∃ o,h'.get? e=some o/\o.cls=.type "StopIteration")->E (.ref e) { s with heap:=h' }):wpAny (model prog w) A (Builtin.«zip.__next__» ⟨[.ref z],[]⟩) Q E s:=by
 (show wpAny _ _ (field (.ref z) 2 >>= _) _ _ _); refine wpAny_bind (wpAny_field hz rfl (x:=.bool false) rfl ?_)
 (show wpAny _ _ (field (.ref z) 3 >>= _) _ _ _); refine wpAny_bind (wpAny_field hz rfl (x:=.ref TI) rfl ?_); refine wpAny_bind (wpAny_seqItems hTI rfl ?_)
 (show wpAny _ _ (Builtin.SmallTypes.ownedTupleIsFree (.ref z) >>= _) _ _ _); refine wpAny_bind ?_; unfold Builtin.SmallTypes.ownedTupleIsFree
 refine wpAny_bind (wpAny_field hz rfl (x:=.none) rfl (wpAny_pure ?_)); simp only [if_true]; refine wpAny_bind (wpAny_rule ?_)
 refine wpAny_bind (wpAny_field hz rfl (x:=.ref TO) rfl ?_); refine wpAny_bind (wpAny_setField_rec hz (by simp) fun h₁ hz₁ hs₁=>?_)
 replace hz₁:IsZip h₁ z TI TO .ellipsis:=hz₁; refine wpAny_bind ?_; simp only [List.zipIdx_cons,List.zipIdx_nil,List.forIn_cons,List.forIn_nil]
 refine wpAny_bind (wpAny_bind (wpAny_onRaise ?_)); (show wpAny _ _ (Builtin.SmallTypes.nextOf (.ref i1) >>= _) _ _ _)
 cases hx:xs[k1]? with
 | none =>
  refine wpAny_bind (yb9 hh (h1.at fun o e=>hs₁.extBut _ _ D.i1z e) (hl1.extBut hs₁.extBut D.l1z) hx fun h₂ e hs₂ k=>?_)
  obtain ⟨l,d,f⟩:=k; have hz₂:IsZip h₂ z TI TO .ellipsis:=hs₂ _ _ D.i1z.symm hz₁
  have g:e≠z:=(fun x=>by (subst x; rw [hz₂] at d; cases d; simp at f))
  exact wpAny_setField_rec hz₂ (by simp) fun h₃ _ hs₃=>hE h₃ e (fun c o i _ j _ x=>hs₃.extBut _ _ i (hs₂ _ _ j (hs₁.extBut _ _ i x))) ⟨l,hs₃.extBut _ _ g d,f⟩
 | some x =>
  have n:ys[k2]?=none:=by (rcases hend with h | h; (rw [hx] at h; cases h); exact h)
  refine wpAny_bind (jm (h1.at fun o e=>hs₁.extBut _ _ D.i1z e) (hl1.extBut hs₁.extBut D.l1z) hx fun h₂ h1₂ hs₂=>wpAny_pure ?_)
  have hTO₂:IsPair h₂ TO a b:=(hs₂.extBut _ _ D.TOi1 (hs₁.extBut _ _ D.TOz hTO)); refine wpAny_bind (wpAny_seqItems hTO₂ rfl ?_)
  refine wpAny_bind (wpAny_updateSeq_pair hTO₂ fun h₃ hTO₃ hs₃=>?_); refine wpAny_bind (wpAny_letGo (wpAny_pure ?_))
  refine wpAny_bind (wpAny_bind (wpAny_onRaise ?_)); (show wpAny _ _ (Builtin.SmallTypes.nextOf (.ref i2) >>= _) _ _ _)
  refine wpAny_bind (yb9 hh (h2.at fun o e=>hs₃.extBut _ _ D.TOi2.symm (hs₂.extBut _ _ D.i12.symm (hs₁.extBut _ _ D.i2z e))) (((hl2.extBut hs₁.extBut D.l2z).extBut hs₂.extBut D.l2i1).extBut hs₃.extBut D.l2TO) n fun h₄ e hs₄ k=>?_)
  obtain ⟨l,d,f⟩:=k; have hz₄:IsZip h₄ z TI TO .ellipsis:=hs₄ _ _ D.i2z.symm (hs₃.extBut _ _ D.TOz.symm (hs₂.extBut _ _ D.i1z.symm hz₁))
  have g:e≠z:=(fun x=>by (subst x; rw [hz₄] at d; cases d; simp at f))
  exact wpAny_setField_rec hz₄ (by simp) fun h₅ _ hs₅=>hE h₅ e (fun c o i m j p x=>hs₅.extBut _ _ i (hs₄ _ _ p (hs₃.extBut _ _ m (hs₂.extBut _ _ j (hs₁.extBut _ _ i x))))) ⟨l,hs₅.extBut _ _ g d,f⟩
theorem yp0 {z TI TO i1 i2 l1 l2:Addr} {k1 k2:Nat} {xs ys:Array Value} {x y a b:Value} {Q:Option Value->Shared->Prop} (D:ZipApart z TI TO i1 i2 l1 l2) (hz:IsZip s.heap z TI TO .none) (hTI:IsPair s.heap TI (.ref i1) (.ref i2)) (hTO:IsPair s.heap TO a b)
  (h1:s.heap.IsTupleIter i1 l1 k1) (h2:s.heap.IsTupleIter i2 l2 k2) (hl1:s.heap.IsTuple l1 xs) (hl2:s.heap.IsTuple l2 ys) (hx:xs[k1]?=some x) (hy:ys[k2]?=some y)
  (hQ:∀ h',IsZip h' z TI TO (rawInt s.heap.objs.size)->IsPair h' TO x y->h'.IsTupleIter i1 l1 (k1+1)->h'.IsTupleIter i2 l2 (k2+1)->IsPair h' s.heap.objs.size x y->h'.objs.size=s.heap.objs.size+1->(∀ c o,c≠z->c≠TO->c≠i1->c≠i2->s.heap.get? c=some o->h'.get? c=some o)->Q (some (.ref s.heap.objs.size)) { s with heap:=h' }) :
  wpAny (model prog w) A (pyNext (.ref z)) Q E s:=by
 have d:s.TypeIs (.ref z) "zip":=(⟨_,hz,rfl⟩); unfold pyNext
 exact wpAny_bind (wpAny_attempt (wpAny_callSpecial?_slot (name:=Str.ofString "__next__") d F.slot_zip_next (wpAny_call_entry F.slot_zip_next d F.entry_zip_next
   (yo9 D hz hTI hTO h1 h2 hl1 hl2 hx hy fun h' g h f e k i j=>wpAny_pure (hQ h' g h f e k i j)) (F.args_zip_next_1 _))))
theorem yqe {z TI TO i1 i2 l1 l2:Addr} {k1 k2:Nat} {xs ys:Array Value} {a b:Value} {Q:Option Value->Shared->Prop} (hh:A.handled=none) (D:ZipApart z TI TO i1 i2 l1 l2) (hz:IsZip s.heap z TI TO .none) (hTI:IsPair s.heap TI (.ref i1) (.ref i2)) (hTO:IsPair s.heap TO a b)
  (h1:s.heap.IsTupleIter i1 l1 k1) (h2:s.heap.IsTupleIter i2 l2 k2) (hl1:s.heap.IsTuple l1 xs) (hl2:s.heap.IsTuple l2 ys) (hend:xs[k1]?=none\/ys[k2]?=none)
  (hQ:∀ h',(∀ c o,c≠z->c≠TO->c≠i1->c≠i2->s.heap.get? c=some o->h'.get? c=some o)->Q none { s with heap:=h' }):wpAny (model prog w) A (pyNext (.ref z)) Q E s:=by
 have d:s.TypeIs (.ref z) "zip":=(⟨_,hz,rfl⟩); unfold pyNext
 refine wpAny_bind (wpAny_attempt (wpAny_callSpecial?_slot (name:=Str.ofString "__next__") d F.slot_zip_next (wpAny_call_entry F.slot_zip_next d F.entry_zip_next
  (yts hh D hz hTI hTO h1 h2 hl1 hl2 hend fun h' e h g=>?_) (F.args_zip_next_1 _))))
 obtain ⟨o,f,i⟩:=g; refine wpAny_bind (wpAny_isInstance (T:="StopIteration") (b:=true) ⟨o,f,i⟩ isSubtype_stop ?_)
 exact wpAny_pure (hQ _ h)
end
abbrev zT1 (h:Heap) (l1:Addr):Heap:=h.push { cls:=.type "tuple_iterator",data:=.fields #[.ref l1,.int 0 0] }
abbrev zT2 (h:Heap) (l1 l2:Addr):Heap:=(zT1 h l1).push { cls:=.type "tuple_iterator",data:=.fields #[.ref l2,.int 0 0] }
abbrev zT3 (h:Heap) (l1 l2:Addr):Heap:=(zT2 h l1 l2).push { cls:=.type "tuple",data:=.seq #[.ref h.objs.size,.ref (zT1 h l1).objs.size] }
abbrev zT4 (h:Heap) (l1 l2:Addr):Heap:=(zT3 h l1 l2).push { cls:=.type "tuple",data:=.seq #[.none,.none] }
abbrev zT5 (h:Heap) (l1 l2:Addr):Heap:=(zT4 h l1 l2).push { cls:=.type "zip",data:=.fields #[.none,.bool false,.bool false,.ref (zT2 h l1 l2).objs.size,.ref (zT3 h l1 l2).objs.size] }
theorem yti (l1 l2:Addr) (xs ys:Array Value):Meets (Builtin.«zip.__new__» ⟨[.type "zip",.ref l1,.ref l2],[]⟩) (fun _ R s=>s.heap.IsTuple l1 xs/\s.heap.IsTuple l2 ys/\R (.ok (.ret (.ref (zT4 s.heap l1 l2).objs.size))) { s with heap:=zT5 s.heap l1 l2 }) :=
 .of_wp fun f w A R s h=>by
  obtain ⟨j,g,d,i,k⟩:=s
  obtain ⟨c,a,h⟩:=h
  have l:=sub_zip
  have b:Heap.IsTuple (Shared.heap ⟨j,g,d,i,k⟩) l1 xs:=c
  have e:Heap.IsTuple (Shared.heap ⟨j.push { cls:=.type "tuple_iterator",data:=.fields #[.ref l1,.int 0 0] },g,d,i,k⟩) l2 ys:=Heap.IsTuple.push a _
  wp_walk using wpAny_pyIter_tuple b,wpAny_pyIter_tuple e
  exact ⟨_,rfl,h⟩
section
variable {prog:Program} {w:World} {A:Around} {E:Value->Shared->Prop} {s:Shared}
theorem yop {l1 l2:Addr} {xs ys:Array Value} {Q:Value->Shared->Prop} (hl1:s.heap.IsTuple l1 xs) (hl2:s.heap.IsTuple l2 ys)
  (h:∀ h',IsZip h' (s.heap.objs.size+4) (s.heap.objs.size+2) (s.heap.objs.size+3) .none->IsPair h' (s.heap.objs.size+2) (.ref s.heap.objs.size) (.ref (s.heap.objs.size+1))->IsPair h' (s.heap.objs.size+3) .none .none->h'.IsTupleIter s.heap.objs.size l1 0->h'.IsTupleIter (s.heap.objs.size+1) l2 0 ->
   (∀ c o,s.heap.get? c=some o->h'.get? c=some o)->Q (.ref (s.heap.objs.size+4)) { s with heap:=h' }):wpAny (model prog w) A (call (.type "zip") [.ref l1,.ref l2]) Q E s:=by
 refine callType_new F.called_zip (by decide) (F.typeCall_zip_2 _ _) (F.newCall_zip_2 _ _) (fun e=>F.args_object_init_3 e _ _) F.entry_zip_new (yti l1 l2 xs ys) ⟨hl1,hl2,?_⟩
 have b:(zT1 s.heap l1).objs.size=s.heap.objs.size+1:=Heap.size_push ..
 have d:(zT2 s.heap l1 l2).objs.size=s.heap.objs.size+2:=by rw [Heap.size_push,b]
 have a:(zT3 s.heap l1 l2).objs.size=s.heap.objs.size+3:=by rw [Heap.size_push,d]
 have f:(zT4 s.heap l1 l2).objs.size=s.heap.objs.size+4:=by rw [Heap.size_push,a]
 have g5:(zT5 s.heap l1 l2).get? (zT4 s.heap l1 l2).objs.size=some _:=Heap.get?_push_size _ rfl
 have g4:(zT5 s.heap l1 l2).get? (zT3 s.heap l1 l2).objs.size=some _:=Heap.get?_push_of_some _ (Heap.get?_push_size _ rfl)
 have g3:(zT5 s.heap l1 l2).get? (zT2 s.heap l1 l2).objs.size=some _:=Heap.get?_push_of_some _ (Heap.get?_push_of_some _ (Heap.get?_push_size _ rfl))
 have g2:(zT5 s.heap l1 l2).get? (zT1 s.heap l1).objs.size=some _:=Heap.get?_push_of_some _ (Heap.get?_push_of_some _ (Heap.get?_push_of_some _ (Heap.get?_push_size _ rfl)))
 have g1:(zT5 s.heap l1 l2).get? s.heap.objs.size=some _:=(Heap.get?_push_of_some _ (Heap.get?_push_of_some _ (Heap.get?_push_of_some _ (Heap.get?_push_of_some _ (Heap.get?_push_size _ rfl)))))
 show _/\_
 rw [d,a,f] at g5
 rw [b,d] at g3
 rw [a] at g4
 rw [b] at g2
 rw [f]
 exact ⟨⟨_,g5,rfl⟩,h _ g5 g3 g4 ⟨_,g1,rfl,rfl⟩ ⟨_,g2,rfl,rfl⟩ fun c o x=>(Heap.get?_push_of_some _ (Heap.get?_push_of_some _ (Heap.get?_push_of_some _ (Heap.get?_push_of_some _ (Heap.get?_push_of_some _ x)))))⟩
end
def vdv (K:W.Frag) (a b:Addr):It :=
 ⟨fun i H=>∃ xs ys x y,SqT K H a xs/\SqT K H b ys/\xs[i]?=some x/\ys[i]?=some y,
  fun i H v H'=>∃ t x y,v=.ref t/\H t=none/\H'=upd H t (.tup [x,y])/\(∀ xs,SqT K H a xs->xs[i]?=some x)/\(∀ ys,SqT K H b ys->ys[i]?=some y),
  fun i H=>∃ xs ys,SqT K H a xs/\SqT K H b ys/\(xs.length <= i\/ys.length <= i)⟩
def vf9 (z TI TO i1 i2 l1 l2:Addr) (i:Nat) (h:Heap):Prop:=IsZip h z TI TO .none/\IsPair h TI (.ref i1) (.ref i2)/\(∃ a b,IsPair h TO a b)/\h.IsTupleIter i1 l1 i/\h.IsTupleIter i2 l2 i
theorem Zap.apartT {X:Cx} {H:Hp} {s:Shared} {z TI TO i1 i2 l1 l2:Addr} {i:Nat} {xs ys:List Value} {us vs:List V} (d:Zap z TI TO i1 i2) (st:vf9 z TI TO i1 i2 l1 l2 i s.heap) (p:s.heap.IsTuple l1 xs.toArray) (q:s.heap.IsTuple l2 ys.toArray) (hn:H TO=none) (hK:X.K.lookup TO=none)
  (hq:SqT X.K H l1 us) (hq':SqT X.K H l2 vs):ZipApart z TI TO i1 i2 l1 l2:=by
 obtain ⟨k,w,⟨a,b,v⟩,⟨x,m,u,_⟩,⟨B,t,n,_⟩⟩:=st
 obtain ⟨y,e,f,_⟩:=p
 obtain ⟨A,g,j,_⟩:=q
 have c:∀ {l:Addr} {r:List V},SqT X.K H l r->l≠TO:=fun {l r} h=>by
  rintro rfl
  rcases h with (h | ⟨o,h⟩) | ⟨_,_,_,h,_⟩
  ·rw [hn] at h; cases h
  ·rw [hn] at h; cases h
  ·rw [hK] at h; cases h
 exact ⟨d.a1,d.a2,d.a3,d.a4,d.a5,d.a6,d.a7,d.a8,d.a9,d.b1,
  uo e k (by rw [f]; exact nT (by decide)),c hq,uo e m (by rw [f,u]; decide),uo e t (by rw [f,n]; decide),
  uo g k (by rw [j]; exact nT (by decide)),c hq',uo g m (by rw [j,u]; decide),uo g t (by rw [j,n]; decide)⟩
theorem ymt {P:Program} {w:World} {K:W.Frag} {elts:List Expr} {x1} {tpos:Pos} (l1 l2 z TI TO i1 i2:Addr) (d:Zap z TI TO i1 i2) (hKT:K.lookup TO=none) :
  yk9 P w K (.Tuple elts x1 tpos) (vdv K l1 l2) [z,TI,TO,i1,i2] z (vf9 z TI TO i1 i2 l1 l2) where
 mem:=by simp
 obj:=fun i h L b g=>by
  obtain ⟨R,j,⟨_,_,m⟩,⟨o1,e1,_,d1⟩,⟨o2,e2,_,d2⟩⟩:=L
  simp only [List.mem_cons,List.not_mem_nil,or_false] at g
  rcases g with rfl | rfl | rfl | rfl | rfl
  ·exact ⟨_,R,fun v z=>by cases z⟩
  ·exact ⟨_,j,fun v z=>by cases z⟩
  ·exact ⟨_,m,fun v z=>by cases z⟩
  ·exact ⟨o1,e1,fun v z=>by rw [d1] at z; cases z⟩
  ·exact ⟨o2,e2,fun v z=>by rw [d2] at z; cases z⟩
 keep:=fun i h h' L k=>by
  obtain ⟨R,j,⟨a,b,m⟩,h1,h2⟩:=L
  exact ⟨k z (by simp) _ R,k TI (by simp) _ j,⟨a,b,k TO (by simp) _ m⟩,h1.at fun o e=>k i1 (by simp) o e,h2.at fun o e=>k i2 (by simp) o e⟩
 item:=by
  intro X hP hw hK hc i O s σ H E I C L hg
  subst hP hw hK
  obtain ⟨xs,ys,x,y,Q,G,t,hy⟩:=hg
  obtain ⟨U,rv,p0,aa⟩:=I.tuple Q
  obtain ⟨J,Y,S,a7⟩:=I.tuple G
  have p:s.heap.IsTuple l1 U.toArray:=p0
  have p':s.heap.IsTuple l2 J.toArray:=S
  obtain ⟨u,hu,ru⟩:=rv.get t
  obtain ⟨u',a9,ab⟩:=Y.get hy
  have D:=d.apartT L p p' (C TO (by simp)).1 hKT Q G
  obtain ⟨R,j,⟨va,vb,m⟩,M,N⟩:=L
  refine yp0 D R j m M N p p' (x:=u) (y:=u') (by simpa using hu) (by simpa using a9) fun h' a1 a2 a3 a4 a5 a6 hk=>?_
  refine ⟨_,rfl,wpAny_letOwnedTupleGo_zip a1 fun r a0 l=>?_⟩
  have F:H s.heap.objs.size=none:=I.hok.fresh (Nat.le_refl _)
  have lz:z < s.heap.objs.size:=Heap.lt_size R
  have lo:TO < s.heap.objs.size:=Heap.lt_size m
  have lI:TI < s.heap.objs.size:=Heap.lt_size j
  have ad:i1 < s.heap.objs.size:=by obtain ⟨o,e,_⟩:=id M; exact Heap.lt_size e
  have ac:i2 < s.heap.objs.size:=by obtain ⟨o,e,_⟩:=id N; exact Heap.lt_size e
  have keep:∀ b o,b≠z->b≠TO->b≠i1->b≠i2->s.heap.get? b=some o->r.get? b=some o:=fun b o n1 n2 n3 n4 e=>(l.2 b n1).trans (hk b o n1 n2 n3 n4 e)
  have a8:r.get? s.heap.objs.size=some { cls:=.type "tuple",data:=.seq #[u,u'] }:=(l.2 _ (Nat.ne_of_gt lz)).trans a5
  have nt:∀ {b v},H b=some v->b≠z/\b≠TO/\b≠i1/\b≠i2:=fun {b v} e=>⟨yd e (C z (by simp)).1,yd e (C TO (by simp)).1,yd e (C i1 (by simp)).1,yd e (C i2 (by simp)).1⟩
  have T:HOk X.prog X.w (upd H s.heap.objs.size (.tup [x,y])) r:=fun b o e=>by
   by_cases g:b=s.heap.objs.size
   ·subst g
    rw [ya] at e
    cases e
    exact ⟨by show 2 <= sizeLine; decide,[u,u'],.cons ru (.cons ab .nil),⟨_,a8,rfl,_,rfl⟩⟩
   ·rw [ym g] at e
    refine (I.hok b o e).stay (fun c v B q=>?_) (fun c q=>by rw [ym (yd q F)]; exact q) fun c ys q=>by rw [ym (yd q F)]; exact q
    obtain ⟨n1,n2,n3,n4⟩:c≠z/\c≠TO/\c≠i1/\c≠i2:=by
     rcases B with rfl | B
     ·exact nt e
     ·exact nt B
    exact keep c v n1 n2 n3 n4 q
  have un:Un (frs X.stack) [z,TI,TO,i1,i2] H (upd H s.heap.objs.size (.tup [x,y])) s.heap r:=by
   have Z:∀ {b o},b∉[z,TI,TO,i1,i2]->s.heap.get? b=some o->r.get? b=some o:=fun {b o} g e=>keep b o (fun q=>g (by simp [q])) (fun q=>g (by simp [q])) (fun q=>g (by simp [q])) (fun q=>g (by simp [q])) e
   refine ⟨fun b o e n _ t=>Z t e,fun b o e n _ t=>⟨o.slots,Z t e⟩,fun b o e n _=>by rw [ym (Nat.ne_of_lt (Heap.lt_size e))]; exact n,fun b o e t=>⟨o,Z t e⟩,
    fun b ys e=>by rw [ym (yd e F)]; exact e,fun b o v e=>by rw [ym (yd e F)]; exact e,fun b ps e=>⟨#[],by rw [ym (yd e F),e]; simp⟩⟩
  have I1:Inv X O σ (upd H s.heap.objs.size (.tup [x,y])) { s with heap:=r }:=I.call' (s':={ s with heap:=r }) rfl un T I.bare fun b g=>by
   have f:=C b g
   exact ⟨f.2.2.2.1,f.2.1,f.2.2.2.2.1,f.2.2.2.2.2⟩
  refine ⟨.ref s.heap.objs.size,_,I1,rfl,⟨_,x,y,rfl,F,rfl,fun zs h=>by rw [I.tuple_inj h Q]; exact t,fun zs h=>by rw [I.tuple_inj h G]; exact hy⟩,?_,fun b g=>?_⟩
  ·exact ⟨a0,keep _ _ D.TIz D.TITO D.TIi1 D.TIi2 j,⟨u,u',(l.2 _ D.TOz).trans a2⟩,a3.at fun o e=>(l.2 _ D.i1z).trans e,a4.at fun o e=>(l.2 _ D.i2z).trans e⟩
  ·rw [ym (fun q=>?_)]
   ·exact (C b g).1
   ·have Q:b < s.heap.objs.size:=by
     simp only [List.mem_cons,List.not_mem_nil,or_false] at g
     rcases g with rfl | rfl | rfl | rfl | rfl <;> assumption
    exact absurd q (Nat.ne_of_lt Q)
 done:=by
  intro X hP hw hK hc i O s σ H E I C L hg
  subst hP hw hK
  obtain ⟨xs,ys,Q,G,t⟩:=hg
  obtain ⟨U,rv,p0,aa⟩:=I.tuple Q
  obtain ⟨J,Y,S,a7⟩:=I.tuple G
  have p:s.heap.IsTuple l1 U.toArray:=p0
  have p':s.heap.IsTuple l2 J.toArray:=S
  have D:=d.apartT L p p' (C TO (by simp)).1 hKT Q G
  obtain ⟨R,j,⟨va,vb,m⟩,M,N⟩:=L
  have hl:=rv.length
  have ae:=Y.length
  refine yqe (show X.A.handled=none from I.ok.hd hc) D R j m M N p p' (by simp; omega) fun h' hk=>⟨rfl,?_⟩
  have nt:∀ {b v},H b=some v->b≠z/\b≠TO/\b≠i1/\b≠i2:=fun {b v} e=>⟨yd e (C z (by simp)).1,yd e (C TO (by simp)).1,yd e (C i1 (by simp)).1,yd e (C i2 (by simp)).1⟩
  have T:HOk X.prog X.w H h':=fun b o e=>by
   refine (I.hok b o e).stay (fun c v B q=>?_) (fun c q=>q) fun c ys q=>q
   obtain ⟨n1,n2,n3,n4⟩:c≠z/\c≠TO/\c≠i1/\c≠i2:=by
    rcases B with rfl | B
    ·exact nt e
    ·exact nt B
   exact hk c v n1 n2 n3 n4 q
  have un:Un (frs X.stack) [z,TI,TO,i1,i2] H H s.heap h':=by
   have Z:∀ {b o},b∉[z,TI,TO,i1,i2]->s.heap.get? b=some o->h'.get? b=some o:=fun {b o} g e=>hk b o (fun q=>g (by simp [q])) (fun q=>g (by simp [q])) (fun q=>g (by simp [q])) (fun q=>g (by simp [q])) e
   exact ⟨fun b o e n _ t=>Z t e,fun b o e n _ t=>⟨o.slots,Z t e⟩,fun b o e n _=>n,fun b o e t=>⟨o,Z t e⟩,fun b ys e=>e,fun b o v e=>e,fun b ps e=>⟨#[],by rw [e]; simp⟩⟩
  exact I.call' (s':={ s with heap:=h' }) rfl un T I.bare fun b g=>by
   have f:=C b g
   exact ⟨f.2.2.2.1,f.2.1,f.2.2.2.2.1,f.2.2.2.2.2⟩
 self:=fun _ _ _ _ _ L h=>wpAny_pyIter_zip L.1 h
section
variable {X:Cx}
def vdn (K:W.Frag) (ta:TA):TI:=fun σ H R=>ta σ H fun vs H1=>∃ a b,vs=[.ref a,.ref b]/\(∃ xs ys,SqT K H1 a xs/\SqT K H1 b ys)/\R (vdv K a b) H1
theorem yut {elts:List Expr} {x1} {tpos:Pos} {l m:Expr} {ta:TA} {p pos:Pos} (hg:Gl X "zip") (hm:X.mg "zip"=none) (ha:PA X [l,m] ta) (hs:starEach [l,m] X.env=[(false,eval l X.env),(false,eval m X.env)]:=by rfl) (hs2:starEach [m] X.env=[(false,eval m X.env)]:=by rfl) :
  PI X (.Tuple elts x1 tpos) (.Call (.Name "zip" p) [l,m] [] pos) (vdn X.K ta):=by
 intro f s σ H R I h
 refine Call_ (ycr I hg hm (show bootBuiltins "zip"=some (.type "zip") by decide +kernel) (PyProof.Rows.callWith_type1 (thn (ha pos f s σ H _ I h) fun M c h'=>?_) (by rw [hs,hs2]) (by rw [hs2]; rfl)))
 obtain ⟨O,B,d,G,E⟩:=h'
 obtain ⟨a,b,e,⟨L,Q,C,x⟩,q⟩:=E
 subst e
 cases G with
 | cons r rr =>
  cases rr with
  | cons r' rr =>
   cases rr
   cases r
   cases r'
   obtain ⟨t,N,y,n⟩:=d.tuple C
   obtain ⟨g,F,j,z⟩:=d.tuple x
   refine yop (show c.heap.IsTuple a t.toArray from y) (show c.heap.IsTuple b g.toArray from j) fun P n u w J A D=>?_
   refine wpAny_pyIter_zip n ?_
   have k:X.K.lookup (c.heap.objs.size+3)=none:=by
    cases hl:X.K.lookup (c.heap.objs.size+3) with
    | none=>rfl
    | some o=>exact absurd (Heap.lt_size (d.kIn _ o hl)) (Nat.not_lt.mpr (Nat.le_add_right _ _))
   have v:Zap (c.heap.objs.size+4) (c.heap.objs.size+2) (c.heap.objs.size+3) c.heap.objs.size (c.heap.objs.size+1):=yr7 _
   refine ⟨c.heap.objs.size+4,[c.heap.objs.size+4,c.heap.objs.size+2,c.heap.objs.size+3,c.heap.objs.size,c.heap.objs.size+1],_,_,B,rfl,d.kept (t':=c.toks) D,ymt a b _ _ _ _ _ v k,⟨n,u,⟨_,_,w⟩,J,A⟩,fun b i=>?_,q⟩
   have i:c.heap.objs.size <= b:=by
    simp only [List.mem_cons,List.not_mem_nil,or_false] at i
    rcases i with rfl | rfl | rfl | rfl | rfl <;> omega
   exact d.fpOk i (d.hok.fresh i)
theorem ys3 {K:W.Frag} {ta:TA} {σ:St} {H:Hp} {R:It->Hp->Prop} (h:ta σ H fun vs H1=>∃ a b,vs=[.ref a,.ref b]/\(∃ xs ys,SqT K H1 a xs/\SqT K H1 b ys)/\R (vdv K a b) H1):vdn K ta σ H R:=h
end
theorem ygz {K:W.Frag} {a b D:Addr} {xs ys:List V} {g:TG} {te:TE} {n m:Nat} {fr:St} {R:Hp->Prop} {H1:Hp} (f:Nat->V) (hq:SqT K H1 a xs) (hq':SqT K H1 b ys) (h1:m <= xs.length) (h2:m <= ys.length) (h3:xs.length <= m\/ys.length <= m) (hD:H1 D=none)
  (hs:∀ i x y H t pre,i < m->xs[i]?=some x->ys[i]?=some y->y0 H1 H->H D=some (.lst ((List.range i).map f))->H t=none->List.length pre=n->g (.ref t) (pre++fr) (upd H t (.tup [x,y])) fun σ' H'=>(∃ pre',List.length pre'=n/\σ'=pre'++fr)/\te σ' H' (MpK H1 D f m i))
  (hd:∀ H,y0 H1 H->H D=some (.lst ((List.range m).map f))->R H):jq (vdv K a b) g te n fr D R H1:=by
 refine ⟨cW m (Mp H1 D f),⟨m,by simp,Nat.zero_le _,Mp.zero hD⟩,?_⟩
 rintro i j H ⟨rfl,r,p⟩
 have q:=p.1.tup hq
 have c:=p.1.tup hq'
 by_cases hlt:i < m
 ·refine .inr ⟨⟨xs,ys,xs[i]'(by omega),ys[i]'(by omega),q,c,List.getElem?_eq_getElem _,List.getElem?_eq_getElem _⟩,fun y H' pre l h=>?_⟩
  obtain ⟨t,x,y,rfl,o,rfl,d,k⟩:=l
  exact hs i x y H t pre hlt (d xs q) (k ys c) p.1 p.2 o h
 ·have e:i=m:=by omega
  subst e
  exact .inl ⟨⟨xs,ys,q,c,h3⟩,hd H p.1 p.2⟩
end L2
namespace L2
open PySem PySem.Spec PyProof.Rows HT
section
variable {prog:Program} {w:World} {A:Around} {E:Value->Shared->Prop} {s:Shared}
theorem yho {t sl:Addr} {items:Array Value} {vl vu:Value} {lo hi:Option Int} {Q:Value->Shared->Prop} (ht:IsTup s.heap t items) (hs:s.heap.IsSliceOf sl vl vu .none) (pl:IsPart vl lo) (pu:IsPart vu hi)
  (hw:sIx items.size 0 lo=0/\sIx items.size items.size hi=items.size) (h:Q (.ref t) s):wpAny (model prog w) A (getItem (.ref t) (.ref sl)) Q E s:=by
 obtain ⟨f,d,c,e⟩:=id hs
 have b:s.TypeIs (.ref sl) "slice":=⟨f,d,c⟩
 unfold getItem
 try with_reducible refine wpAny_holding ?_
 first | refine wpAny_bind (wpAny_pure ?_) | skip
 refine wpAny_bind (wpAny_sequenceKey ht.typeIs (by decide) ?_)
 refine wpAny_bind (wpAny_callSpecial?_slot (name:=Str.ofString "__getitem__") ht.typeIs PyProof.Rows.slot_tuple_getitem
  (wpAny_call_entry PyProof.Rows.slot_tuple_getitem ht.typeIs entry_tuple_getitem ?_ (args_tuple_getitem _ _)))
 show wpAny _ _ (Builtin.Tuple.tupleItemsOf (.ref t) >>= _) _ _ s
 refine wpAny_bind (tupleItemsOf_ ht ?_)
 refine wpAny_bind (wpAny_typeOf b ?_)
 rw [if_pos (by decide)]
 refine wpAny_bind (zf hs pl pu ?_)
 have a:(((sIx items.size 0 lo:Nat):Int) == 0 && (1:Int) == 1 && (sIx items.size items.size hi - sIx items.size 0 lo) == items.size)=true:=by
  rw [hw.1,hw.2]
  simp
 show wpAny _ _ (if (((sIx items.size 0 lo:Nat):Int) == 0 && (1:Int) == 1 && (sIx items.size items.size hi - sIx items.size 0 lo) == items.size)=true then _ else _) _ _ s
 rw [if_pos a]
 refine wpAny_bind (m:=Builtin.Tuple.tupleIsExact _) ?_
 unfold Builtin.Tuple.tupleIsExact
 refine wpAny_bind (wpAny_typeOf ht.typeIs (wpAny_pure ?_))
 show wpAny _ _ (if (Value.type "tuple" == Value.type "tuple")=true then _ else _) _ _ s
 rw [if_pos (by decide)]
 first
  | exact wpAny_bind (wpAny_rule (wpAny_pure ⟨_,rfl,wpAny_pure h⟩))
  | exact wpAny_bind (wpAny_rule (wpAny_bind (wpAny_pure (wpAny_pure ⟨_,rfl,wpAny_pure h⟩))))
  | exact wpAny_bind (wpAny_bind (wpAny_rule (wpAny_pure (wpAny_pure ⟨_,rfl,wpAny_pure h⟩))))
end
section
variable {X:Cx}
def ver (K:W.Frag):V->Option Int->Option Int->Hp->VK->Prop:=fun x lo hi H Q=>∃ a xs,x=.ref a/\SqT K H a xs/\(HT.sIx xs.length 0 lo=0/\HT.sIx xs.length xs.length hi=xs.length)/\Q (.ref a) H
theorem yvc:SlR X (ver X.K):=by
 intro d s σ H x v t u lo o p Q I l m g j h
 obtain ⟨a,k,rfl,f,i,q⟩:=h
 cases l
 obtain ⟨c,r,e,n⟩:=I.tuple f
 have b:c.toArray.size=k.length:=by rw [List.size_toArray]; exact r.length.symm
 exact ⟨"tuple",_,PyProof.Rows.slot_tuple_getitem.lookup,e.typeIs,yho e m g j (by rw [b]; exact i) ⟨.ref a,H,I,rfl,q⟩⟩
end
end L2
namespace L2
open PySem PySem.Spec PyProof.Rows PySem.SeqAt
open AutoSeq1 (wpAny_loadPart')
section
variable {X:Cx}
end
end L2
namespace L2
open PySem PySem.Spec PyProof.Rows
section
variable {X:Cx} {a b:Expr} {ta tb:TE} {pos:Pos} {ts:TS} {st:Stmt}
end
end L2
namespace L2
open PySem PySem.Spec PyProof.Rows
theorem yhq {X:Cx} {K:W.Frag} {e:Expr} {f:Str} {pos:Pos} {ta:TE} (hK:X.K=K) (he:PE X e ta) (hb:attributeBase e f X.env (eval e X.env)=eval e X.env):PE X (.Attribute e f pos) (vfi K ta f):=hK ▸ yq he hb
end L2
namespace L2
open PySem PySem.Spec PyProof.Rows
def ye3 (J:It) (tc:TT) (te:TE) (fr:St) (D:Addr) (R:Hp->Prop) (H1:Hp):Prop:=∃ W:Nat->Nat->Hp->Prop,(∃ m,W 0 m (upd H1 D (.lst []))) /\
 ∀ i m H2,W i m H2->(J.stop i H2/\R H2)\/(J.go i H2/\∀ x H3,J.yld i H2 x H3->tc (some x :: fr) H3 fun b H4=>if b=true then te (some x :: fr) H4 (fun y H5=>∃ ys,H5 D=some (.lst ys)/\ys.length < sizeLine/\∃ m',m' < m/\W (i+1) m' (upd H5 D (.lst (ys++[y])))) else ∃ m',m' < m/\W (i+1) m' H4)
def ysy (wi:TI) (tc:TT) (te:TE) (js:List Nat):TE:=fun σ H Q=>wi σ H fun J H1=>∀ D,H1 D=none->ye3 J tc te (w5 js σ) D (fun H2=>Q (.ref D) H2) H1
section
variable {X:Cx} {iter elt cnd:Expr} {tc:TT} {x:Str} {px pos:Pos} {scope:Scope} {te:TE} {wi:TI} {pins:List (Addr × Obj)} {σ:St} {ys:List Str} {js:List Nat}
theorem ykq {s2:Shared} {H2:Hp} {it:Addr} {fp:List Addr} {tn:Nat->Heap->Prop} {J:It} (hc:X.calm=true)
  (ht:∀ (C:Addr) (s2:Shared) (H2:Hp) (fp:List Addr),PT (X.compF scope ys C x s2 H2 fp) cnd tc) (he:∀ (C:Addr) (s2:Shared) (H2:Hp) (fp:List Addr),PE (X.compF scope ys C x s2 H2 fp) elt te)
  (hcell:∀ y∈scope.names,y.2≠.cell) (hkind:scope.kind=.function) (hx:scope.names.lookup x=some .local) (hnd:(x :: ys).Nodup)
  (hfr:∀ y∈scope.names,y.2=.free->y.1∈ys) (hyc:∀ y∈ys,X.env.kindOf y=some .cell) (hrel:∀ y∈ys,(relabel scope X.env).names.lookup y=some .cell) (hjs:js.map (fun j=>X.N[j]?)=ys.map some)
  (I2:Inv X pins σ H2 s2) (T:yk9 X.prog X.w X.K (.Name x px) J fp it tn) (st2:tn 0 s2.heap) (f2:∀ b∈fp,yid X pins H2 b)
  {R:Addr->Hp->Prop} (h:∀ D,H2 D=none->ye3 J tc te (w5 js σ) D (R D) H2) {RR:Value->Addr->Result->Shared->Prop} {E:Value->Shared->Prop}
  (hR:∀ (D C:Addr) (H':Hp) (s':Shared) (m:Str->Option Value),yid X pins H' C->s'.heap.Ns C m->Inv X pins σ H' s'->R D H'->RR (.ref D) C (.ok .next) s') :
  wpAny (model X.prog X.w) X.A (newList []) (fun acc s₃=>wpAny (model X.prog X.w) X.A (newFunctionEnv scope X.env.globals (jv ys X.env) [] X.env.qual none .none (some X.env)) (fun cenv s₄ =>
   codeAny (model X.prog X.w) X.A (.compStart (.ListComp elt [⟨.Name x px,iter,[cnd],0⟩] scope pos) 0 (.ref it) acc { cenv with scope:=relabel scope X.env }) (RR acc cenv.locals) s₄) E s₃) E s2:=by
 have g:∀ y c,(jv ys X.env).lookup y=some c->X.env.cells.lookup y=some c:=fun y c e=>by
  obtain ⟨m,rfl⟩:=yev e
  obtain ⟨c',q⟩:=I2.ok.has y (.inl (hyc y m))
  rw [q]
  rfl
 refine wpAny_newObj_type (wpAny_newFunctionEnv hcell (by intro y hy; simp at hy) (fun h₁ hns₁ hsb₁=>?_) hkind)
 dsimp only at hns₁ hsb₁ ⊢
 generalize P:s2.heap.push { cls:=.type "list",dict:=none,data:=.seq ([]:List Value).toArray }=G at hns₁ hsb₁ ⊢
 have hC:G.objs.size=s2.heap.objs.size+1:=by rw [<- P,Heap.size_push]
 have a2:s2.heap.objs.size≠G.objs.size:=by rw [hC]; exact Nat.ne_of_lt (Nat.lt_succ_self _)
 have B:s2.heap.objs.size <= G.objs.size:=by rw [hC]; exact Nat.le_succ _
 have f:∀ b,b < s2.heap.objs.size->b≠G.objs.size/\b≠s2.heap.objs.size:=fun b a=>⟨by rw [hC]; exact Nat.ne_of_lt (Nat.lt_succ_of_lt a),Nat.ne_of_lt a⟩
 have t:∀ b o,s2.heap.get? b=some o->h₁.get? b=some o:=fun b o e=>hsb₁.extBut b o (f b (Heap.lt_size e)).1 (Heap.get?_push_of_some _ (P ▸ Heap.get?_push_of_some _ e))
 have a3:h₁.get? s2.heap.objs.size=some { cls:=.type "list",data:=.seq ([]:List Value).toArray }:=hsb₁.extBut _ _ a2 (Heap.get?_push_of_some _ (P ▸ Heap.get?_push_size _ rfl))
 have U:∀ b∈fp,b < s2.heap.objs.size:=fun b a=>let ⟨_,e,_⟩:=T.obj 0 _ st2 b a; Heap.lt_size e
 have a6:∀ b∈fp,b∉frs X.stack:=fun b a z=>(List.mem_cons.mp (I2.stkSub b z)).elim (f2 b a).2.1 (f2 b a).2.2.1
 have nC:H2 G.objs.size=none:=I2.hok.fresh B
 have nD:H2 s2.heap.objs.size=none:=I2.hok.fresh (Nat.le_refl _)
 have k:∀ y c,(jv ys X.env).lookup y=some c->∃ v o,s2.heap.get? c=some o/\o.data=.cell v:=fun y c e=>by
  obtain ⟨v,o,q1,q2⟩:=I2.cell y c (g y c e)
  exact ⟨v,o,q1,q2⟩
 have a7:(X.compF scope ys G.objs.size x s2 H2 fp).Ok:=by
  refine ⟨I2.ok.mod,hkind,I2.ok.glob,I2.ok.blt,B,fun y z c e S=>I2.ok.inj y z c (g y c e) (g z c S),fun y e=>?_,fun y c z e=>(by cases z),I2.ok.hd,I2.ok.frames,.inl rfl,fun b a=>⟨(f b (U b a)).1,fun y c e=>(f2 b a).2.2.2.2.1 y c (g y c e)⟩,I2.bs,?_,fun b o e a=>?_,fun b a=>a6 b a,I2.stack,I2.stkFree⟩
  ·have S:(relabel scope X.env).names.lookup y=some .cell\/(relabel scope X.env).names.lookup y=some .free:=e
   have ab:y∈ys:=by
    rcases S with S | S
    ·obtain ⟨k0,m,q⟩:=xm S
     rcases q with q | q
     ·exact absurd q.symm (hcell _ m)
     ·exact hfr _ m q
    ·obtain ⟨k0,m,q⟩:=xm S
     rcases q with q | q
     ·exact hfr _ m q.symm
     ·exact hfr _ m q
   exact ⟨_,yae ab⟩
  ·exact Nat.le_trans I2.ok.bsz I2.sz
  ·rcases (f2 b a).2.2.2.1 with z | z
   ·exact I2.ok.noex b o e z
   ·exact absurd (Nat.lt_of_lt_of_le (Heap.lt_size (I2.ok.bs b o e).1) z) (Nat.lt_irrefl _)
 have a1:(w5 js σ).length=ys.length:=by
  have:=congrArg List.length hjs
  simpa [w5] using this
 have I3:∀ Y,Inv (X.compF scope ys G.objs.size x s2 H2 fp) [] (none :: w5 js σ) (upd H2 s2.heap.objs.size (.lst [])) { s2 with heap:=h₁,toks:=Y }:=fun Y =>
  ⟨a7,rfl,I2.bare,Un.laid t (Nat.le_refl _) nD,⟨_,hns₁,fun i y v e1 M e3=>by
    cases i with
    | zero=>cases M
    | succ i =>
     have e1:ys[i]?=some y:=by simpa using e1
     have M:(w5 js σ)[i]?=some (some v):=by simpa using M
     have hy:y∈ys:=List.mem_of_getElem? e1
     have Q:=congrArg (fun l=>l[i]?) hjs
     simp only [List.getElem?_map,e1,Option.map_some] at Q
     cases q:js[i]? with
     | none=>rw [q] at Q; cases Q
     | some j =>
      rw [q] at Q
      have Q:X.N[j]?=some y:=by simpa using Q
      have es:σ[j]?=some (some v):=by
       simp only [w5,List.getElem?_map,q,Option.map_some,Option.some.injEq] at M
       cases r:σ[j]? with
       | none=>rw [r] at M; cases M
       | some w'=>rw [r] at M; rw [show w'=some v from M]
      obtain ⟨m0,_,aa⟩:=I2.loc
      obtain ⟨u,ru,lk⟩:=aa j y v Q es (.inr (.inl (hyc y hy)))
      refine ⟨u,ru,.inr ⟨.inl (hrel y hy),?_⟩⟩
      rcases lk with ⟨k1,_⟩ | ⟨_,c,ec,o,ho,hd⟩
      ·rw [hyc y hy] at k1; cases k1
      ·refine ⟨c,?_,o,t c o ho,hd⟩
       show (jv ys X.env).lookup y=some c
       rw [yae hy,ec]
       rfl⟩,fun y c e=>(by
    obtain ⟨v,o,q1,q2⟩:=k y c e
    exact ⟨v,o,t c o q1,q2⟩),(by show upd H2 s2.heap.objs.size _ G.objs.size=none; rw [ym a2.symm]; exact nC),fun y c e=>(by
    obtain ⟨v,o,q1,q2⟩:=k y c e
    show upd H2 s2.heap.objs.size _ c=none
    rw [ym (f c (Heap.lt_size q1)).2]
    exact I2.freeC y c (g y c e)),fun p hp=>(by simp at hp),
   I2.hok.laid t (Nat.le_refl _) ⟨Nat.zero_le _,[],_,.nil,a3⟩,by show (none :: w5 js σ).length=(x :: ys).length; simp [a1]⟩
 have F:∀ {H':Hp},(∀ b∈fp,H' b=none)->∀ b∈fp,yid (X.compF scope ys G.objs.size x s2 H2 fp) [] H' b:=fun hn b a=>⟨hn b a,(f b (U b a)).1,a6 b a,.inl a,fun y c e=>(f2 b a).2.2.2.2.1 y c (g y c e),fun p hp=>(by simp at hp)⟩
 have O:∀ Y,codeAny (model X.prog X.w) X.A (.compLoop (.ListComp elt [⟨.Name x px,iter,[cnd],0⟩] scope pos) 0 (.ref it) (.ref s2.heap.objs.size) (compEnvC scope (jv ys X.env) G.objs.size X.env)) (RR (.ref s2.heap.objs.size) G.objs.size) { s2 with heap:=h₁,toks:=Y }:=by
  intro Y
  obtain ⟨W,⟨m0,w0⟩,a4⟩:=h s2.heap.objs.size nD
  refine codeAny_loop rfl (fun n s'=>∃ i v H',Inv (X.compF scope ys G.objs.size x s2 H2 fp) [] (v :: w5 js σ) H' s'/\tn i s'.heap/\(∀ b∈fp,H' b=none)/\W i n H') (fun n s' hI=>?_) m0
   ⟨0,none,_,I3 Y,T.keep 0 _ _ st2 (fun b a o e=>t b o e),fun b a=>(by rw [ym (f b (U b a)).2]; exact (f2 b a).1),w0⟩
  obtain ⟨i,v,H',I,st,fr,w⟩:=hI
  show wpAny _ _ ((compTurn (.ListComp elt [⟨.Name x px,iter,[cnd],0⟩] scope pos) 0 (.ref it) (.ref s2.heap.objs.size) (compEnvC scope (jv ys X.env) G.objs.size X.env)).onRaise (fun x=>do noteFrame x (compEnvC scope (jv ys X.env) G.objs.size X.env); theTreesLotGoes x)) _ _ s'
  refine wpAny_noted ?_
  rw [compTurn_list]
  refine wpAny_bind (wpAny_standAt (wpAny_bind ?_))
  rcases a4 i n H' w with ⟨a5,q⟩ | ⟨go,a0⟩
  ·refine thn (T.done (X.compF scope ys G.objs.size x s2 H2 fp) rfl rfl rfl hc i [] s' (v :: w5 js σ) H' _ I (F fr) st a5) fun r s4 ⟨hr,I4⟩=>?_
   subst hr
   refine wpAny_pure ?_
   obtain ⟨m,hn,_⟩:=I4.loc
   exact hR _ _ H' s4 m (I2.fpOk B I4.free) hn (I2.call' (ch:=fp) I4.os I4.base I4.hok I4.bare fun b a=>⟨(f2 b a).2.2.2.1,(f2 b a).2.1,(f2 b a).2.2.2.2.1,(f2 b a).2.2.2.2.2⟩) q
  ·refine thn (T.item (X.compF scope ys G.objs.size x s2 H2 fp) rfl rfl rfl hc i [] s' (v :: w5 js σ) H' _ I (F fr) st go) fun r s4 ⟨u,hr,h4⟩=>?_
   subst hr
   refine wpAny_bind (thn h4 fun _ s5 ⟨y,H5,I5,r5,y5,L,a9⟩=>wpAny_bind ?_)
   have a8:=I5.pinned (F a9) (T.obj _ _ L)
   refine wpAny_assign_Name (yes (i:=0) a8 hnd rfl (Or.inl (lookup_relabel_local hx)) r5 (fun s6 I6=>?_) (Or.inr (lookup_relabel_local hx)))
   refine wpAny_bind (wpAny_tests_one (yx3 (ht _ _ _ _ _ s6 (some y :: w5 js σ) H5 _ I6 (a0 y H5 y5)) fun b s7 ⟨H6,Z,q7⟩=>?_))
   cases b with
   | false =>
    obtain ⟨m',hm,w'⟩:=q7
    have H:∀ b∈fp,∀ o,s5.heap.get? b=some o->s7.heap.get? b=some o/\H6 b=none:=fun b a o e =>
     ⟨(Z.pin (b,o) (List.mem_append_right _ (List.mem_append_right _ (xr a e)))).1,(Z.pin (b,o) (List.mem_append_right _ (List.mem_append_right _ (xr a e)))).2.1⟩
    refine wpAny_pure ⟨rfl,m',hm,i+1,some y,_,Z.unpinned,T.keep _ _ _ L fun b a o e=>(H b a o e).1,fun b a=>?_,w'⟩
    obtain ⟨o,e,d⟩:=T.obj _ _ L b a
    exact (H b a o e).2
   | true =>
    refine wpAny_bind (wpAny_bind (yx3 (he _ _ _ _ _ s7 (some y :: w5 js σ) H6 _ Z q7) fun u2 s7 ⟨y2,H7,Z,r7,zs,hD,hl,m',hm,w'⟩=>wpAny_bind ?_))
    refine yx3 (wu _ s7 (some y :: w5 js σ) H7 (.ref s2.heap.objs.size) [y2] (.ref s2.heap.objs.size) [u2] (fun _ H8=>H8=upd H7 s2.heap.objs.size (.lst (zs++[y2]))) Z rfl (.cons r7 .nil) ⟨_,zs,y2,rfl,rfl,hD,hl,rfl⟩) fun _ s8 h'=>?_
    obtain ⟨_,H8,I8,_,e8⟩:=h'
    subst e8
    have H:∀ b∈fp,∀ o,s5.heap.get? b=some o->s8.heap.get? b=some o/\upd H7 s2.heap.objs.size (HO.lst (zs++[y2])) b=none:=fun b a o e =>
     ⟨(I8.pin (b,o) (List.mem_append_right _ (List.mem_append_right _ (xr a e)))).1,(I8.pin (b,o) (List.mem_append_right _ (List.mem_append_right _ (xr a e)))).2.1⟩
    refine wpAny_pure (wpAny_pure ⟨rfl,m',hm,i+1,some y,_,I8.unpinned,T.keep _ _ _ L fun b a o e=>(H b a o e).1,fun b a=>?_,w'⟩)
    obtain ⟨o,e,d⟩:=T.obj _ _ L b a
    exact (H b a o e).2
 exact codeAny_compStart_list (O _) (T.self X.A 0 _ _ _ (T.keep 0 _ _ st2 (fun b a o e=>t b o e)) (O _))
theorem ypn {i:Nat} {y:Str} {py spos:Pos} (hN:X.N.Nodup) (hy:X.N[i]?=some y) (hl:X.env.scope.names.lookup y=some .local) (hc:X.calm=true) (hi:PI X (.Name x px) iter wi)
  (ht:∀ (C:Addr) (s2:Shared) (H2:Hp) (fp:List Addr),PT (X.compF scope ys C x s2 H2 fp) cnd tc) (he:∀ (C:Addr) (s2:Shared) (H2:Hp) (fp:List Addr),PE (X.compF scope ys C x s2 H2 fp) elt te) (hjs:js.map (fun j=>X.N[j]?)=ys.map some)
  (hclos:closureFor scope X.env=pure (jv ys X.env)) (hyc:∀ y∈ys,X.env.kindOf y=some .cell) (hrel:∀ y∈ys,(relabel scope X.env).names.lookup y=some .cell)
  (hsw:swapsWith (.ListComp elt [⟨.Name x px,iter,[cnd],0⟩] scope pos) (some (.Name y py)) spos.line X.env=pure true:=by rfl) (hnd:(x :: ys).Nodup:=by decide)
  (hfr:∀ y∈scope.names,y.2=.free->y.1∈ys:=by decide +kernel) (hcell:∀ y∈scope.names,y.2≠.cell:=by decide +kernel) (hkind:scope.kind=.function:=by rfl)
  (hnames:∀ y∈scope.names,y.2=.local->scope.names.lookup y.1=some .local:=by decide +kernel) (hx:scope.names.lookup x=some .local:=by rfl) (hs:∀ x,foldedSetIterable iter X.env x=pure x:=by intro _; rfl) :
  PS X (.Assign [.Name y py] (.ListComp elt [⟨.Name x px,iter,[cnd],0⟩] scope pos) spos) (vdw (ysy wi tc te js) (w4 i)):=by
 intro a s σ H p I h
 rw [exec_Assign_Name_used _ _ _ _ hsw]
 refine wpAny_bind (wpAny_standAt (wpAny_bind ?_))
 show wpAny _ X.A (do let _ <- comprehension (.ListComp elt [⟨.Name x px,iter,[cnd],0⟩] scope pos) scope X.env _ (newList []) false (eval iter X.env) (some (assign (.Name y py) X.env))) _ _ s
 refine wpAny_bind (wpAny_mono (wpAny_comprehension_free (use:=some (assign (.Name y py) X.env)) (Q:=fun _ d=>SP X a p .next d) rfl hs hclos hkind hnames (thn (hi a s σ H _ I h) fun v U M=>thn M fun L s2 u=>?_)) (fun _ d F=>wpAny_pure (wpAny_pure F)) fun _ _ e=>e)
 obtain ⟨P,fp,O,J,H2,e,E,T,t,B,h⟩:=u
 subst e
 refine ykq (R:=fun D k=>w4 i (.ref D) σ k p.nx) (RR:=compPost (model X.prog X.w) X.A X.xe (some (assign (.Name y py) X.env)) (fun _ d=>SP X a p .next d)) hc ht he hcell hkind hx hnd hfr hyc hrel hjs E T t B h ?_
 intro D C k d m f K G q
 refine wpAny_assign_Name (j3 (v:=V.ref D) G hN hy (Or.inl hl) rfl (fun n r g=>?_) (Or.inr hl))
 refine ⟨m,?_,fun S l=>⟨_,k,?_,q⟩⟩
 ·obtain ⟨b,l,c⟩:=g
  refine K.sameBut l fun z=>?_
  rcases c with c | c
  ·exact f.2.1 (z.trans c)
  ·exact f.2.2.2.2.1 y b c z.symm
 ·exact r.turned (t':=n.toks) (fun b o c e=>l.extBut b o c e) f.1 f.2.1 f.2.2.2.1 f.2.2.2.2.1 f.2.2.2.2.2
theorem yt5 {H:Hp} {Q:VK} (h:wi σ H fun J H1=>∀ D,H1 D=none->ye3 J tc te (w5 js σ) D (fun H2=>Q (.ref D) H2) H1):ysy wi tc te js σ H Q:=h
theorem ygy {lo:Int} {n:Nat} {D:Addr} {tc:TT} {te:TE} {fr:St} {R:Hp->Prop} {H1:Hp} (Pv:Nat->Hp->Prop) (h0:Pv 0 (upd H1 D (.lst [])))
  (hs:∀ i H,i < n->Pv i H->tc (some (.int (lo+i)) :: fr) H fun b H4=>if b=true then te (some (.int (lo+i)) :: fr) H4 (fun y H5=>∃ ys,H5 D=some (.lst ys)/\ys.length < sizeLine/\∃ m',m' < n - i/\cW n Pv (i+1) m' (upd H5 D (.lst (ys++[y])))) else ∃ m',m' < n - i/\cW n Pv (i+1) m' H4)
  (hd:∀ H,Pv n H->R H):ye3 (Itr lo n) tc te fr D R H1:=by
 refine ⟨cW n Pv,⟨n,by simp,Nat.zero_le _,h0⟩,?_⟩
 rintro i m H ⟨rfl,c,p⟩
 by_cases hlt:i < n
 ·refine .inr ⟨hlt,fun x a y=>?_⟩
  obtain ⟨e,y⟩:=y
  subst e y
  exact hs i _ hlt p
 ·have e:i=n:=by omega
  subst e
  exact .inl ⟨Nat.le_refl _,hd H p⟩
theorem ylc {n i:Nat} {Pv:Nat->Hp->Prop} {H4:Hp} (hi:i < n) (p:Pv (i+1) H4):∃ m',m' < n - i/\cW n Pv (i+1) m' H4:=⟨n - (i+1),by omega,rfl,hi,p⟩
end
end L2
namespace L2
open PySem PySem.Spec PyProof.Rows
structure yoi (K:W.Frag) (x qual:Str) (st:Stmt) (D:Addr) (f:Addr) (fd:FuncData):Prop where
 ex:∃ (oc:Value) (od:Option Addr) (kV doc pm:Value) (an:Option Addr) (cdv ct:Value) (osl:Array (Option Value)),
  fd=W.fnOf x qual (w6 st) (wq st) (yg st) (.ref D) kV doc pm an cdv ct/\K.lookup f=some ⟨oc,od,.func fd,osl⟩/\W.codeIn K cdv qual=true
 kp:W.keepIn K (.ref f)=true
section
variable {P:Program} {w:World} {K:W.Frag} {mg:Str->Option Value} {base:Heap}
theorem yoi.okE {x qual:Str} {st:Stmt} {f D:Addr} {fd:FuncData} {N ps:List Str} {k:Nat} {sp:Sp} (F:yoi K x qual st D f fd) (S:yk N ps (yg st)) (len:∀ vs H Q E,sp vs H Q E->vs.length=ps.length)
  (hbody:∀ (cdv:Value) (A:Around) (outer:List Env) (s:Shared) (H:Hp) (vs:List V) (Q:VK) (E:XK),jb k (A.deeper (envOfC qual (yg st) s.heap.objs.size f cdv))->sp vs H Q E ->
   ∃ t,PSs (vz (CXe P w) P w K mg base N qual (yg st) f cdv A outer s H E) (wq st) t/\t { nx:=fun _ H'=>Q .non H',rt:=Q } (ybi N vs) H):wc P w K mg base (CXe P w) (k+1) f fd ps sp:=by
 obtain ⟨l,h,kV,d,j,m,cdv,i,e,rfl,c,a⟩:=F.ex
 exact yw3 c a S len fun A outer s H vs Q E g b=>hbody cdv A outer s H vs Q E g b
theorem yoi.binds {x qual:Str} {st:Stmt} {f D:Addr} {fd:FuncData} {ps:List Str} {ds:List Value} {o:Obj} {its:Array Value} {n j:Nat} (hj:j+ds.length=ps.length) (F:yoi K x qual st D f fd) (hD:K.lookup D=some o) (ho:o.data=.seq its n)
  (h:∀ (kV doc pm:Value) (an:Option Addr) (cdv ct:Value) (us:List Value),us.length=j ->
   ∃ k:Option (Array Value)->Sem (List (Str × Value)),bindArgs (W.fnOf x qual (w6 st) (wq st) (yg st) (.ref D) kV doc pm an cdv ct) ⟨us,[]⟩=(seqItems? (.ref D) >>= k)/\k (some its)=pure (ps.zip (us++ds))):ux K fd ps ds:=by
 obtain ⟨m,l,kV,doc,pm,an,cdv,ct,c,rfl,i,b⟩:=F.ex
 intro s us a e
 obtain ⟨k,d,g⟩:=h kV doc pm an cdv ct us (by rw [List.length_append] at e; omega)
 exact BindsTo.of_defaults rfl (a _ _ hD) ho d g
theorem ynh {x qual:Str} {st:Stmt} {f D:Addr} {oc:Value} {od an:Option Addr} {osl:Array (Option Value)} {kV doc pm cdv ct:Value} (l:K.lookup f=some ⟨oc,od,.func (W.fnOf x qual (w6 st) (wq st) (yg st) (.ref D) kV doc pm an cdv ct),osl⟩)
  (c:W.codeIn K cdv qual=true) (k:W.keepIn K (.ref f)=true):yoi K x qual st D f (W.fnOf x qual (w6 st) (wq st) (yg st) (.ref D) kV doc pm an cdv ct):=⟨⟨oc,od,kV,doc,pm,an,cdv,ct,osl,rfl,l,c⟩,k⟩
end
end L2
namespace L2
open PySem PySem.Spec PyProof.Rows
def yue (K:W.Frag):List V->Hp->VK->Prop:=fun xs H Q=>∃ p ys,xs=[.ref p]/\(SqL K H p ys\/SqT K H p ys)/\∀ l,H l=none->Q (.ref l) (upd H l (.lst ys))
end L2
namespace L2
open PySem PySem.Spec PyProof.Rows
end L2
namespace L2
open PySem PySem.Spec PyProof.Rows
section
variable {X:Cx} {body suite:List Stmt} {b₀:Stmt} {tx n:Str} {np hpos pos:Pos} {D:Addr} {i:Nat} {tb:(St->XK)->TS} {ts:TS}
abbrev THs:=ye7->St->Addr->Addr->Hp->Prop
end
section
variable {σ:St} {H:Hp} {nx:St->Hp->Prop} {rt:VK} {bk ct:St->Hp->Prop} {ts:TS}
end
end L2
namespace L2
open PySem PySem.Spec PyProof.Rows
section
variable {X:Cx} {pins:List (Addr × Obj)} {σ:St} {H:Hp} {s:Shared} {x T:Addr} {C:Value} {M:Model} {A:Around} {E:Value->Shared->Prop}
end
section
variable {X:Cx} {iter elt:Expr} {x:Str} {px pos:Pos} {scope:Scope} {te:TE} {wi:TI} {pins:List (Addr × Obj)} {σ:St}
end
section
variable {σ:St} {H:Hp} {Q:VK} {wi:TI} {te:(St->XK)->TE} {Ex:XK}
end
end L2
namespace L2
open PySem PySem.Spec PyProof.Rows
section
variable {M:Model} {h:Heap} {K:W.Frag}
end
section
variable {X:Cx} {suite:List Stmt} {b₀:Stmt} {tx n:Str} {np hpos pos:Pos} {D:Addr} {i:Nat} {ts:TS}
end
section
variable {σ:St} {H:Hp} {ts:TS} {K:W.Frag} {Ca D:Addr} {tr:THs} {En:ye7} {i:Nat} {cs:List Addr}
end
end L2
namespace L2
open PySem PySem.Spec PyProof.Rows
structure Dg (K:W.Frag) (x q:Str) (st:Stmt) (f:Addr) (fd:FuncData) (M:Prop):Prop where
 F:Fun K x q st f fd
 m:M
structure Df (K:W.Frag) (x q:Str) (st:Stmt) (ps:List Str) (f:Addr) (fd:FuncData) (M:Prop):Prop where
 F:Fun K x q st f fd
 B:ux K fd ps []
 m:M
abbrev Dgf (K:W.Frag) (mg:Str->Option Value) (x:Str) (st:Stmt) (f:Addr) (fd:FuncData):Prop:=Dg K x x st f fd (mg x=some (.ref f))
abbrev Dgm (K:W.Frag) (C:Addr) (x q:Str) (st:Stmt) (f:Addr) (fd:FuncData):Prop:=Dg K x q st f fd (yxw K C x f)
abbrev Dff (K:W.Frag) (mg:Str->Option Value) (x:Str) (st:Stmt) (ps:List Str) (f:Addr) (fd:FuncData):Prop:=Df K x x st ps f fd (mg x=some (.ref f))
abbrev Dfm (K:W.Frag) (C:Addr) (x q:Str) (st:Stmt) (ps:List Str) (f:Addr) (fd:FuncData):Prop:=Df K x q st ps f fd (yxw K C x f)
section
variable {K:W.Frag} {mg:Str->Option Value} {h:Heap} {x q:Str} {st:Stmt} {f C:Addr} {fd:FuncData} {M:Prop} {oc kV doc pm cdv ct:Value} {od an:Option Addr} {osl:Array (Option Value)}
theorem dgf_mk (X:K.In h) (G:h.Ns mainGlobals mg) (a:W.nsIn K mainGlobals x=some (some (.ref f))) (l:K.lookup f=some ⟨oc,od,.func (W.fnOf x x (w6 st) (wq st) (yg st) .none kV doc pm an cdv ct),osl⟩)
  (c:W.codeIn K cdv x=true) (k:W.keepIn K (.ref f)=true):Dgf K mg x st f (W.fnOf x x (w6 st) (wq st) (yg st) .none kV doc pm an cdv ct):=⟨yrq l c k,W.mg_of X G a⟩
theorem dgm_mk (a:W.findIn K (.ref C) x=some (some (.ref f))) (i:W.isFn K (.ref f)=true) (l:K.lookup f=some ⟨oc,od,.func (W.fnOf x q (w6 st) (wq st) (yg st) .none kV doc pm an cdv ct),osl⟩)
  (c:W.codeIn K cdv q=true) (k:W.keepIn K (.ref f)=true):Dgm K C x q st f (W.fnOf x q (w6 st) (wq st) (yg st) .none kV doc pm an cdv ct):=⟨yrq l c k,a,i,k⟩
theorem Dg.d1 {p0:Str} (D:Dg K x q st f fd M) (h:∀ (kV doc pm:Value) (an:Option Addr) (cdv ct:Value) (u0:Value),bindArgs (W.fnOf x q (w6 st) (wq st) (yg st) .none kV doc pm an cdv ct) ⟨[u0],[]⟩=pure [(p0,u0)]):Df K x q st [p0] f fd M :=
 ⟨D.F,D.F.binds fun kV doc pm an cdv ct a b=>match a,b with | [u0],_=>h kV doc pm an cdv ct u0,D.m⟩
theorem Dg.d2 {p0 p1:Str} (D:Dg K x q st f fd M) (h:∀ (kV doc pm:Value) (an:Option Addr) (cdv ct:Value) (u0 u1:Value),bindArgs (W.fnOf x q (w6 st) (wq st) (yg st) .none kV doc pm an cdv ct) ⟨[u0,u1],[]⟩=pure [(p0,u0),(p1,u1)]):Df K x q st [p0,p1] f fd M :=
 ⟨D.F,D.F.binds fun kV doc pm an cdv ct a b=>match a,b with | [u0,u1],_=>h kV doc pm an cdv ct u0 u1,D.m⟩
theorem Dg.d3 {p0 p1 p2:Str} (D:Dg K x q st f fd M) (h:∀ (kV doc pm:Value) (an:Option Addr) (cdv ct:Value) (u0 u1 u2:Value),bindArgs (W.fnOf x q (w6 st) (wq st) (yg st) .none kV doc pm an cdv ct) ⟨[u0,u1,u2],[]⟩=pure [(p0,u0),(p1,u1),(p2,u2)]):Df K x q st [p0,p1,p2] f fd M :=
 ⟨D.F,D.F.binds fun kV doc pm an cdv ct a b=>match a,b with | [u0,u1,u2],_=>h kV doc pm an cdv ct u0 u1 u2,D.m⟩
theorem Dg.d4 {p0 p1 p2 p3:Str} (D:Dg K x q st f fd M) (h:∀ (kV doc pm:Value) (an:Option Addr) (cdv ct:Value) (u0 u1 u2 u3:Value),bindArgs (W.fnOf x q (w6 st) (wq st) (yg st) .none kV doc pm an cdv ct) ⟨[u0,u1,u2,u3],[]⟩=pure [(p0,u0),(p1,u1),(p2,u2),(p3,u3)]):Df K x q st [p0,p1,p2,p3] f fd M :=
 ⟨D.F,D.F.binds fun kV doc pm an cdv ct a b=>match a,b with | [u0,u1,u2,u3],_=>h kV doc pm an cdv ct u0 u1 u2 u3,D.m⟩
end
section
variable {K:W.Frag} {H:Hp} {p C dx:Addr} {fs fs':List (Str × V)} {v:V} {nm:Str} {P:V->Prop} {nx:St->Hp->Prop} {σ:St}
abbrev RdX (K:W.Frag) (H:Hp) (p:Addr) (nm:Str) (P:V->Prop):Prop:=∃ a' C dx fs v,V.ref p=.ref a'/\H a'=some (.ins C dx fs)/\Cls K C/\vi K C nm/\fs.lookup nm=some v/\P v
abbrev StX (K:W.Frag) (H:Hp) (p:Addr) (nm:Str) (v:V) (nx:St->Hp->Prop) (σ:St):Prop:=∃ a' C dx fs,V.ref p=.ref a'/\H a'=some (.ins C dx fs)/\Cls K C/\vi K C nm/\fs.length < 1000/\vy nx σ (upd H a' (.ins C dx (z9 nm v fs)))
abbrev MtX (H:Hp) (p C:Addr) (nm:Str) (R:Prop):Prop:=∃ a dx fs,V.ref p=.ref a/\H a=some (.ins C dx fs)/\fs.lookup nm=none/\R
theorem rdX (hp:H p=some (.ins C dx fs)) (c:Cls K C) (n:vi K C nm) (l:fs.lookup nm=some v) (h:P v):RdX K H p nm P:=⟨p,C,dx,fs,v,rfl,hp,c,n,l,h⟩
theorem stX (hp:H p=some (.ins C dx fs)) (c:Cls K C) (n:vi K C nm) (l:fs.length < 1000) (e:z9 nm v fs=fs') (h:vy nx σ (upd H p (.ins C dx fs'))):StX K H p nm v nx σ:=⟨p,C,dx,fs,rfl,hp,c,n,l,by rw [e]; exact h⟩
theorem wx {N P:List Str} {sc:Scope} (h:(sc.kind=.function/\sc.isCoroutine=false/\sc.isGenerator=false)/\N.Nodup/\N.take P.length=P/\(∀ x∈P,sc.names.lookup x=some .local\/sc.names.lookup x=some .cell)/\∀ y∈sc.names,y.2≠.free):yk N P sc:=⟨h.1.1,h.1.2.1,h.1.2.2,h.2.1,h.2.2.1,h.2.2.2.1,h.2.2.2.2⟩
end
end L2
namespace L2
open PySem PySem.Spec PyProof.Rows
section
variable {prog:Program} {w:World} {A:Around} {E:Value->Shared->Prop} {s:Shared} {d:Addr} {od:Obj} {es:Array DictEntry} {ep:Nat}
end
end L2
namespace L2
open PySem PySem.Spec PyProof.Rows
theorem Inv.freeze {X:Cx} {pins:List (Addr × Obj)} {σ:St} {H:Hp} {s:Shared} {d:Addr} {u:HO} {o:Obj} (I:Inv X pins σ H s) (hd:H d=some u) (mu:Mut (some u)) (ho:s.heap.get? d=some o):Inv X pins σ (upd H d (.frz o u)) s:=by
 have h:∀ {b},H b=none->b≠d:=fun n z=>by rw [z,hd] at n; cases n
 have g:∀ {b v},H b=some v->¬ Mut (some v)->b≠d:=fun e n z=>by rw [z,hd] at e; cases e; exact n mu
 refine ⟨I.ok,I.os,I.bare,⟨I.base.keep,I.base.slot,fun b i e n k=>?_,I.base.there,fun b w e=>?_,fun b i v e=>?_,fun b A e=>?_⟩,I.loc,I.cell,?_,fun x c e=>?_,fun p t=>?_,fun b v e=>?_,I.len⟩
 ·have z:=I.base.free b i e n k; rw [ym (h z)]; exact z
 ·have z:=I.base.tups b w e; rw [ym (g z id)]; exact z
 ·have z:=I.base.frzs b i v e; rw [ym (g z id)]; exact z
 ·obtain ⟨m,z⟩:=I.base.tbls b A e; exact ⟨m,by rw [ym (g z id)]; exact z⟩
 ·rw [ym (h I.free)]; exact I.free
 ·rw [ym (h (I.freeC x c e))]; exact I.freeC x c e
 ·obtain ⟨r,j,l⟩:=I.pin p t; exact ⟨r,by rw [ym (h j)]; exact j,l⟩
 ·have a:∀ {c y},H c=some (.own y)->upd H d (.frz o u) c=some (.own y):=fun q=>by rw [ym (g q id)]; exact q
  have f:∀ {c y},H c=some (.tup y)->upd H d (.frz o u) c=some (.tup y):=fun q=>by rw [ym (g q id)]; exact q
  by_cases hb:b=d
  ·subst hb; rw [ya] at e; cases e; exact ⟨ho,(I.hok b _ hd).stay (fun _ _ _ q=>q) (fun _ q=>a q) fun _ _ q=>f q⟩
  ·rw [ym hb] at e; exact (I.hok b v e).stay (fun _ _ _ q=>q) (fun _ q=>a q) fun _ _ q=>f q
theorem Inv.thaw {X:Cx} {pins:List (Addr × Obj)} {σ:St} {H:Hp} {s:Shared} {d:Addr} {u:HO} {o:Obj} (I:Inv X pins σ H s) (h0:∀ o u,X.H₀ d≠some (.frz o u)) (hd:H d=some (.frz o u)):Inv X pins σ (upd H d u) s:=by
 have g:∀ {b},H b=none->b≠d:=fun n z=>by rw [z,hd] at n; cases n
 refine ⟨I.ok,I.os,I.bare,⟨I.base.keep,I.base.slot,fun b h e n j=>?_,I.base.there,fun b t e=>?_,fun b h u e=>?_,fun b A e=>?_⟩,I.loc,I.cell,?_,fun x c e=>?_,fun p r=>?_,fun b v e=>?_,I.len⟩
 ·have z:=I.base.free b h e n j; rw [ym (g z)]; exact z
 ·have z:=I.base.tups b t e; rw [ym (xi z hd (by intro w; cases w))]; exact z
 ·rw [ym (fun z=>h0 h u (by rw [<- z]; exact e))]; exact I.base.frzs b h u e
 ·obtain ⟨m,z⟩:=I.base.tbls b A e; exact ⟨m,by rw [ym (xi z hd (by intro w; cases w))]; exact z⟩
 ·rw [ym (g I.free)]; exact I.free
 ·rw [ym (g (I.freeC x c e))]; exact I.freeC x c e
 ·obtain ⟨l,i,k⟩:=I.pin p r; exact ⟨l,by rw [ym (g i)]; exact i,k⟩
 ·have a:∀ {c y},H c=some (.own y)->upd H d u c=some (.own y):=fun q=>by rw [ym (xi q hd (by intro w; cases w))]; exact q
  have f:∀ {c y},H c=some (.tup y)->upd H d u c=some (.tup y):=fun q=>by rw [ym (xi q hd (by intro w; cases w))]; exact q
  by_cases hb:b=d
  ·subst hb; rw [ya] at e; cases e; exact (I.hok b _ hd).2.stay (fun _ _ _ q=>q) (fun _ q=>a q) fun _ _ q=>f q
  ·rw [ym hb] at e; exact (I.hok b v e).stay (fun _ _ _ q=>q) (fun _ q=>a q) fun _ _ q=>f q
theorem ylb {α β:Type} {F:α->β->Prop} {l₁:List α} {l₂:List β} (h:Paired F l₁ l₂):∀ {i:Nat} {y:β},l₂[i]?=some y->∃ x,l₁[i]?=some x/\F x y:=by
 induction h with
 | nil=>intro i y e; cases e
 | cons r t ih =>
  intro i y e
  cases i with
  | zero=>cases e; exact ⟨_,rfl,r⟩
  | succ j=>exact ih e
section
variable {X:Cx}
def vc1 (H:Hp) (D:ye7):ye7:={ D with nx:=fun σ' H'=>∃ d o u,(∀ o u,H d≠some (.frz o u))/\H' d=some (.frz o u)/\D.nx σ' (upd H' d u) }
def vdm (t:TS):TS:=fun D σ H=>t (vc1 H D) σ H
theorem ytb {st:Stmt} {t:TS} (h:PS X st t):PS X st (vdm t):=by
 intro a s σ H D I q
 refine thn (h a s σ H _ I q) fun f j z=>?_
 cases f with
 | next =>
  obtain ⟨σ',i,J,d,o,g,b,c,k⟩:=z
  exact ⟨σ',_,J.thaw (fun o u e=>b o u (I.base.frzs d o u e)) c,k⟩
 | brk=>exact z
 | cont=>exact z
 | ret u=>exact z
theorem yzz {t:TS} {D:ye7} {σ:St} {H:Hp} (h:t (vc1 H D) σ H):vdm t D σ H:=h
end
end L2
namespace L2
open PySem PySem.Spec PyProof.Rows
def Its (x:Str):It:=⟨fun i _=>i < x.cps.size,fun i H v H'=>H'=H/\∃ c,x.cps[i]?=some c/\v=.str ⟨#[c]⟩,fun i _=>i=x.cps.size⟩
theorem yiy {P:Program} {w:World} {K:W.Frag} {tg:Expr} {ty:String} (x:Str) (t:Tok) (it:Addr) (hn:["enumerate","zip","dict_itemiterator","dict_reverseitemiterator","odict_iterator","itertools.zip_longest","itertools.pairwise"].contains ty=false)
  (W:∀ A:Around,A.handled=none->Walks P w A it [it] [it] x.cps.size (SignAt x) (fun i h=>h.IsStrIter it ty x t i)) (hs:∀ (A:Around) (i:Nat) (s:Shared) (Q E:Value->Shared->Prop),s.heap.IsStrIter it ty x t i->Q (.ref it) s->wpAny (model P w) A (pyIter (.ref it)) Q E s):yk9 P w K tg (Its x) [it] it (fun i h=>h.IsStrIter it ty x t i) where
 mem:=by simp
 obj:=fun i h a b g=>by
  have e:b=it:=by simpa using g
  subst e
  obtain ⟨o,e,_,d⟩:=a
  exact ⟨o,e,fun v z=>by rw [d] at z; cases z⟩
 keep:=fun i h n a k=>let ⟨o,e,r⟩:=a; ⟨o,k it (by simp) o e,r⟩
 item:=by
  intro X F M p q i f s σ H E I m a j
  subst F M p
  obtain ⟨J,C,S,y,B,D⟩:=m it (by simp)
  refine (W X.A (I.ok.hd q)).item i s _ _ j a fun v n L O l G=>?_
  obtain ⟨c,u,N,rfl⟩:=O
  have R:Inv X f σ H { s with heap:=n,toks:=L }:=I.turned (fun b o g e=>G b o (by simpa using g) e) J C y B D
  obtain ⟨o,e,U,T⟩:=id l
  exact ⟨_,rfl,yk4 (s:={ s with heap:=n,toks:=L }) e U T hn ⟨.str ⟨#[c]⟩,H,R,⟨u,rfl⟩,⟨rfl,c,N,rfl⟩,l,fun b g=>(m b g).1⟩⟩
 done:=by
  intro X F M p q i f s σ H E I m a j
  subst F M p
  have j:i=x.cps.size:=j
  subst j
  obtain ⟨J,C,S,y,B,D⟩:=m it (by simp)
  exact (W X.A (I.ok.hd q)).done s _ _ a fun n L G=>⟨rfl,I.turned (fun b o g e=>G b o (by simpa using g) e) J C y B D⟩
 self:=fun A i s Q E a h=>hs A i s Q E a h
section
variable {X:Cx} {tg:Expr}
def vgn (tl:TE):TI:=fun σ H R=>tl σ H fun v H1=>∃ x,v=.str x/\R (Its x) H1
theorem yyi {l:Expr} {tl:TE} (hl:PE X l tl):PI X tg l (vgn tl):=by
 intro a s σ H R I h
 refine thn (hl a s σ H _ I h) fun v c h'=>?_
 obtain ⟨y,i,f,k,x,e,q⟩:=h'
 subst e
 obtain ⟨t,rfl⟩:=k
 have d:∀ {ob:Obj},∀ b∈[c.heap.objs.size],yid X a i b:=fun {_} b m=>by
  have e:b=c.heap.objs.size:=by simpa using m
  subst e
  exact f.fpOk (Nat.le_refl _) (f.hok.fresh (Nat.le_refl _))
 cases ha:x.cps.all (· < 128)
 ·refine wpAny_pyIter_wide ha ?_
  exact ⟨c.heap.objs.size,[c.heap.objs.size],_,_,i,rfl,f.kept (t':=c.toks) fun b o e=>Heap.get?_push_of_some _ e,yiy x t _ (by decide) (fun A j=>Walks.strWide j _ x t) (fun _ _ _ _ _ g h=>wpAny_pyIter_striter_wide g h),⟨_,Heap.get?_push_size _ rfl,rfl,rfl⟩,d (ob:=default),q⟩
 ·refine wpAny_pyIter_ascii ha ?_
  exact ⟨c.heap.objs.size,[c.heap.objs.size],_,_,i,rfl,f.kept (t':=c.toks) fun b o e=>Heap.get?_push_of_some _ e,yiy x t _ (by decide) (fun A j=>Walks.strAscii j _ x t) (fun _ _ _ _ _ g h=>wpAny_pyIter_striter_ascii g h),⟨_,Heap.get?_push_size _ rfl,rfl,rfl⟩,d (ob:=default),q⟩
theorem vbt {tl:TE} {σ:St} {H:Hp} {R:It->Hp->Prop} (h:tl σ H fun v H1=>∃ x,v=.str x/\R (Its x) H1):vgn tl σ H R:=h
theorem yuf {x:Str} {k:Str} {t:Tok} {pos:Pos} (hg:Gl X x) (hm:X.mg x=some (.str k t)) (hd:(x == ("__debug__":Str))=false:=by decide):PE X (.Name x pos) (tC (.str k)):=yht hg hm ⟨t,rfl⟩ hd
end
theorem ymj {x:Str} {D:Addr} {te:TE} {R:Hp->Prop} {H1:Hp} (f:Nat->V) (hD:H1 D=none)
  (hs:∀ i c H,x.cps[i]?=some c->i < x.cps.size->y0 H1 H->H D=some (.lst ((List.range i).map f))->te [some (.str ⟨#[c]⟩)] H (MpK H1 D f x.cps.size i)) (hd:∀ H,y0 H1 H->H D=some (.lst ((List.range x.cps.size).map f))->R H):yjg (Its x) te D R H1:=by
 refine ⟨cW x.cps.size (Mp H1 D f),⟨x.cps.size,by simp,Nat.zero_le _,Mp.zero hD⟩,?_⟩
 rintro i m H ⟨rfl,d,p⟩
 by_cases hlt:i < x.cps.size
 ·refine .inr ⟨hlt,fun v b y=>?_⟩
  obtain ⟨rfl,c,a,rfl⟩:=y
  exact hs i c _ a hlt p.1 p.2
 ·have e:i=x.cps.size:=by omega
  subst e
  exact .inl ⟨rfl,hd H p.1 p.2⟩
end L2
namespace L2
open PySem PySem.Spec PyProof.Rows
def Itk (o:Obj) (d:Addr) (kvs:List (Key × V)):It :=
 ⟨fun i H=>H d=some (.frz o (.dK kvs))/\i < kvs.length,fun i H x H'=>H'=H/\∃ k v,kvs[i]?=some (k,v)/\x=kV k,fun i H=>H d=some (.frz o (.dK kvs))/\kvs.length <= i⟩
def Itv (o:Obj) (d:Addr) (kvs:List (Key × V)):It :=
 ⟨fun i H=>H d=some (.frz o (.dK kvs))/\i < kvs.length,fun i H x H'=>H'=H/\∃ k,kvs[i]?=some (k,x),fun i H=>H d=some (.frz o (.dK kvs))/\kvs.length <= i⟩
theorem vej {P:Program} {w:World} {k:Key} {u:Value} (r:(wl P w).is k u=true):xl (kV k) u:=by
 rcases wo r with ⟨i,t,rfl,rfl⟩ | ⟨x,t,rfl,rfl⟩ <;> exact ⟨t,rfl⟩
theorem KV.get {kvs:List (Key × V)} {vs:List (Key × Value)} (r:KV kvs vs) {i:Nat} {k:Key} {u:Value} (h:vs[i]?=some (k,u)):∃ v,kvs[i]?=some (k,v)/\xl v u:=by
 obtain ⟨⟨b,v⟩,e,a,c⟩:=ylb r h
 have a:b=k:=a
 exact ⟨v,by rw [e,a],c⟩
theorem yi8 {X:Cx} {pins:List (Addr × Obj)} {σ:St} {H:Hp} {s:Shared} {d:Addr} {kvs:List (Key × V)} {o:Obj} {es:Array DictEntry} {ep:Nat} (I:Inv X pins σ H s) (hd:H d=some (.frz o (.dK kvs))) (ho:o.data=.dict es ep):∃ vs,KV kvs vs/\s.heap.DictAt (wl X.prog X.w) d vs ep:=by
 obtain ⟨b,_,_,vs,r,i,e,g,a,h,c,f⟩:=(show xk X.prog X.w H s.heap d (.frz o (.dK kvs)) from I.hok d _ hd)
 rw [b] at a
 cases a
 rw [ho] at c
 cases c
 exact ⟨vs,r,o,es,b,h,ho,f⟩
theorem ylh {P:Program} {w:World} {K:W.Frag} {tg:Expr} {o:Obj} {es:Array DictEntry} {ep:Nat} {kvs:List (Key × V)} (d it:Addr) (hne:d≠it) (ho:o.data=.dict es ep):yk9 P w K tg (Itk o d kvs) [it] it (fun i h=>h.IsKeyIter it d i kvs.length ep) where
 mem:=by simp
 obj:=fun i h a b f=>by
  have e:b=it:=by simpa using f
  subst e
  obtain ⟨o,e,_,d⟩:=a
  exact ⟨o,e,fun v z=>by rw [d] at z; cases z⟩
 keep:=fun i h m a k=>a.at fun o e=>k it (by simp) o e
 item:=by
  intro X C J n p i c s σ H E I l a ⟨F,U⟩
  subst C J n
  obtain ⟨D,u,T,q,t,B⟩:=l it (by simp)
  obtain ⟨M,r,G⟩:=yi8 I F ho
  have j:=r.length
  have W:=Walks.dictKeys (knd:=wl X.prog X.w) (prog:=X.prog) (w:=X.w) (A:=X.A) (I.ok.hd p) it d hne M ep
  refine W.item i s _ _ (by omega) ⟨by rw [<- j]; exact a,G⟩ fun v m L R g kk=>?_
  obtain ⟨k,x,N,Y⟩:=R
  obtain ⟨y,hy,_⟩:=r.get N
  have S:Inv X c σ H { s with heap:=m,toks:=L }:=I.turned (fun b o f e=>kk b o (by simpa using f) e) D u q t B
  obtain ⟨o',Z,c',d'⟩:=id g.1
  exact ⟨_,rfl,yk4 (s:={ s with heap:=m,toks:=L }) Z c' d' (by decide) ⟨kV k,H,S,vej Y,⟨rfl,k,y,hy,rfl⟩,by rw [j]; exact g.1,fun b f=>(l b f).1⟩⟩
 done:=by
  intro X C J n p i c s σ H E I l a ⟨F,O⟩
  subst C J n
  obtain ⟨D,u,T,q,t,B⟩:=l it (by simp)
  obtain ⟨M,r,G⟩:=yi8 I F ho
  have j:=r.length
  exact wpAny_pyNext_dict_end (I.ok.hd p) (by rw [<- j]; exact a) G (by rw [List.getElem?_eq_none_iff]; omega) fun m Q=>⟨rfl,I.turned (t':=s.toks) (fun b o f e=>Q b o f e) D u q t B⟩
 self:=fun _ _ _ _ _ a h=>wpAny_pyIter_keyiter a h
theorem ymc {P:Program} {w:World} {K:W.Frag} {tg:Expr} {o:Obj} {es:Array DictEntry} {ep:Nat} {kvs:List (Key × V)} (d it:Addr) (hne:d≠it) (ho:o.data=.dict es ep):yk9 P w K tg (Itv o d kvs) [it] it (fun i h=>h.IsValIter it d i kvs.length ep) where
 mem:=by simp
 obj:=fun i h a b f=>by
  have e:b=it:=by simpa using f
  subst e
  obtain ⟨o,e,_,d⟩:=a
  exact ⟨o,e,fun v z=>by rw [d] at z; cases z⟩
 keep:=fun i h m a k=>a.at fun o e=>k it (by simp) o e
 item:=by
  intro X B G n p i c s σ H E I l a ⟨D,U⟩
  subst B G n
  obtain ⟨C,u,S,q,t,x⟩:=l it (by simp)
  obtain ⟨L,r,F⟩:=yi8 I D ho
  have j:=r.length
  have W:=Walks.dictValues (knd:=wl X.prog X.w) (prog:=X.prog) (w:=X.w) (A:=X.A) (I.ok.hd p) it d hne L ep
  refine W.item i s _ _ (by omega) ⟨by rw [<- j]; exact a,F⟩ fun v m J Q g Z=>?_
  obtain ⟨k,M⟩:=Q
  obtain ⟨y,hy,T⟩:=r.get M
  have R:Inv X c σ H { s with heap:=m,toks:=J }:=I.turned (fun b o f e=>Z b o (by simpa using f) e) C u q t x
  obtain ⟨o',Y,c',d'⟩:=id g.1
  exact ⟨_,rfl,yk4 (s:={ s with heap:=m,toks:=J }) Y c' d' (by decide) ⟨y,H,R,T,⟨rfl,k,hy⟩,by rw [j]; exact g.1,fun b f=>(l b f).1⟩⟩
 done:=by
  intro X B G n p i c s σ H E I l a ⟨D,N⟩
  subst B G n
  obtain ⟨C,u,S,q,t,x⟩:=l it (by simp)
  obtain ⟨L,r,F⟩:=yi8 I D ho
  have j:=r.length
  exact wpAny_pyNext_values_end (I.ok.hd p) (by rw [<- j]; exact a) F (by rw [List.getElem?_eq_none_iff]; omega) fun m O=>⟨rfl,I.turned (t':=s.toks) (fun b o f e=>O b o f e) C u q t x⟩
 self:=fun _ _ _ _ _ a h=>wpAny_pyIter_valiter a h
section
variable {X:Cx} {tg:Expr}
def vc8 (to:TE):TI:=fun σ H R=>to σ H fun x H1=>∃ d kvs,x=.ref d/\H1 d=some (.dK kvs)/\∀ o,R (Itk o d kvs) (upd H1 d (.frz o (.dK kvs)))
def vdd (to:TE):TI:=fun σ H R=>to σ H fun x H1=>∃ d kvs,x=.ref d/\H1 d=some (.dK kvs)/\∀ o,R (Itv o d kvs) (upd H1 d (.frz o (.dK kvs)))
theorem ytv {l:Expr} {to:TE} (hl:PE X l to):PI X tg l (vc8 to):=by
 intro c s σ H R I h
 refine thn (hl c s σ H _ I h) fun v a h'=>?_
 obtain ⟨x,y,n,z,d,j,e,p,q⟩:=h'
 subst e
 cases z
 obtain ⟨_,i,C,r,k,u,t,g,A,m,D⟩:=(show xk X.prog X.w y a.heap d (.dK j) from n.hok d _ p)
 have E:a.heap.DictAt (wl X.prog X.w) d C t:=⟨k,u,g,A,m,D⟩
 refine wpAny_pyIter_dict i E ?_
 have f:=n.freeze p trivial g
 refine ⟨a.heap.objs.size,[a.heap.objs.size],_,_,_,rfl,f.kept (t':=a.toks) fun b o e=>Heap.get?_push_of_some _ e,ylh d _ (Nat.ne_of_lt (Heap.lt_size g)) m,⟨_,Heap.get?_push_size _ rfl,rfl,by rw [r.length]; rfl⟩,fun b B=>?_,q k⟩
 have e:b=a.heap.objs.size:=by simpa using B
 subst e
 exact f.fpOk (Nat.le_refl _) (f.hok.fresh (Nat.le_refl _))
theorem yuw {l:Expr} {to:TE} {apos cpos:Pos} (hl:PE X l to) (hbase:attributeBase l "values" X.env (eval l X.env)=eval l X.env:=by rfl) (hline:(apos.endLine == cpos.line)=true:=by rfl):PI X tg (.Call (.Attribute l "values" apos) [] [] cpos) (vdd to):=by
 intro f s σ H R I h
 refine wpAny_Call_method0_late hbase hline (thn (hl f s σ H _ I h) fun v c h'=>?_)
 obtain ⟨x,E,A,G,d,kvs,e,B,q⟩:=h'
 subst e
 cases G
 obtain ⟨_,u,t,r,k,D,ep,j,p,z,K⟩:=(show xk X.prog X.w E c.heap d (.dK kvs) from A.hok d _ B)
 have y:c.heap.DictAt (wl X.prog X.w) d t ep:=⟨k,D,j,p,z,K⟩
 refine ⟨"dict","dict.values",F.plainAttrs_dict,F.slot_dict_values,F.type_dict_values,⟨k,j,p.1⟩,fun a C=>by cases C; exact ⟨k,j,p.2.1⟩,Calls.callWith_builtin rfl (PySem.evalArgs_none (call_meetsIn F.slot_dict_values y.dictOf.typeIs F.entry_dict_values (F.args_dict_values_1 _) (meets_dict_values (wl X.prog X.w) d u) ⟨⟨t,y.dictOf⟩,?_⟩))⟩
 refine wpAny_pyIter_values (knd:=wl X.prog X.w) (d:=d) (kvs:=t) (ep:=ep) ⟨_,Heap.get?_push_size _ rfl,rfl,rfl⟩ (y.push _) ?_
 have m:=A.freeze B trivial j
 have g:(c.heap.push { cls:=.type "dict_values",data:=.fields #[.ref d] }).objs.size=c.heap.objs.size+1:=Heap.size_push ..
 have n:d < c.heap.objs.size:=Heap.lt_size j
 refine ⟨_,[_],_,_,_,rfl,m.kept (t':=c.toks) fun b o e=>Heap.get?_push_of_some _ (Heap.get?_push_of_some _ e),ymc d _ (show d≠(c.heap.push _).objs.size by rw [g]; exact Nat.ne_of_lt (Nat.lt_succ_of_lt n)) z,⟨_,Heap.get?_push_size _ rfl,rfl,by rw [r.length]; rfl⟩,fun b J=>?_,q k⟩
 have e:b=(c.heap.push { cls:=.type "dict_values",data:=.fields #[.ref d] }).objs.size:=by simpa using J
 have i:c.heap.objs.size <= b:=by rw [e,g]; omega
 exact m.fpOk i (m.hok.fresh i)
theorem yu1 {to:TE} {σ:St} {H:Hp} {R:It->Hp->Prop} (h:to σ H fun x H1=>∃ d kvs,x=.ref d/\H1 d=some (.dK kvs)/\∀ o,R (Itk o d kvs) (upd H1 d (.frz o (.dK kvs)))):vc8 to σ H R:=h
theorem yt3 {to:TE} {σ:St} {H:Hp} {R:It->Hp->Prop} (h:to σ H fun x H1=>∃ d kvs,x=.ref d/\H1 d=some (.dK kvs)/\∀ o,R (Itv o d kvs) (upd H1 d (.frz o (.dK kvs)))):vdd to σ H R:=h
def yrt (t:TE):TE:=fun σ H Q=>t σ H fun v H'=>∃ d o u,(∀ o u,H d≠some (.frz o u))/\H' d=some (.frz o u)/\Q v (upd H' d u)
theorem yuc {e:Expr} {t:TE} (h:PE X e t):PE X e (yrt t):=fun a s σ H Q I q=>thn (h a s σ H _ I q) fun v g ⟨x,f,J,r,d,o,u,b,c,k⟩=>⟨x,_,J.thaw (fun o u e=>b o u (I.base.frzs d o u e)) c,r,k⟩
theorem yvb {t:TE} {σ:St} {H:Hp} {Q:VK} (h:t σ H fun v H'=>∃ d o u,(∀ o u,H d≠some (.frz o u))/\H' d=some (.frz o u)/\Q v (upd H' d u)):yrt t σ H Q:=h
end
theorem yot {o:Obj} {d:Addr} {kvs:List (Key × V)} {g:TG} {tb:TS} {D:ye7} {σ:St} {H:Hp} (Pv:Nat->St->Hp->Prop) (h0:Pv 0 σ H) (hl:∀ i σ H,i <= kvs.length->Pv i σ H->H d=some (.frz o (.dK kvs)))
  (hs:∀ i k v σ H,kvs[i]?=some (k,v)->Pv i σ H->g (kV k) σ H fun σ2 H2=>tb { D with nx:=Pv (i+1),ct:=Pv (i+1),bk:=D.nx } σ2 H2) (hd:∀ σ H,Pv kvs.length σ H->D.nx σ H) :
  ∃ W:Nat->Nat->St->Hp->Prop,(∃ m,W 0 m σ H)/\∀ i m σ H,W i m σ H ->
   ((Itk o d kvs).stop i H/\D.nx σ H)\/((Itk o d kvs).go i H/\∃ N:St->Hp->Prop,(∀ σ' H',N σ' H'->∃ m',m' < m/\W (i+1) m' σ' H')/\∀ x H',(Itk o d kvs).yld i H x H'->g x σ H' fun σ2 H2=>tb { D with nx:=N,ct:=N,bk:=D.nx } σ2 H2):=by
 refine ⟨fun i m σ H=>m=kvs.length - i/\i <= kvs.length/\Pv i σ H,⟨kvs.length,by simp,Nat.zero_le _,h0⟩,?_⟩
 rintro i m σ H ⟨rfl,b,p⟩
 have q:=hl i σ H b p
 by_cases hlt:i < kvs.length
 ·refine .inr ⟨⟨q,hlt⟩,Pv (i+1),fun σ' H' c=>⟨kvs.length - (i+1),by omega,rfl,hlt,c⟩,fun x H' y=>?_⟩
  obtain ⟨rfl,k,v,a,rfl⟩:=y
  exact hs i k v σ _ a p
 ·have e:i=kvs.length:=by omega
  subst e
  exact .inl ⟨⟨q,Nat.le_refl _⟩,hd σ H p⟩
theorem yj6 {o:Obj} {d D:Addr} {kvs:List (Key × V)} {te:TE} {fr:St} {R:Hp->Prop} {H1:Hp} (Pv:Nat->Hp->Prop) (h0:Pv 0 (upd H1 D (.lst []))) (hl:∀ i H,i <= kvs.length->Pv i H->H d=some (.frz o (.dK kvs)))
  (hs:∀ i k v H,kvs[i]?=some (k,v)->i < kvs.length->Pv i H->te (some v :: fr) H fun y H4=>∃ ys,H4 D=some (.lst ys)/\ys.length < sizeLine/\∃ m',m' < kvs.length - i/\cW kvs.length Pv (i+1) m' (upd H4 D (.lst (ys++[y])))) (hd:∀ H,Pv kvs.length H->R H):ub (Itv o d kvs) te fr D R H1:=by
 refine ⟨cW kvs.length Pv,⟨kvs.length,by simp,Nat.zero_le _,h0⟩,?_⟩
 rintro i m H ⟨rfl,b,p⟩
 have q:=hl i H b p
 by_cases hlt:i < kvs.length
 ·refine .inr ⟨⟨q,hlt⟩,fun x c y=>?_⟩
  obtain ⟨rfl,k,a⟩:=y
  exact hs i k x _ a hlt p
 ·have e:i=kvs.length:=by omega
  subst e
  exact .inl ⟨⟨q,Nat.le_refl _⟩,hd H p⟩
def isN:V->Bool
 | .non=>true
 | _=>false
def vdx:Value->Bool
 | .none=>true
 | _=>false
def vg9 (K:W.Frag):R2:=fun x y H Q=>∃ p xs,x=.non/\y=.ref p/\SqL K H p xs/\(∀ z∈xs,z=.non\/∃ q ys,z=.ref q/\SqL K H q ys)/\Q (.bl (xs.any isN)) H
theorem ym7:∀ {xs:List V} {us:List Value},wt xs us->(∀ z∈xs,z=.non\/∃ q,z=.ref q)->us.any vdx=xs.any isN
 | _,_,.nil,_=>rfl
 | y :: xs,u :: us,.cons r t,f=>by
  rw [List.any_cons,List.any_cons,ym7 t fun z a=>f z (List.mem_cons_of_mem _ a)]
  congr 1
  rcases f y List.mem_cons_self with rfl | ⟨q,rfl⟩
  ·cases r; rfl
  ·cases r; rfl
theorem vbl {X:Cx} (hu:X.A.units+64 < cLine):OpR X (compareOp .In) (vg9 X.K):=by
 intro m s σ H x y v u Q I G E h
 obtain ⟨p,c,rfl,rfl,D,d,q⟩:=h
 cases G
 cases E
 obtain ⟨b,r,B,C⟩:=I.list D
 have k:∀ {c:List V} {j:List Value},wt c j->(∀ z∈c,z=.non\/∃ q o,z=.ref q/\SqL X.K H q o)->∀ w∈j,SeqAt.EqAt X.A.in1 s w .none (vdx w):=by
  intro c j F
  induction F with
  | nil=>intro _ w a; cases a
  | cons r1 t ih =>
   intro f w a
   rcases List.mem_cons.mp a with rfl | a
   ·rcases f _ List.mem_cons_self with rfl | ⟨J,o,rfl,l⟩
    ·cases r1; exact SeqAt.EqAt.same _
    ·cases r1
     obtain ⟨n,_,g,_⟩:=I.list l
     exact SeqAt.EqAt.list_none g.isList (by show X.A.units+1 < cLine; omega)
   ·exact ih (fun z d=>f z (List.mem_cons_of_mem _ d)) w a
 refine SeqAt.in_listAt vdx B.isList (fun w a=>k r d w (by simpa using a)) ⟨.bl _,H,I,rfl,?_⟩
 rw [show b.toArray.any vdx=b.any vdx by simp,ym7 r fun z i=>(d z i).imp id fun ⟨q,_,e,_⟩=>⟨q,e⟩]
 exact q
theorem ymg {X:Cx}:yak X (.builtin "len") (fun xs H Q=>∃ a kvs,xs=[V.ref a]/\H a=some (.dK kvs)/\Q (.int kvs.length) H):=by
 intro b s σ H xs g Q I r h
 obtain ⟨a,kvs,rfl,e,q⟩:=h
 obtain ⟨u,rfl,d⟩:=yc9 r
 cases d
 exact vfb I (.of e) fun t f c=>⟨.int kvs.length,H,c,⟨t,rfl⟩,q⟩
theorem yt9 {σ:St} {H:Hp} {Q:VK} (h:∀ p,H p=none->Q (.ref p) (upd H p (.dK []))):yrb σ H Q:=h
theorem ytt {td ty:TE} {σ:St} {H:Hp} {Q:VK} (h:td σ H fun x H1=>∃ a,x=.ref a/\IsD H1 a/\ty σ H1 fun y H2=>∃ kvs k v,H2 a=some (.dK kvs)/\y=kV k/\zd kvs k=some v/\Q v (upd H2 a (.dK (ybj kvs k)))):yqs td ty σ H Q:=h
theorem yma (bs:List Bool):((List.range bs.length).any fun i=>(bs[i]?).getD false)=bs.any id:=by
 rw [Bool.eq_iff_iff,List.any_eq_true,List.any_eq_true]
 constructor
 ·rintro ⟨i,a,h⟩
  have a:=List.mem_range.mp a
  rw [List.getElem?_eq_getElem a] at h
  exact ⟨_,List.getElem_mem a,h⟩
 ·rintro ⟨b,c,h⟩
  obtain ⟨i,a,rfl⟩:=List.getElem_of_mem c
  exact ⟨i,List.mem_range.mpr a,by rw [List.getElem?_eq_getElem a]; exact h⟩
theorem yo5 {X:Cx} (hc:X.calm=true):yak X (.builtin "any") (fun xs H Q=>∃ p bs,xs=[.ref p]/\SqL X.K H p (List.map V.bl bs)/\Q (.bl (bs.any id)) H):=by
 intro g s σ H xs C Q I r h
 obtain ⟨p,bs,rfl,k,q⟩:=h
 obtain ⟨u,rfl,o⟩:=yc9 r
 cases o
 obtain ⟨m,w,j,D⟩:=I.list k
 obtain rfl:=yeu w
 have c:=j.isList
 have d:p < s.heap.objs.size:=by obtain ⟨_,e,_⟩:=c; exact Heap.lt_size e
 refine call_any_walk (wpAny_pyIter_list c ?_)
 refine ⟨s.heap.objs.size,[s.heap.objs.size,p],[s.heap.objs.size],(bs.map Value.bool).toArray.size,_,_,fun i=>(bs[i]?).getD false,rfl,Walks.list (A:=X.A.in1) (show X.A.handled=none from I.ok.hd hc) _ p (Nat.ne_of_lt d) (bs.map Value.bool).toArray,
  ⟨⟨_,Heap.get?_push_size _ rfl,rfl,rfl⟩,c.push _⟩,fun i v z y B a f=>?_,fun E n l=>?_⟩
 ·have a:(bs.map Value.bool)[i]?=some v:=by simpa using a
  rw [List.getElem?_map] at a
  cases e:bs[i]? with
  | none=>rw [e] at a; cases a
  | some b =>
   dsimp only at f
   rw [e] at a f
   cases a
   exact wpAny_truthy_bool f
 ·have e:((List.range (bs.map Value.bool).toArray.size).any fun i=>(bs[i]?).getD false)=bs.any id:=by rw [List.size_toArray,List.length_map]; exact yma bs
  rw [e]
  refine ⟨.bl (bs.any id),H,I.kept (t':=n) fun b x e=>l b x (fun t=>?_) (Heap.get?_push_of_some _ e),rfl,q⟩
  rw [List.mem_singleton.mp t] at e
  exact Nat.lt_irrefl _ (Heap.lt_size e)
end L2
namespace L2
open PySem PySem.Spec PyProof.Rows
section
variable {X:Cx}
def vfj:V->Option Int->Option Int->Hp->VK->Prop:=fun x lo hi H Q=>∃ z:Str,x=.str z/\z.length <= sizeLine/\Q (.str (Txt.slice z lo hi)) H
theorem yr8:SlR X vfj:=by
 intro d s σ H x v o p lo m n Q I g b f e h
 obtain ⟨z,rfl,a,q⟩:=h
 obtain ⟨t,rfl⟩:=g
 refine ⟨"str",_,F.slot_str_getitem.lookup,typeIs_str _ _ _,?_⟩
 cases f with
 | none =>
  cases e with
  | none=>exact wpAny_getItem_str_slice (l:=none) (u:=none) (st:=none) b rfl (post_val_or_str ⟨Nat.le_trans (Txt.slice_le z _ _) a,fun c k=>⟨.str _,H,I.tok _,⟨_,rfl⟩,q⟩⟩)
  | int j uj=>exact wpAny_getItem_str_slice (l:=none) (u:=some (j,uj)) (st:=none) b rfl (post_val_or_str ⟨Nat.le_trans (Txt.slice_le z _ _) a,fun c k=>⟨.str _,H,I.tok _,⟨_,rfl⟩,q⟩⟩)
 | int i ui =>
  cases e with
  | none=>exact wpAny_getItem_str_slice (l:=some (i,ui)) (u:=none) (st:=none) b rfl (post_val_or_str ⟨Nat.le_trans (Txt.slice_le z _ _) a,fun c k=>⟨.str _,H,I.tok _,⟨_,rfl⟩,q⟩⟩)
  | int j uj=>exact wpAny_getItem_str_slice (l:=some (i,ui)) (u:=some (j,uj)) (st:=none) b rfl (post_val_or_str ⟨Nat.le_trans (Txt.slice_le z _ _) a,fun c k=>⟨.str _,H,I.tok _,⟨_,rfl⟩,q⟩⟩)
theorem yoz {x:Str} {j:Nat} (h:j <= x.length):(Txt.slice x none (some (j:Int))).cps.toList=x.cps.toList.take j:=by
 have e:=slice_closes_toL (x:=x) (j:=(j:Int)) (by omega) (by omega)
 rw [beq_iff_eq.mp e]
 simp
theorem yj5 {x:Str} {j:Nat} (h:j <= x.length):(Txt.slice x (some (j:Int)) none).cps.toList=x.cps.toList.drop j:=by
 rw [slice_from_eq (b:=(x.length:Int)) (by omega) (by omega) rfl]
 have e:x.length=x.cps.toList.length:=by simp [Str.length]
 simp
 rw [List.take_of_length_le (by rw [List.length_drop,e]; omega)]
end
end L2
namespace L2
open PySem PySem.Spec PyProof.Rows
section
variable {X:Cx}
end
end L2
namespace MixI
def giv (c b:Int):Int:=if b=1 then c else 16777216 - c
def yqg (x:Int):Nat:=if x == 0 then 0 else x.natAbs.log2+1
def shL (ws cs:List Int) (b:Int):List Int:=List.zipWith (fun w c=>w * giv c b) ws cs
def grL (sh:List Int):List Int:=sh.map fun s=>31 * (sh.length:Int) * s+sh.sum
def tOf (s:Int):Nat:=yqg s - 48
def lrn (ws cs:List Int) (b:Int):List Int:=(grL (shL ws cs b)).map fun v=>v / 2 ^ tOf (grL (shL ws cs b)).sum
def vgo (ws cs:List Int):Int:=(List.zipWith (fun w c=>w * c) ws cs).sum
def ysz (ws cs:List Int):Int:=vgo ws cs / ws.sum
structure WOk (k:Nat) (ws:List Int):Prop where
 len:ws.length=k
 one:∀ w∈ws,1 <= w
 top:∀ w∈ws,w < 281474976710656
structure COk (k:Nat) (cs:List Int):Prop where
 len:cs.length=k
 lo:∀ c∈cs,32768 <= c
 hi:∀ c∈cs,c <= 16744448
theorem yyo {c b:Int} (h1:32768 <= c) (h2:c <= 16744448):32768 <= giv c b:=by unfold giv; split <;> omega
theorem yhv {ws cs:List Int} {b:Int} (h:ws.length=cs.length):(shL ws cs b).length=ws.length:=by
 unfold shL; rw [List.length_zipWith,<- h]; omega
theorem ym8 {sh:List Int}:(grL sh).length=sh.length:=by unfold grL; rw [List.length_map]
theorem yu4 {k:Nat} {ws cs:List Int} {b:Int} (hw:WOk k ws) (hc:COk k cs):(lrn ws cs b).length=k:=by
 unfold lrn; rw [List.length_map,ym8,yhv (by rw [hw.len,hc.len]),hw.len]
theorem ydh (m d:Int):∀ sh:List Int,(sh.map fun s=>m * s+d).sum=m * sh.sum+sh.length * d
 | []=>by simp
 | s :: r=>by
  simp only [List.map_cons,List.sum_cons,ydh m d r,List.length_cons,Int.natCast_add,Int.natCast_one,Int.mul_add,Int.add_mul]
  omega
theorem yt1 (sh:List Int):(grL sh).sum=32 * (sh.length:Int) * sh.sum:=by
 unfold grL
 rw [ydh,Int.mul_assoc,Int.mul_assoc]
 generalize (sh.length:Int) * sh.sum=x
 omega
theorem yn7:∀ {l:List Int},(∀ x∈l,0 <= x)->0 <= l.sum
 | [],_=>by simp
 | a :: r,h=>by
  have c:=h a (by simp)
  have d:=yn7 (l:=r) fun x b=>h x (by simp [b])
  rw [List.sum_cons]; omega
theorem yrh:∀ {l:List Int} {y:Int},(∀ x∈l,0 <= x)->y∈l->y <= l.sum
 | a :: r,y,h,hy=>by
  have d:=h a (by simp)
  have b:∀ x∈r,0 <= x:=fun x c=>h x (by simp [c])
  have f:=yn7 b
  rw [List.sum_cons]
  rcases List.mem_cons.mp hy with e | hy
  ·omega
  ·have:=yrh b hy; omega
theorem ynz {c:Int}:∀ {l:List Int},(∀ x∈l,c <= x)->c * l.length <= l.sum
 | [],_=>by simp
 | a :: r,h=>by
  have d:=h a (by simp)
  have e:=ynz (l:=r) fun x b=>h x (by simp [b])
  rw [List.sum_cons,List.length_cons,Int.natCast_add,Int.natCast_one,Int.mul_add]; omega
theorem ysr {c:Int}:∀ {l:List Int},(∀ x∈l,x <= c)->l.sum <= c * l.length
 | [],_=>by simp
 | a :: r,h=>by
  have d:=h a (by simp)
  have e:=ysr (l:=r) fun x b=>h x (by simp [b])
  rw [List.sum_cons,List.length_cons,Int.natCast_add,Int.natCast_one,Int.mul_add]; omega
theorem ysq {f:Int->Int} {m:Int}:∀ {ws cs:List Int},ws.length=cs.length->(∀ w∈ws,0 <= w)->(∀ c∈cs,m <= f c)->m * ws.sum <= (List.zipWith (fun w c=>w * f c) ws cs).sum
 | [],[],_,_,_=>by simp
 | w :: r,c :: t,h,h1,h2=>by
  have i:=ysq (f:=f) (m:=m) (ws:=r) (cs:=t) (by simpa using h) (fun x b=>h1 x (by simp [b])) fun x b=>h2 x (by simp [b])
  have a:=Int.mul_le_mul_of_nonneg_left (h2 c (by simp)) (h1 w (by simp))
  rw [List.zipWith_cons_cons,List.sum_cons,List.sum_cons,Int.mul_add,Int.mul_comm m w]; omega
theorem yra {f:Int->Int} {m:Int}:∀ {ws cs:List Int},ws.length=cs.length->(∀ w∈ws,0 <= w)->(∀ c∈cs,f c <= m)->(List.zipWith (fun w c=>w * f c) ws cs).sum <= m * ws.sum
 | [],[],_,_,_=>by simp
 | w :: r,c :: t,h,h1,h2=>by
  have i:=yra (f:=f) (m:=m) (ws:=r) (cs:=t) (by simpa using h) (fun x b=>h1 x (by simp [b])) fun x b=>h2 x (by simp [b])
  have a:=Int.mul_le_mul_of_nonneg_left (h2 c (by simp)) (h1 w (by simp))
  rw [List.zipWith_cons_cons,List.sum_cons,List.sum_cons,Int.mul_add,Int.mul_comm m w]; omega
theorem WOk.pos {k:Nat} {ws:List Int} (h:WOk k ws) (hk:1 <= k):1 <= ws.sum:=by
 have:=ynz (c:=1) h.one
 rw [h.len] at this; omega
theorem WOk.small {k:Nat} {ws:List Int} (h:WOk k ws) (hk:k <= 6):ws.sum <= 1688849860263936:=by
 have:=ysr (c:=281474976710656) fun x a=>Int.le_of_lt (h.top x a)
 rw [h.len] at this; omega
theorem yn6 {k:Nat} {ws cs:List Int} (hk:1 <= k) (hw:WOk k ws) (hc:COk k cs):32768 <= ysz ws cs/\ysz ws cs <= 16744448:=by
 have e:ws.length=cs.length:=by rw [hw.len,hc.len]
 have d:∀ w∈ws,0 <= w:=fun w h=>by have:=hw.one w h; omega
 have p:=hw.pos hk
 have a:=ysq (f:=fun c=>c) e d hc.lo
 have b:=yra (f:=fun c=>c) e d hc.hi
 unfold ysz vgo
 exact ⟨(Int.le_ediv_iff_mul_le (by omega)).mpr a,Int.le_of_lt_add_one ((Int.ediv_lt_iff_lt_mul (by omega)).mpr (by rw [Int.add_mul]; omega))⟩
theorem yij (t:Nat):(2:Int) ^ t=((2 ^ t:Nat):Int):=by rw [Int.natCast_pow]; rfl
theorem yup (t:Nat):(0:Int) < 2 ^ t:=by rw [yij]; exact Int.natCast_pos.mpr (Nat.pow_pos (by decide))
theorem vcp {s:Int} (h:1 <= s):s < 281474976710656 * 2 ^ tOf s/\(tOf s=0\/140737488355328 * 2 ^ tOf s <= s):=by
 have f:s.natAbs≠0:=by omega
 have e:(s.natAbs:Int)=s:=by omega
 have a:=Nat.log2_self_le f
 have b:=@Nat.lt_log2_self s.natAbs
 unfold tOf yqg
 rw [if_neg (by simp; omega)]
 generalize s.natAbs.log2=L at a b ⊢
 rcases Nat.lt_or_ge L 48 with q | q
 ·have z:L+1 - 48=0:=by omega
  rw [z]
  refine ⟨?_,.inl rfl⟩
  have:2 ^ (L+1) <= 2 ^ 48:=Nat.pow_le_pow_right (by decide) (by omega)
  have c:(2:Nat) ^ 48=281474976710656:=by decide
  rw [c] at this
  rw [<- e,Int.pow_zero,Int.mul_one]
  omega
 ·obtain ⟨t,rfl⟩:∃ t,L=47+t:=⟨L - 47,by omega⟩
  have z:47+t+1 - 48=t:=by omega
  rw [z,yij]
  have d:(2:Nat) ^ (47+t)=140737488355328 * 2 ^ t:=by rw [Nat.pow_add]
  have c:(2:Nat) ^ (47+t+1)=281474976710656 * 2 ^ t:=by rw [show 47+t+1=48+t by omega,Nat.pow_add]
  rw [d] at a
  rw [c] at b
  generalize 2 ^ t=T at a b ⊢
  exact ⟨by omega,.inr (by omega)⟩
section
variable {k:Nat} {ws cs:List Int} {b:Int}
theorem yvf (hw:WOk k ws) (hc:COk k cs):∀ s∈shL ws cs b,1 <= s:=by
 intro s a
 unfold shL at a
 rw [List.mem_iff_getElem] at a
 obtain ⟨i,d,rfl⟩:=a
 rw [List.length_zipWith] at d
 rw [List.getElem_zipWith]
 have c:=hw.one ws[i] (List.getElem_mem _)
 have e:=yyo (b:=b) (hc.lo cs[i] (List.getElem_mem _)) (hc.hi cs[i] (List.getElem_mem _))
 have:=Int.mul_le_mul c e (by decide) (by omega)
 omega
theorem yz7 {sh:List Int} (h:∀ s∈sh,1 <= s):∀ v∈grL sh,sh.sum <= v/\v <= (grL sh).sum/\0 <= v:=by
 have e:=yn7 (l:=sh) fun x c=>by have:=h x c; omega
 have a:∀ v∈grL sh,sh.sum <= v:=fun v a=>by
  unfold grL at a
  obtain ⟨s,b,rfl⟩:=List.mem_map.mp a
  have:=h s b
  have:0 <= 31 * (sh.length:Int) * s:=Int.mul_nonneg (Int.mul_nonneg (by decide) (Int.natCast_nonneg _)) (by omega)
  omega
 exact fun v d=>⟨a v d,yrh (fun x c=>by have:=a x c; omega) d,by have:=a v d; omega⟩
theorem yq4 (hk:1 <= k) (hk6:k <= 6) (hw:WOk k ws) (hc:COk k cs):WOk k (lrn ws cs b):=by
 have j:(shL ws cs b).length=k:=by rw [yhv (by rw [hw.len,hc.len]),hw.len]
 have i:=yvf (b:=b) hw hc
 have o:1 <= (shL ws cs b).sum:=by
  have:=ynz (c:=1) i
  rw [j] at this; omega
 have f:=yz7 i
 have e:=yt1 (shL ws cs b)
 rw [j] at e
 have q:1 <= (grL (shL ws cs b)).sum:=by
  rw [e]
  have:32 * (k:Int) * 1 <= 32 * (k:Int) * (shL ws cs b).sum:=Int.mul_le_mul_of_nonneg_left o (by omega)
  omega
 have p:(grL (shL ws cs b)).sum <= 192 * (shL ws cs b).sum:=by
  rw [e]; exact Int.mul_le_mul_of_nonneg_right (by omega) (by omega)
 obtain ⟨r,a⟩:=vcp q
 have g:=yup (tOf (grL (shL ws cs b)).sum)
 refine ⟨yu4 hw hc,fun w h=>?_,fun w h=>?_⟩
 ·obtain ⟨v,d,rfl⟩:=List.mem_map.mp h
  obtain ⟨n,l,m⟩:=f v d
  refine (Int.le_ediv_iff_mul_le g).mpr ?_
  rcases a with a | a
  ·rw [a,Int.pow_zero]; omega
  ·generalize (2:Int) ^ tOf (grL (shL ws cs b)).sum=T at *
   omega
 ·obtain ⟨v,d,rfl⟩:=List.mem_map.mp h
  obtain ⟨n,l,m⟩:=f v d
  exact (Int.ediv_lt_iff_lt_mul g).mpr (by omega)
theorem yl4 {g:Int->Int->Int} {ws cs:List Int} (h:cs.length=ws.length):(List.range ws.length).map (fun i=>g ((ws[i]?).getD 0) ((cs[i]?).getD 0))=List.zipWith g ws cs:=by
 apply List.ext_getElem
 ·rw [List.length_map,List.length_range,List.length_zipWith]; omega
 ·intro i a b
  rw [List.length_map,List.length_range] at a
  rw [List.getElem_map,List.getElem_range,List.getElem_zipWith,List.getElem?_eq_getElem a,List.getElem?_eq_getElem (by omega)]
  rfl
end
end MixI
namespace SpanMath
def rn (d:List Int):Nat->Int
 | 0=>0
 | k+1=>rn d k * 256+(d[k]?).getD 0
def Byt (d:List Int):Prop:=∀ x∈d,0 <= x/\x <= 255
theorem yzx {d:List Int} (h:Byt d) (k:Nat):0 <= (d[k]?).getD 0/\(d[k]?).getD 0 <= 255:=by
 cases e:d[k]? with
 | none=>exact ⟨by decide,by decide⟩
 | some x=>exact h x (List.mem_of_getElem? e)
theorem ynu {d:List Int} (h:Byt d) (k:Nat):∀ r,∃ q,rn d (k+r)=rn d k * pw r+q/\0 <= q/\q < pw r
 | 0=>⟨0,by show rn d k=rn d k * 1+0; omega,by decide,by decide⟩
 | r+1=>by
  obtain ⟨q,e,a,f⟩:=ynu h k r
  obtain ⟨b,c⟩:=yzx h (k+r)
  refine ⟨q * 256+(d[k+r]?).getD 0,?_,by omega,?_⟩
  ·show rn d (k+r) * 256+(d[k+r]?).getD 0=rn d k * (pw r * 256)+_
   rw [e,<- Int.mul_assoc,Int.add_mul,Int.add_assoc]
  ·show _ < pw r * 256
   omega
theorem yqa {d:List Int} (h:Byt d) (k r:Nat) (l w':Int):(l * pw r <= rn d (k+r)/\rn d (k+r) < l * pw r+w' * pw r) ↔ (l <= rn d k/\rn d k < l+w'):=by
 obtain ⟨q,e,g,i⟩:=ynu h k r
 have c:=uq r
 rw [e,<- Int.add_mul]
 generalize rn d k=v
 generalize pw r=p at c g i ⊢
 constructor
 ·rintro ⟨a,b⟩
  constructor
  ·refine Int.le_of_lt_add_one (Int.lt_of_mul_lt_mul_right (a:=p) ?_ (Int.le_of_lt c))
   rw [Int.add_mul,Int.one_mul]
   omega
  ·refine Int.lt_of_mul_lt_mul_right (a:=p) ?_ (Int.le_of_lt c)
   omega
 ·rintro ⟨a,b⟩
  have j:=Int.mul_le_mul_of_nonneg_right a (Int.le_of_lt c)
  have f:=Int.mul_le_mul_of_nonneg_right (show v+1 <= l+w' by omega) (Int.le_of_lt c)
  rw [Int.add_mul v 1 p,Int.one_mul] at f
  omega
structure InS (d:List Int) (x:Sn):Prop where
 lo:x.1 <= rn d (sz x)
 hi:rn d (sz x) < x.1+x.2.1
theorem vdo (l w' s':Int):∃ r:Nat,ren l w' s'=(l * pw r,w' * pw r,s'+r):=by
 unfold ren
 split
 ·split
  ·exact ⟨2,rfl⟩
  ·exact ⟨1,rfl⟩
 ·refine ⟨0,?_⟩
  show (l,w',s')=(l * 1,w' * 1,s'+0)
  rw [Int.mul_one,Int.mul_one,Int.add_zero]
theorem yss {d:List Int} (h:Byt d) {l w' s':Int} (hs:0 <= s'):InS d (ren l w' s') ↔ (l <= rn d s'.toNat/\rn d s'.toNat < l+w'):=by
 obtain ⟨r,e⟩:=vdo l w' s'
 rw [e]
 have c:sz (l * pw r,w' * pw r,s'+r)=s'.toNat+r:=by
  show (s'+(r:Int)).toNat=s'.toNat+r
  omega
 rw [<- yqa h s'.toNat r l w']
 constructor
 ·rintro ⟨a,b⟩
  rw [c] at a b
  exact ⟨a,b⟩
 ·rintro ⟨a,b⟩
  exact ⟨by rw [c]; exact a,by rw [c]; exact b⟩
def ybn (d:List Int) (x:Sn) (c:Int):Int:=if rn d (sz x) < x.1+cut x.2.1 c then 1 else 0
theorem yer (d:List Int) (x:Sn) (c:Int):ybn d x c=0\/ybn d x c=1:=by
 unfold ybn
 split
 ·exact .inr rfl
 ·exact .inl rfl
theorem yux {d:List Int} (hd:Byt d) {x:Sn} {c b:Int} (h:OkS x) (hc:Ch c) (hb:b=0\/b=1) (i:InS d (nar x c b)):InS d x/\b=ybn d x c:=by
 have f:=h.ok.z
 obtain ⟨j,k,g⟩:=ygi h.ok.w0 h.ok.w1 hc
 unfold nar at i
 rcases hb with rfl | rfl
 ·rw [if_neg (by decide)] at i
  obtain ⟨e,a⟩:=(yss hd (by omega)).mp i
  have e:x.1+cut x.2.1 c <= rn d (sz x):=e
  have a:rn d (sz x) < x.1+cut x.2.1 c+(x.2.1 - cut x.2.1 c):=a
  refine ⟨⟨by omega,by omega⟩,?_⟩
  unfold ybn
  rw [if_neg (by omega)]
 ·rw [if_pos rfl] at i
  obtain ⟨e,a⟩:=(yss hd (by omega)).mp i
  have e:x.1 <= rn d (sz x):=e
  have a:rn d (sz x) < x.1+cut x.2.1 c:=a
  refine ⟨⟨by omega,by omega⟩,?_⟩
  unfold ybn
  rw [if_pos a]
theorem yrj:∀ (k:Nat) (d:List Int),k <= d.length->rn d k=val (d.take k)
 | 0,_,_=>rfl
 | k+1,d,h=>by
  have a:k < d.length:=by omega
  have e:d.take (k+1)=d.take k++[d[k]]:=by rw [List.take_succ,List.getElem?_eq_getElem a]; rfl
  rw [e,yiv,<- yrj k d (by omega)]
  show rn d k * 256+_=_
  rw [List.getElem?_eq_getElem a]
  rfl
theorem yna {d:List Int} (hd:Byt d) {x:Sn} (h:OkS x) (hl:(tL x).length <= d.length) (hp:d.take (tL x).length=tL x):InS d x:=by
 have i:=yv8 h
 have e:rn d (sz x - tK x)=tCn x:=by
  rw [<- ynx x,yrj _ _ hl,hp,yyz h]
 obtain ⟨q,b,g,j⟩:=ynu hd (sz x - tK x) (tK x)
 have f:sz x - tK x+tK x=sz x:=by omega
 rw [f,e] at b
 have a:=ye2 h.ok
 have c:=(yrg x.1 (uq (tK x))).1
 unfold yk6 at a
 have a:(tCn x+1) * pw (tK x) <= x.1+x.2.1:=a
 have c:x.1 <= tCn x * pw (tK x):=c
 rw [Int.add_mul,Int.one_mul] at a
 exact ⟨by rw [b]; omega,by rw [b]; omega⟩
end SpanMath
namespace Law
local macro_rules | `(tactic| rfl')=>`(tactic| walk_at "rd")
local macro_rules | `(tactic| right)=>`(tactic| decide +kernel)
open PySem L2
local macro_rules | `(tactic| exists $n:num,$s)=>do
 let ts<-(((s.raw.isStrLit?.get!).splitOn " ").map fun x=>Lean.mkIdent (((if n.getNat<3 then `_root_.Law else `_root_.L2) ++ x.toName:Lean.Name))).toArray.mapM fun x=>match n.getNat%3 with
  | 0=>`(Lean.Parser.Tactic.tacticSeq| refine $x ?_)
  | 1=>`(Lean.Parser.Tactic.tacticSeq| (with_reducible refine' $x (by assumption) ?q ?_; (case q=>first | assumption | exact ya)))
  | _=>`(Lean.Parser.Tactic.tacticSeq| (with_reducible refine' $x ?q ?_; (case q=>first | assumption | exact ya)))
 `(tactic| first $[| $ts:tacticSeq]*)
local macro_rules | `(tactic| walk_at "side")=>`(tactic| first | exact ⟨by decide,by decide⟩ | (show (0:Int) < _; first | decide | omega) | exact Or.inl ⟨by omega,by omega⟩ | exact Or.inr ⟨by omega,by omega⟩ | exact ⟨by omega,by omega⟩ | exact ⟨by decide,by decide,by decide⟩)
local macro_rules | `(tactic| walk_at "len")=>`(tactic| first | decide | (simp only [List.length_cons,List.length_nil]; decide))
local macro_rules | `(tactic| walk_at "rd1")=>`(tactic| with_reducible first
 | exists 3,"vew"
 | (refine' vcx ?rdv ?_; (case rdv=>with_unfolding_all rfl))
 | exists 3,"i_c vgq vg5 vbh vg4 vgv vhb vek veg yz4 yy9 yyn yu2 yez yuo yva vbs ves vgw vey ytx yya vem yyv ve1 vg0 vfc ve0 veu vd6 yjd yz6 vgy ve2 ve5 yyk vgs yo3 vb7 ve7 vg1 i_U g0 g1 g2 g3 g4 g5 g6 g7 g8 g9 g10 g11 g12 g13 g14 yu3 yy7 ygr yfa vff vd8 ve9 ytq vca yuv ytz yta yy0 ys3 yzz yvb vbt yu1 yt3 yt9 ytt vag yur yt5 vcf veq yqc va2 yt4 yuu"
 | (refine' i_shlC ?rdp ?rdq ?_; (case rdp=>with_unfolding_all exact ⟨by decide,by decide,by decide⟩); (case rdq=>with_unfolding_all decide))
 | (refine' i_powC ?rdp ?rdq ?_; (case rdp=>with_unfolding_all exact ⟨by decide,by decide,by decide⟩); (case rdq=>with_unfolding_all decide))
 | exists 3,"vae"
 | (refine i_I ?rdc ?_; (case rdc=>with_unfolding_all walk_at "side")))
local macro_rules | `(tactic| walk_at "rd")=>`(tactic| repeat walk_at "rd1")
def top (i:Nat):Stmt:=PySem.Challenge.pw_foretell_k41_learned_of.main.body.getD i (.Pass ⟨0,0,0,0⟩)
abbrev vfs:Stmt:=top 21
abbrev vfy:Stmt:=top 22
abbrev vfl:Stmt:=top 23
abbrev vfz:Stmt:=top 24
abbrev vfp:Stmt:=top 25
abbrev vfx:Stmt:=top 26
abbrev vfq:Stmt:=top 27
abbrev vfk:Stmt:=top 28
abbrev vfm:Stmt:=top 29
abbrev yv2:Stmt:=top 30
abbrev ywn:Stmt:=top 31
abbrev ywp:Stmt:=yv (top 36) 0
abbrev ywh:Stmt:=yv (top 36) 1
abbrev yv7:Stmt:=yv (top 36) 2
abbrev ywr:Stmt:=yv (top 37) 0
abbrev ywm:Stmt:=yv (top 37) 1
abbrev ywu:Stmt:=yv (top 37) 2
abbrev yw5:Stmt:=yv (top 38) 0
abbrev yxd:Stmt:=yv (top 38) 1
abbrev yxf:Stmt:=yv (top 38) 2
abbrev yvn:Stmt:=top 39
abbrev yxr:Stmt:=top 45
abbrev yw9:Stmt:=top 46
abbrev yxh:Stmt:=top 47
abbrev yvy:Stmt:=top 48
abbrev ywg:Stmt:=top 49
abbrev yxp:Stmt:=top 50
abbrev yxk:Stmt:=top 51
abbrev yw0:Stmt:=yv (top 52) 0
abbrev yxe:Stmt:=yv (top 52) 2
abbrev yvv:Stmt:=yv (top 57) 0
abbrev yv5:Stmt:=yv (top 57) 2
abbrev yxg:Stmt:=yv (top 57) 3
abbrev yw6:Stmt:=yv (top 60) 0
abbrev ywv:Stmt:=yv (top 60) 1
abbrev yws:Stmt:=yv (top 60) 2
abbrev yvq:Stmt:=yv (top 60) 3
abbrev yxt:Stmt:=yv (top 60) 7
abbrev yv0:Stmt:=yv (top 60) 8
abbrev ywz:Stmt:=yv (top 60) 9
abbrev yvl:Stmt:=top 63
abbrev ywt:Stmt:=top 64
abbrev ywa:Stmt:=top 69
abbrev yv6:Stmt:=top 70
abbrev ywo:Stmt:=yv (top 71) 0
abbrev ywc:Stmt:=yv (top 71) 2
abbrev yvz:Stmt:=yv (top 71) 3
abbrev yxm:Stmt:=yv (top 71) 5
abbrev yv4:Stmt:=yv (top 71) 6
abbrev yxa:Stmt:=yv (top 73) 0
abbrev yxn:Stmt:=yv (top 73) 1
abbrev ywi:Stmt:=yv (top 73) 2
abbrev ywe:Stmt:=yv (top 73) 3
abbrev yxc:Stmt:=yv (top 73) 5
abbrev yxl:Stmt:=top 75
abbrev yvu:Stmt:=top 76
abbrev yw1:Stmt:=top 77
abbrev yxb:Stmt:=top 78
abbrev yvx:Stmt:=top 79
abbrev yxj:Stmt:=yv (top 81) 0
abbrev yw4:Stmt:=yv (top 81) 1
abbrev ywd:Stmt:=yv (top 81) 2
abbrev yxs:Stmt:=yv (top 81) 3
abbrev yv9:Stmt:=top 86
abbrev yxo:Stmt:=top 87
abbrev yvp:Stmt:=top 88
abbrev ywb:Stmt:=yv (top 89) 0
abbrev yk2:Stmt:=yv (top 90) 0
abbrev yk1:Stmt:=yv (top 90) 4
abbrev ywq:Stmt:=yv (top 90) 6
abbrev yw7:Stmt:=yv (top 90) 7
abbrev yv1:Stmt:=yv (top 90) 8
abbrev ywy:Stmt:=yv (top 90) 9
abbrev yvw:Stmt:=yv (top 90) 10
abbrev ywl:Stmt:=yv (top 90) 11
abbrev yww:Stmt:=yv (top 90) 12
abbrev yxi:Stmt:=yv (top 90) 14
abbrev yvm:Stmt:=yv (top 90) 15
abbrev ywj:Stmt:=yv (top 90) 16
abbrev yw8:Stmt:=top 92
abbrev ywk:Stmt:=top 93
abbrev yvt:Stmt:=top 94
abbrev yw2:Stmt:=top 95
set_option genInjectivity false in
set_option genSizeOfSpec false in
structure Ads where
 f_q1:Addr
 d_q1:FuncData
 f_q2:Addr
 d_q2:FuncData
 f_q3:Addr
 d_q3:FuncData
 f_q4:Addr
 d_q4:FuncData
 f_q5:Addr
 d_q5:FuncData
 f_q6:Addr
 d_q6:FuncData
 f_q7:Addr
 d_q7:FuncData
 f_q8:Addr
 d_q8:FuncData
 f_q9:Addr
 d_q9:FuncData
 f_q10:Addr
 d_q10:FuncData
 f_q11:Addr
 d_q11:FuncData
 f_q12:Addr
 d_q12:FuncData
 f_q13:Addr
 d_q13:FuncData
 f_q14:Addr
 d_q14:FuncData
 f_q15:Addr
 d_q15:FuncData
 f_q16:Addr
 d_q16:FuncData
 f_q17:Addr
 d_q17:FuncData
 f_q18:Addr
 d_q18:FuncData
 f_q19:Addr
 d_q19:FuncData
 f_q20:Addr
 d_q20:FuncData
 f_q21:Addr
 d_q21:FuncData
 f_q22:Addr
 d_q22:FuncData
 f_q23:Addr
 d_q23:FuncData
 f_q24:Addr
 d_q24:FuncData
 f_q25:Addr
 d_q25:FuncData
 f_q26:Addr
 d_q26:FuncData
 f_q27:Addr
 d_q27:FuncData
 f_q28:Addr
 d_q28:FuncData
 f_q29:Addr
 d_q29:FuncData
 f_q30:Addr
 d_q30:FuncData
 f_q31:Addr
 d_q31:FuncData
 f_q32:Addr
 d_q32:FuncData
 f_q33:Addr
 d_q33:FuncData
 f_q34:Addr
 d_q34:FuncData
 f_q35:Addr
 d_q35:FuncData
 f_q36:Addr
 d_q36:FuncData
 f_q37:Addr
 d_q37:FuncData
 f_q38:Addr
 d_q38:FuncData
 f_q39:Addr
 d_q39:FuncData
 f_q40:Addr
 d_q40:FuncData
 f_q41:Addr
 d_q41:FuncData
 f_q42:Addr
 d_q42:FuncData
 f_q43:Addr
 d_q43:FuncData
 f_q44:Addr
 d_q44:FuncData
 f_q45:Addr
 d_q45:FuncData
 f_q46:Addr
 d_q46:FuncData
 f_q47:Addr
 d_q47:FuncData
 f_q48:Addr
 d_q48:FuncData
 f_q49:Addr
 d_q49:FuncData
 f_q50:Addr
 d_q50:FuncData
 f_q51:Addr
 d_q51:FuncData
 f_q52:Addr
 d_q52:FuncData
 f_q53:Addr
 d_q53:FuncData
 f_q54:Addr
 d_q54:FuncData
 f_q55:Addr
 d_q55:FuncData
 f_q56:Addr
 d_q56:FuncData
 f_q57:Addr
 d_q57:FuncData
 f_q58:Addr
 d_q58:FuncData
 f_q59:Addr
 d_q59:FuncData
 f_q60:Addr
 d_q60:FuncData
 f_q61:Addr
 d_q61:FuncData
 f_q62:Addr
 d_q62:FuncData
 f_q63:Addr
 d_q63:FuncData
 f_q64:Addr
 d_q64:FuncData
 f_q65:Addr
 d_q65:FuncData
 f_q66:Addr
 d_q66:FuncData
 f_q67:Addr
 d_q67:FuncData
 f_q68:Addr
 d_q68:FuncData
 D_q68:Addr
 Dt_q68_0:Tok
 f_q69:Addr
 d_q69:FuncData
 D_q69:Addr
 f_q70:Addr
 d_q70:FuncData
 f_q71:Addr
 d_q71:FuncData
 f_q72:Addr
 d_q72:FuncData
 f_q73:Addr
 d_q73:FuncData
 f_q74:Addr
 d_q74:FuncData
 f_q75:Addr
 d_q75:FuncData
 f_q76:Addr
 d_q76:FuncData
 f_q77:Addr
 d_q77:FuncData
 f_q78:Addr
 d_q78:FuncData
 f_q79:Addr
 d_q79:FuncData
 f_q80:Addr
 d_q80:FuncData
 f_q81:Addr
 d_q81:FuncData
 f_q82:Addr
 d_q82:FuncData
 f_law:Addr
 d_law:FuncData
 C_Even:Addr
 C_Quick:Addr
 C_Run:Addr
 C_Mx:Addr
 C_Book:Addr
 C_Span:Addr
 C_Sk:Addr
 C_Ft:Addr
 C_Chain:Addr
 C_Piece:Addr
 C_Store:Addr
 C_NT:Addr
 C_NY:Addr
 C_NoMost:Addr
 C_NC:Addr
 C_NB:Addr
 C_NL:Addr
 C_NP:Addr
 C_NoName:Addr
 C_TooLong:Addr
 C_Taken:Addr
 C_Full:Addr
 C_NoPiece:Addr
 C_InUse:Addr
 t_LEAST:Tok
 t_ONE:Tok
 t_MOST_SIGNS:Tok
 t_MOST_BYTES:Tok
 t_MOST_COUNTED:Tok
 t_FARTHEST:Tok
 t_MOST_PLACES:Tok
 t_MOST_LOOKS:Tok
 t_NO_SIGN:Tok
 t_FIRST_WEIGHT:Tok
 t_OWN_PARTS:Tok
 t_MOST_FIGURES:Tok
 t_NODES_END:Tok
 t_FIRST_WIDTH:Tok
 t_FIRST_SIZE:Tok
 t_LEAST_WIDTH:Tok
 t_MOST_LETTERS:Tok
 t_LETTERS:Tok
 t_MOST_PIECES:Tok
 W_KINDS:Addr
 W_WORTHS:Addr
structure Txt (K:W.Frag) (mg:Str->Option Value) (a:Ads):Prop where
 y_q1:Dff K mg "is_whole" vfs ["thing"] a.f_q1 a.d_q1
 y_q2:Dff K mg "is_bit" vfy ["thing"] a.f_q2 a.d_q2
 y_q3:Dff K mg "is_chance" vfl ["thing"] a.f_q3 a.d_q3
 y_q4:Dff K mg "is_sign" vfz ["thing"] a.f_q4 a.d_q4
 y_q5:Dff K mg "is_list_of_signs" vfp ["thing","most"] a.f_q5 a.d_q5
 y_q6:Dff K mg "checked_text" vfx ["thing"] a.f_q6 a.d_q6
 y_q7:Dff K mg "checked_bytes" vfq ["thing"] a.f_q7 a.d_q7
 y_q8:Dff K mg "check_most" vfk ["thing"] a.f_q8 a.d_q8
 y_q9:Dff K mg "check_chance" vfm ["thing"] a.f_q9 a.d_q9
 y_q10:Dff K mg "check_bit" yv2 ["thing"] a.f_q10 a.d_q10
 y_q11:Dff K mg "gives" ywn ["chance","bit"] a.f_q11 a.d_q11
 y_q12:Dfm K a.C_Even "__init__" "Even.__init__" ywp ["self"] a.f_q12 a.d_q12
 y_q13:Dfm K a.C_Even "chance" "Even.chance" ywh ["self"] a.f_q13 a.d_q13
 y_q14:Dfm K a.C_Even "seen" "Even.seen" yv7 ["self","bit"] a.f_q14 a.d_q14
 y_q15:Dfm K a.C_Quick "__init__" "Quick.__init__" ywr ["self"] a.f_q15 a.d_q15
 y_q16:Dfm K a.C_Quick "chance" "Quick.chance" ywm ["self"] a.f_q16 a.d_q16
 y_q17:Dfm K a.C_Quick "seen" "Quick.seen" ywu ["self","bit"] a.f_q17 a.d_q17
 y_q18:Dfm K a.C_Run "__init__" "Run.__init__" yw5 ["self"] a.f_q18 a.d_q18
 y_q19:Dfm K a.C_Run "chance" "Run.chance" yxd ["self"] a.f_q19 a.d_q19
 y_q20:Dfm K a.C_Run "seen" "Run.seen" yxf ["self","bit"] a.f_q20 a.d_q20
 y_q21:Dff K mg "slot_of" yvn ["kind"] a.f_q21 a.d_q21
 y_q22:Dff K mg "is_kind" yxr ["thing"] a.f_q22 a.d_q22
 y_q23:Dff K mg "is_place" yw9 ["thing"] a.f_q23 a.d_q23
 y_q24:Dff K mg "are_places" yxh ["thing"] a.f_q24 a.d_q24
 y_q25:Dff K mg "is_look" yvy ["thing"] a.f_q25 a.d_q25
 y_q26:Dff K mg "checked_looks" ywg ["thing"] a.f_q26 a.d_q26
 y_q27:Dff K mg "sign_back" yxp ["signs","place"] a.f_q27 a.d_q27
 y_q28:Dff K mg "context_of" yxk ["look","signs","node"] a.f_q28 a.d_q28
 y_q29:Dfm K a.C_Book "__init__" "Book.__init__" yw0 ["self","look"] a.f_q29 a.d_q29
 y_q30:Dfm K a.C_Book "slot_at" "Book.slot_at" yxe ["self","signs","node"] a.f_q30 a.d_q30
 y_q31:Dfm K a.C_Mx "__init__" "Mixer.__init__" yvv ["self","many"] a.f_q31 a.d_q31
 y_q32:Dfm K a.C_Mx "mixed" "Mixer.mixed" yv5 ["self","chances"] a.f_q32 a.d_q32
 y_q33:Dfm K a.C_Mx "learn" "Mixer.learn" yxg ["self","chances","bit"] a.f_q33 a.d_q33
 y_q34:Dfm K a.C_Ft "__init__" "Foreteller.__init__" yw6 ["self","looks"] a.f_q34 a.d_q34
 y_q35:Dfm K a.C_Ft "arrive" "Foreteller.arrive" ywv ["self"] a.f_q35 a.d_q35
 y_q36:Dfm K a.C_Ft "chances" "Foreteller.chances" yws ["self"] a.f_q36 a.d_q36
 y_q37:Dfm K a.C_Ft "chance" "Foreteller.chance" yvq ["self"] a.f_q37 a.d_q37
 y_q38:Dfm K a.C_Ft "see" "Foreteller.see" yxt ["self","bit"] a.f_q38 a.d_q38
 y_q39:Dfm K a.C_Ft "step" "Foreteller.step" yv0 ["self","bit"] a.f_q39 a.d_q39
 y_q40:Dfm K a.C_Ft "step_in_sign" "Foreteller.step_in_sign" ywz ["self","bit"] a.f_q40 a.d_q40
 y_q41:Dff K mg "bits_of" yvl ["sign"] a.f_q41 a.d_q41
 y_q42:Dff K mg "decisions_of" ywt ["text"] a.f_q42 a.d_q42
 y_q43:Dff K mg "written" ywa ["number","size"] a.f_q43 a.d_q43
 y_q44:Dff K mg "first_block" yv6 ["low","unit"] a.f_q44 a.d_q44
 y_q45:Dfm K a.C_Span "__init__" "Span.__init__" ywo ["self"] a.f_q45 a.d_q45
 y_q46:Dfm K a.C_Span "cut" "Span.cut" ywc ["self","chance"] a.f_q46 a.d_q46
 y_q47:Dfm K a.C_Span "narrow" "Span.narrow" yvz ["self","chance","bit"] a.f_q47 a.d_q47
 y_q48:Dfm K a.C_Span "holds_block" "Span.holds_block" yxm ["self","unit"] a.f_q48 a.d_q48
 y_q49:Dfm K a.C_Span "told" "Span.told" yv4 ["self"] a.f_q49 a.d_q49
 y_q50:Dfm K a.C_Sk "__init__" "Seeker.__init__" yxa ["self","data"] a.f_q50 a.d_q50
 y_q51:Dfm K a.C_Sk "follow" "Seeker.follow" yxn ["self"] a.f_q51 a.d_q51
 y_q52:Dfm K a.C_Sk "byte_at" "Seeker.byte_at" ywi ["self","place"] a.f_q52 a.d_q52
 y_q53:Dfm K a.C_Sk "bit" "Seeker.bit" ywe ["self","chance"] a.f_q53 a.d_q53
 y_q54:Dfm K a.C_Sk "told" "Seeker.told" yxc ["self"] a.f_q54 a.d_q54
 y_q55:Dff K mg "press_by" yxl ["foreteller","text"] a.f_q55 a.d_q55
 y_q56:Dff K mg "bit_by" yvu ["foreteller","seeker"] a.f_q56 a.d_q56
 y_q57:Dff K mg "sign_by" yw1 ["foreteller","seeker"] a.f_q57 a.d_q57
 y_q58:Dff K mg "text_by" yxb ["foreteller","seeker","most"] a.f_q58 a.d_q58
 y_q59:Dff K mg "read_by" yvx ["foreteller","data","most"] a.f_q59 a.d_q59
 y_q60:Dfm K a.C_Chain "__init__" "Chain.__init__" yxj ["self","looks"] a.f_q60 a.d_q60
 y_q61:Dfm K a.C_Chain "grow" "Chain.grow" yw4 ["self","name","text"] a.f_q61 a.d_q61
 y_q62:Dfm K a.C_Chain "press" "Chain.press" ywd ["self","name","text"] a.f_q62 a.d_q62
 y_q63:Dfm K a.C_Chain "read" "Chain.read" yxs ["self","name","data","most"] a.f_q63 a.d_q63
 y_q64:Dff K mg "is_name" yv9 ["thing"] a.f_q64 a.d_q64
 y_q65:Dff K mg "checked_name" yxo ["thing"] a.f_q65 a.d_q65
 y_q66:Dff K mg "check_base" yvp ["thing"] a.f_q66 a.d_q66
 y_q67:Dfm K a.C_Piece "__init__" "Piece.__init__" ywb ["self","base","data"] a.f_q67 a.d_q67
 F_q68:yoi K "__init__" "Store.__init__" yk2 a.D_q68 a.f_q68 a.d_q68
 B1_q68:ux K a.d_q68 ["self","looks","most"] [.int 1000 a.Dt_q68_0]
 B_q68:ux K a.d_q68 ["self","looks","most"] []
 F_q69:yoi K "put" "Store.put" yk1 a.D_q69 a.f_q69 a.d_q69
 B1_q69:ux K a.d_q69 ["self","name","text","base"] [.none]
 B_q69:ux K a.d_q69 ["self","name","text","base"] []
 M_q69:yxw K a.C_Store "put" a.f_q69
 y_q70:Dfm K a.C_Store "check_length" "Store.check_length" ywq ["self","text"] a.f_q70 a.d_q70
 y_q71:Dfm K a.C_Store "check_room" "Store.check_room" yw7 ["self","name","base"] a.f_q71 a.d_q71
 y_q72:Dfm K a.C_Store "piece_at" "Store.piece_at" yv1 ["self","name"] a.f_q72 a.d_q72
 y_q73:Dfm K a.C_Store "links_to" "Store.links_to" ywy ["self","name"] a.f_q73 a.d_q73
 y_q74:Dfm K a.C_Store "chain_to" "Store.chain_to" yvw ["self","name"] a.f_q74 a.d_q74
 y_q75:Dfm K a.C_Store "texts_to" "Store.texts_to" ywl ["self","name"] a.f_q75 a.d_q75
 y_q76:Dfm K a.C_Store "text_of" "Store.text_of" yww ["self","name"] a.f_q76 a.d_q76
 y_q77:Dfm K a.C_Store "base_of" "Store.base_of" yxi ["self","name"] a.f_q77 a.d_q77
 y_q78:Dfm K a.C_Store "learned_of" "Store.learned_of" yvm ["self","name"] a.f_q78 a.d_q78
 y_q79:Dfm K a.C_Store "drop" "Store.drop" ywj ["self","name"] a.f_q79 a.d_q79
 y_q80:Dff K mg "_law_mixed" yw8 ["_law_script","_law_k"] a.f_q80 a.d_q80
 y_q81:Dff K mg "_law_looks" ywk ["_law_cell","_law_most"] a.f_q81 a.d_q81
 y_q82:Dff K mg "_law_names" yvt ["_law_cell","_law_many"] a.f_q82 a.d_q82
 y_law:Dff K mg "law" yw2 ["_law_script"] a.f_law a.d_law
 cl_Even:Cls K a.C_Even
 m_Even:mg "Even"=some (.ref a.C_Even)
 k_Even:Mk K a.C_Even a.f_q12
 n_Even_noughts:vi K a.C_Even "noughts"
 n_Even_ones:vi K a.C_Even "ones"
 cl_Quick:Cls K a.C_Quick
 m_Quick:mg "Quick"=some (.ref a.C_Quick)
 k_Quick:Mk K a.C_Quick a.f_q15
 n_Quick_held:vi K a.C_Quick "held"
 cl_Run:Cls K a.C_Run
 m_Run:mg "Run"=some (.ref a.C_Run)
 k_Run:Mk K a.C_Run a.f_q18
 n_Run_last:vi K a.C_Run "last"
 n_Run_length:vi K a.C_Run "length"
 cl_Mx:Cls K a.C_Mx
 m_Mx:mg "Mixer"=some (.ref a.C_Mx)
 k_Mx:Mk K a.C_Mx a.f_q31
 n_Mx_kept:vi K a.C_Mx "kept"
 cl_Book:Cls K a.C_Book
 m_Book:mg "Book"=some (.ref a.C_Book)
 k_Book:Mk K a.C_Book a.f_q29
 n_Book_look:vi K a.C_Book "look"
 n_Book_slots:vi K a.C_Book "slots"
 cl_Span:Cls K a.C_Span
 m_Span:mg "Span"=some (.ref a.C_Span)
 k_Span:Mk K a.C_Span a.f_q45
 n_Span_low:vi K a.C_Span "low"
 n_Span_width:vi K a.C_Span "width"
 n_Span_size:vi K a.C_Span "size"
 cl_Sk:Cls K a.C_Sk
 m_Sk:mg "Seeker"=some (.ref a.C_Sk)
 k_Sk:Mk K a.C_Sk a.f_q50
 n_Sk_data:vi K a.C_Sk "data"
 n_Sk_span:vi K a.C_Sk "span"
 n_Sk_number:vi K a.C_Sk "number"
 n_Sk_reached:vi K a.C_Sk "reached"
 cl_Ft:Cls K a.C_Ft
 m_Ft:mg "Foreteller"=some (.ref a.C_Ft)
 k_Ft:Mk K a.C_Ft a.f_q34
 n_Ft_looks:vi K a.C_Ft "looks"
 n_Ft_books:vi K a.C_Ft "books"
 n_Ft_mixer:vi K a.C_Ft "mixer"
 n_Ft_ended:vi K a.C_Ft "ended"
 n_Ft_place:vi K a.C_Ft "place"
 n_Ft_present:vi K a.C_Ft "present"
 cl_Chain:Cls K a.C_Chain
 m_Chain:mg "Chain"=some (.ref a.C_Chain)
 k_Chain:Mk K a.C_Chain a.f_q60
 n_Chain_foreteller:vi K a.C_Chain "foreteller"
 n_Chain_links:vi K a.C_Chain "links"
 n_Chain_texts:vi K a.C_Chain "texts"
 cl_Piece:Cls K a.C_Piece
 m_Piece:mg "Piece"=some (.ref a.C_Piece)
 k_Piece:Mk K a.C_Piece a.f_q67
 n_Piece_base:vi K a.C_Piece "base"
 n_Piece_data:vi K a.C_Piece "data"
 cl_Store:Cls K a.C_Store
 m_Store:mg "Store"=some (.ref a.C_Store)
 k_Store:Mk K a.C_Store a.f_q68
 n_Store_looks:vi K a.C_Store "looks"
 n_Store_most:vi K a.C_Store "most"
 n_Store_pieces:vi K a.C_Store "pieces"
 n_Store_chain:vi K a.C_Store "chain"
 m_NT:mg "NoText"=some (.ref a.C_NT)
 m_NY:mg "NoBytes"=some (.ref a.C_NY)
 m_NoMost:mg "NoMost"=some (.ref a.C_NoMost)
 m_NC:mg "NoChance"=some (.ref a.C_NC)
 m_NB:mg "NoBit"=some (.ref a.C_NB)
 m_NL:mg "NoLooks"=some (.ref a.C_NL)
 m_NP:mg "NoPress"=some (.ref a.C_NP)
 m_NoName:mg "NoName"=some (.ref a.C_NoName)
 m_TooLong:mg "TooLong"=some (.ref a.C_TooLong)
 m_Taken:mg "Taken"=some (.ref a.C_Taken)
 m_Full:mg "Full"=some (.ref a.C_Full)
 m_NoPiece:mg "NoPiece"=some (.ref a.C_NoPiece)
 m_InUse:mg "InUse"=some (.ref a.C_InUse)
 x_NT:XCls K a.C_NT
 r_NT:XMk K a.C_NT
 x_NY:XCls K a.C_NY
 r_NY:XMk K a.C_NY
 x_NoMost:XCls K a.C_NoMost
 r_NoMost:XMk K a.C_NoMost
 x_NC:XCls K a.C_NC
 r_NC:XMk K a.C_NC
 x_NB:XCls K a.C_NB
 r_NB:XMk K a.C_NB
 x_NL:XCls K a.C_NL
 r_NL:XMk K a.C_NL
 x_NP:XCls K a.C_NP
 r_NP:XMk K a.C_NP
 x_NoName:XCls K a.C_NoName
 r_NoName:XMk K a.C_NoName
 x_TooLong:XCls K a.C_TooLong
 r_TooLong:XMk K a.C_TooLong
 x_Taken:XCls K a.C_Taken
 r_Taken:XMk K a.C_Taken
 x_Full:XCls K a.C_Full
 r_Full:XMk K a.C_Full
 x_NoPiece:XCls K a.C_NoPiece
 r_NoPiece:XMk K a.C_NoPiece
 x_InUse:XCls K a.C_InUse
 r_InUse:XMk K a.C_InUse
 z_isinstance:mg "isinstance"=none
 z_int:mg "int"=none
 z_bool:mg "bool"=none
 z_list:mg "list"=none
 z_all:mg "all"=none
 z_len:mg "len"=none
 z_min:mg "min"=none
 z_max:mg "max"=none
 z_str:mg "str"=none
 z_tuple:mg "tuple"=none
 z_zip:mg "zip"=none
 z_sum:mg "sum"=none
 z_any:mg "any"=none
 z_range:mg "range"=none
 c_LEAST:mg "LEAST"=some (.int 32768 a.t_LEAST)
 c_ONE:mg "ONE"=some (.int 16777216 a.t_ONE)
 c_MOST_SIGNS:mg "MOST_SIGNS"=some (.int 1000 a.t_MOST_SIGNS)
 c_MOST_BYTES:mg "MOST_BYTES"=some (.int 12000 a.t_MOST_BYTES)
 c_MOST_COUNTED:mg "MOST_COUNTED"=some (.int 255 a.t_MOST_COUNTED)
 c_FARTHEST:mg "FARTHEST"=some (.int 8 a.t_FARTHEST)
 c_MOST_PLACES:mg "MOST_PLACES"=some (.int 4 a.t_MOST_PLACES)
 c_MOST_LOOKS:mg "MOST_LOOKS"=some (.int 6 a.t_MOST_LOOKS)
 c_NO_SIGN:mg "NO_SIGN"=some (.int 256 a.t_NO_SIGN)
 c_FIRST_WEIGHT:mg "FIRST_WEIGHT"=some (.int 1099511627776 a.t_FIRST_WEIGHT)
 c_OWN_PARTS:mg "OWN_PARTS"=some (.int 31 a.t_OWN_PARTS)
 c_MOST_FIGURES:mg "MOST_FIGURES"=some (.int 48 a.t_MOST_FIGURES)
 c_NODES_END:mg "NODES_END"=some (.int 256 a.t_NODES_END)
 c_FIRST_WIDTH:mg "FIRST_WIDTH"=some (.int 1099511627776 a.t_FIRST_WIDTH)
 c_FIRST_SIZE:mg "FIRST_SIZE"=some (.int 5 a.t_FIRST_SIZE)
 c_LEAST_WIDTH:mg "LEAST_WIDTH"=some (.int 4294967296 a.t_LEAST_WIDTH)
 c_MOST_LETTERS:mg "MOST_LETTERS"=some (.int 8 a.t_MOST_LETTERS)
 c_LETTERS:mg "LETTERS"=some (.str "abcdefghijklmnopqrstuvwxyz" a.t_LETTERS)
 c_MOST_PIECES:mg "MOST_PIECES"=some (.int 60 a.t_MOST_PIECES)
 m_KINDS:mg "KINDS"=some (.ref a.W_KINDS)
 w_KINDS:∀ H,SqT K H a.W_KINDS [V.str "even",V.str "quick",V.str "run"]
 m_WORTHS:mg "WORTHS"=some (.ref a.W_WORTHS)
 w_WORTHS:∀ H,SqT K H a.W_WORTHS [V.int 128,V.int 64,V.int 32,V.int 16,V.int 8,V.int 4,V.int 2,V.int 1]
section
variable {P:Program} {w:World} {K:W.Frag} {mg:Str->Option Value} {base:Heap} {a:Ads}
def u5 (v0 v1:V):List (Str × V):=[("noughts",v0),("ones",v1)]
section
variable {H:Hp} {p dx:Addr} {v0 v1 v:V} {P:V->Prop} {R:Prop} {nx:St->Hp->Prop} {σ:St}
theorem yb2 (T:Txt K mg a) (hp:H p=some (.ins a.C_Even dx (u5 v0 v1))) (h:P v0):RdX K H p "noughts" P:=rdX hp T.cl_Even T.n_Even_noughts xy h
theorem yb0 (T:Txt K mg a) (hp:H p=some (.ins a.C_Even dx (u5 v0 v1))) (h:vy nx σ (upd H p (.ins a.C_Even dx (u5 v v1)))):StX K H p "noughts" v nx σ:=stX hp T.cl_Even T.n_Even_noughts (by show 2 < 1000; decide) x8 h
theorem yb3 (T:Txt K mg a) (hp:H p=some (.ins a.C_Even dx [])) (h:vy nx σ (upd H p (.ins a.C_Even dx (([("noughts",v)]:List (Str × V)))))):StX K H p "noughts" v nx σ:=stX hp T.cl_Even T.n_Even_noughts (by show 0 < 1000; decide) wk h
theorem yfg (T:Txt K mg a) (hp:H p=some (.ins a.C_Even dx (u5 v0 v1))) (h:P v1):RdX K H p "ones" P:=rdX hp T.cl_Even T.n_Even_ones (yp (by right) xy) h
theorem yff (T:Txt K mg a) (hp:H p=some (.ins a.C_Even dx (u5 v0 v1))) (h:vy nx σ (upd H p (.ins a.C_Even dx (u5 v0 v)))):StX K H p "ones" v nx σ:=stX hp T.cl_Even T.n_Even_ones (by show 2 < 1000; decide) (vh (by right) x8) h
theorem yfq (T:Txt K mg a) (hp:H p=some (.ins a.C_Even dx [("noughts",v0)])) (h:vy nx σ (upd H p (.ins a.C_Even dx (u5 v0 v)))):StX K H p "ones" v nx σ:=stX hp T.cl_Even T.n_Even_ones (by show 1 < 1000; decide) (vh (by right) wk) h
theorem ycx:(u5 v0 v1).lookup ("chance":Str)=none:=(yp (by right) (yp (by right) wb))
theorem yfp:(u5 v0 v1).lookup ("seen":Str)=none:=(yp (by right) (yp (by right) wb))
end
local macro_rules | `(tactic| walk_at "rd1")=>`(tactic| first
 | exists 1,"yb2 yb0 yb3 yfg yff yfq")
def uu (v0:V):List (Str × V):=[("held",v0)]
section
variable {H:Hp} {p dx:Addr} {v0 v:V} {P:V->Prop} {R:Prop} {nx:St->Hp->Prop} {σ:St}
theorem yd2 (T:Txt K mg a) (hp:H p=some (.ins a.C_Quick dx (uu v0))) (h:P v0):RdX K H p "held" P:=rdX hp T.cl_Quick T.n_Quick_held xy h
theorem yd5 (T:Txt K mg a) (hp:H p=some (.ins a.C_Quick dx (uu v0))) (h:vy nx σ (upd H p (.ins a.C_Quick dx (uu v)))):StX K H p "held" v nx σ:=stX hp T.cl_Quick T.n_Quick_held (by show 1 < 1000; decide) x8 h
theorem yef (T:Txt K mg a) (hp:H p=some (.ins a.C_Quick dx [])) (h:vy nx σ (upd H p (.ins a.C_Quick dx (uu v)))):StX K H p "held" v nx σ:=stX hp T.cl_Quick T.n_Quick_held (by show 0 < 1000; decide) wk h
theorem ybx:(uu v0).lookup ("chance":Str)=none:=(yp (by right) wb)
theorem yec:(uu v0).lookup ("seen":Str)=none:=(yp (by right) wb)
end
local macro_rules | `(tactic| walk_at "rd1")=>`(tactic| first
 | exists 1,"yd2 yd5 yef")
def ya4 (v0 v1:V):List (Str × V):=[("last",v0),("length",v1)]
section
variable {H:Hp} {p dx:Addr} {v0 v1 v:V} {P:V->Prop} {R:Prop} {nx:St->Hp->Prop} {σ:St}
theorem ygv (T:Txt K mg a) (hp:H p=some (.ins a.C_Run dx (ya4 v0 v1))) (h:P v0):RdX K H p "last" P:=rdX hp T.cl_Run T.n_Run_last xy h
theorem yhc (T:Txt K mg a) (hp:H p=some (.ins a.C_Run dx (ya4 v0 v1))) (h:vy nx σ (upd H p (.ins a.C_Run dx (ya4 v v1)))):StX K H p "last" v nx σ:=stX hp T.cl_Run T.n_Run_last (by show 2 < 1000; decide) x8 h
theorem yhj (T:Txt K mg a) (hp:H p=some (.ins a.C_Run dx [])) (h:vy nx σ (upd H p (.ins a.C_Run dx (([("last",v)]:List (Str × V)))))):StX K H p "last" v nx σ:=stX hp T.cl_Run T.n_Run_last (by show 0 < 1000; decide) wk h
theorem ydy (T:Txt K mg a) (hp:H p=some (.ins a.C_Run dx (ya4 v0 v1))) (h:P v1):RdX K H p "length" P:=rdX hp T.cl_Run T.n_Run_length (yp (by right) xy) h
theorem ydq (T:Txt K mg a) (hp:H p=some (.ins a.C_Run dx (ya4 v0 v1))) (h:vy nx σ (upd H p (.ins a.C_Run dx (ya4 v0 v)))):StX K H p "length" v nx σ:=stX hp T.cl_Run T.n_Run_length (by show 2 < 1000; decide) (vh (by right) x8) h
theorem yds (T:Txt K mg a) (hp:H p=some (.ins a.C_Run dx [("last",v0)])) (h:vy nx σ (upd H p (.ins a.C_Run dx (ya4 v0 v)))):StX K H p "length" v nx σ:=stX hp T.cl_Run T.n_Run_length (by show 1 < 1000; decide) (vh (by right) wk) h
theorem yem:(ya4 v0 v1).lookup ("chance":Str)=none:=(yp (by right) (yp (by right) wb))
theorem yhg:(ya4 v0 v1).lookup ("seen":Str)=none:=(yp (by right) (yp (by right) wb))
end
local macro_rules | `(tactic| walk_at "rd1")=>`(tactic| first
 | exists 1,"ygv yhc yhj ydy ydq yds")
def yql (v0:V):List (Str × V):=[("kept",v0)]
section
variable {H:Hp} {p dx:Addr} {v0 v:V} {P:V->Prop} {R:Prop} {nx:St->Hp->Prop} {σ:St}
theorem yj0 (T:Txt K mg a) (hp:H p=some (.ins a.C_Mx dx (yql v0))) (h:P v0):RdX K H p "kept" P:=rdX hp T.cl_Mx T.n_Mx_kept xy h
theorem yki (T:Txt K mg a) (hp:H p=some (.ins a.C_Mx dx (yql v0))) (h:vy nx σ (upd H p (.ins a.C_Mx dx (yql v)))):StX K H p "kept" v nx σ:=stX hp T.cl_Mx T.n_Mx_kept (by show 1 < 1000; decide) x8 h
theorem yj2 (T:Txt K mg a) (hp:H p=some (.ins a.C_Mx dx [])) (h:vy nx σ (upd H p (.ins a.C_Mx dx (yql v)))):StX K H p "kept" v nx σ:=stX hp T.cl_Mx T.n_Mx_kept (by show 0 < 1000; decide) wk h
theorem ygw:(yql v0).lookup ("mixed":Str)=none:=(yp (by right) wb)
theorem yg2 {C:Addr} (hp:H p=some (.ins C dx (yql v0))) (h:R):MtX H p C "mixed" R:=⟨p,dx,_,rfl,hp,ygw,h⟩
theorem yha:(yql v0).lookup ("learn":Str)=none:=(yp (by right) wb)
theorem yhn {C:Addr} (hp:H p=some (.ins C dx (yql v0))) (h:R):MtX H p C "learn" R:=⟨p,dx,_,rfl,hp,yha,h⟩
end
local macro_rules | `(tactic| walk_at "rd1")=>`(tactic| first
 | exists 1,"yj0 yki yj2"
 | exists 2,"yg2 yhn")
def yba (v0 v1:V):List (Str × V):=[("look",v0),("slots",v1)]
section
variable {H:Hp} {p dx:Addr} {v0 v1 v:V} {P:V->Prop} {R:Prop} {nx:St->Hp->Prop} {σ:St}
theorem yft (T:Txt K mg a) (hp:H p=some (.ins a.C_Book dx (yba v0 v1))) (h:P v0):RdX K H p "look" P:=rdX hp T.cl_Book T.n_Book_look xy h
theorem yfs (T:Txt K mg a) (hp:H p=some (.ins a.C_Book dx [])) (h:vy nx σ (upd H p (.ins a.C_Book dx (([("look",v)]:List (Str × V)))))):StX K H p "look" v nx σ:=stX hp T.cl_Book T.n_Book_look (by show 0 < 1000; decide) wk h
theorem yeh (T:Txt K mg a) (hp:H p=some (.ins a.C_Book dx (yba v0 v1))) (h:P v1):RdX K H p "slots" P:=rdX hp T.cl_Book T.n_Book_slots (yp (by right) xy) h
theorem yd0 (T:Txt K mg a) (hp:H p=some (.ins a.C_Book dx (yba v0 v1))) (h:vy nx σ (upd H p (.ins a.C_Book dx (yba v0 v)))):StX K H p "slots" v nx σ:=stX hp T.cl_Book T.n_Book_slots (by show 2 < 1000; decide) (vh (by right) x8) h
theorem yed (T:Txt K mg a) (hp:H p=some (.ins a.C_Book dx [("look",v0)])) (h:vy nx σ (upd H p (.ins a.C_Book dx (yba v0 v)))):StX K H p "slots" v nx σ:=stX hp T.cl_Book T.n_Book_slots (by show 1 < 1000; decide) (vh (by right) wk) h
theorem yb5:(yba v0 v1).lookup ("slot_at":Str)=none:=(yp (by right) (yp (by right) wb))
theorem yby {C:Addr} (hp:H p=some (.ins C dx (yba v0 v1))) (h:R):MtX H p C "slot_at" R:=⟨p,dx,_,rfl,hp,yb5,h⟩
end
local macro_rules | `(tactic| walk_at "rd1")=>`(tactic| first
 | exists 1,"yft yfs yeh yd0 yed"
 | exists 2,"yby")
def ybl (v0 v1 v2 v3:V):List (Str × V):=[("data",v0),("span",v1),("number",v2),("reached",v3)]
section
variable {H:Hp} {p dx:Addr} {v0 v1 v2 v3 v:V} {P:V->Prop} {R:Prop} {nx:St->Hp->Prop} {σ:St}
theorem yjx (T:Txt K mg a) (hp:H p=some (.ins a.C_Sk dx (ybl v0 v1 v2 v3))) (h:P v0):RdX K H p "data" P:=rdX hp T.cl_Sk T.n_Sk_data xy h
theorem yke (T:Txt K mg a) (hp:H p=some (.ins a.C_Sk dx [])) (h:vy nx σ (upd H p (.ins a.C_Sk dx (([("data",v)]:List (Str × V)))))):StX K H p "data" v nx σ:=stX hp T.cl_Sk T.n_Sk_data (by show 0 < 1000; decide) wk h
theorem ykc (T:Txt K mg a) (hp:H p=some (.ins a.C_Sk dx (ybl v0 v1 v2 v3))) (h:P v1):RdX K H p "span" P:=rdX hp T.cl_Sk T.n_Sk_span (yp (by right) xy) h
theorem ykn (T:Txt K mg a) (hp:H p=some (.ins a.C_Sk dx (ybl v0 v1 v2 v3))) (h:vy nx σ (upd H p (.ins a.C_Sk dx (ybl v0 v v2 v3)))):StX K H p "span" v nx σ:=stX hp T.cl_Sk T.n_Sk_span (by show 4 < 1000; decide) (vh (by right) x8) h
theorem ykm (T:Txt K mg a) (hp:H p=some (.ins a.C_Sk dx [("data",v0)])) (h:vy nx σ (upd H p (.ins a.C_Sk dx (([("data",v0),("span",v)]:List (Str × V)))))):StX K H p "span" v nx σ:=stX hp T.cl_Sk T.n_Sk_span (by show 1 < 1000; decide) (vh (by right) wk) h
theorem yfj (T:Txt K mg a) (hp:H p=some (.ins a.C_Sk dx (ybl v0 v1 v2 v3))) (h:P v2):RdX K H p "number" P:=rdX hp T.cl_Sk T.n_Sk_number (yp (by right) (yp (by right) xy)) h
theorem yfn (T:Txt K mg a) (hp:H p=some (.ins a.C_Sk dx (ybl v0 v1 v2 v3))) (h:vy nx σ (upd H p (.ins a.C_Sk dx (ybl v0 v1 v v3)))):StX K H p "number" v nx σ:=stX hp T.cl_Sk T.n_Sk_number (by show 4 < 1000; decide) (vh (by right) (vh (by right) x8)) h
theorem yfm (T:Txt K mg a) (hp:H p=some (.ins a.C_Sk dx [("data",v0),("span",v1)])) (h:vy nx σ (upd H p (.ins a.C_Sk dx (([("data",v0),("span",v1),("number",v)]:List (Str × V)))))):StX K H p "number" v nx σ:=stX hp T.cl_Sk T.n_Sk_number (by show 2 < 1000; decide) (vh (by right) (vh (by right) wk)) h
theorem ydu (T:Txt K mg a) (hp:H p=some (.ins a.C_Sk dx (ybl v0 v1 v2 v3))) (h:P v3):RdX K H p "reached" P:=rdX hp T.cl_Sk T.n_Sk_reached (yp (by right) (yp (by right) (yp (by right) xy))) h
theorem ydp (T:Txt K mg a) (hp:H p=some (.ins a.C_Sk dx (ybl v0 v1 v2 v3))) (h:vy nx σ (upd H p (.ins a.C_Sk dx (ybl v0 v1 v2 v)))):StX K H p "reached" v nx σ:=stX hp T.cl_Sk T.n_Sk_reached (by show 4 < 1000; decide) (vh (by right) (vh (by right) (vh (by right) x8))) h
theorem yeo (T:Txt K mg a) (hp:H p=some (.ins a.C_Sk dx [("data",v0),("span",v1),("number",v2)])) (h:vy nx σ (upd H p (.ins a.C_Sk dx (ybl v0 v1 v2 v)))):StX K H p "reached" v nx σ:=stX hp T.cl_Sk T.n_Sk_reached (by show 3 < 1000; decide) (vh (by right) (vh (by right) (vh (by right) wk))) h
theorem yfb:(ybl v0 v1 v2 v3).lookup ("follow":Str)=none:=(yp (by right) (yp (by right) (yp (by right) (yp (by right) wb))))
theorem yfd {C:Addr} (hp:H p=some (.ins C dx (ybl v0 v1 v2 v3))) (h:R):MtX H p C "follow" R:=⟨p,dx,_,rfl,hp,yfb,h⟩
theorem yep:(ybl v0 v1 v2 v3).lookup ("byte_at":Str)=none:=(yp (by right) (yp (by right) (yp (by right) (yp (by right) wb))))
theorem yd1 {C:Addr} (hp:H p=some (.ins C dx (ybl v0 v1 v2 v3))) (h:R):MtX H p C "byte_at" R:=⟨p,dx,_,rfl,hp,yep,h⟩
theorem yl9:(ybl v0 v1 v2 v3).lookup ("bit":Str)=none:=(yp (by right) (yp (by right) (yp (by right) (yp (by right) wb))))
theorem ylj {C:Addr} (hp:H p=some (.ins C dx (ybl v0 v1 v2 v3))) (h:R):MtX H p C "bit" R:=⟨p,dx,_,rfl,hp,yl9,h⟩
theorem ykl:(ybl v0 v1 v2 v3).lookup ("told":Str)=none:=(yp (by right) (yp (by right) (yp (by right) (yp (by right) wb))))
theorem yku {C:Addr} (hp:H p=some (.ins C dx (ybl v0 v1 v2 v3))) (h:R):MtX H p C "told" R:=⟨p,dx,_,rfl,hp,ykl,h⟩
end
local macro_rules | `(tactic| walk_at "rd1")=>`(tactic| first
 | exists 1,"yjx yke ykc ykn ykm yfj yfn yfm ydu ydp yeo"
 | exists 2,"yfd yd1 ylj yku")
def uh (v0 v1 v2 v3 v4 v5:V):List (Str × V):=[("looks",v0),("books",v1),("mixer",v2),("ended",v3),("place",v4),("present",v5)]
section
variable {H:Hp} {p dx:Addr} {v0 v1 v2 v3 v4 v5 v:V} {P:V->Prop} {R:Prop} {nx:St->Hp->Prop} {σ:St}
theorem yg3 (T:Txt K mg a) (hp:H p=some (.ins a.C_Ft dx [])) (h:vy nx σ (upd H p (.ins a.C_Ft dx (([("looks",v)]:List (Str × V)))))):StX K H p "looks" v nx σ:=stX hp T.cl_Ft T.n_Ft_looks (by show 0 < 1000; decide) wk h
theorem yhl (T:Txt K mg a) (hp:H p=some (.ins a.C_Ft dx (uh v0 v1 v2 v3 v4 v5))) (h:P v1):RdX K H p "books" P:=rdX hp T.cl_Ft T.n_Ft_books (yp (by right) xy) h
theorem yhi (T:Txt K mg a) (hp:H p=some (.ins a.C_Ft dx (uh v0 v1 v2 v3 v4 v5))) (h:vy nx σ (upd H p (.ins a.C_Ft dx (uh v0 v v2 v3 v4 v5)))):StX K H p "books" v nx σ:=stX hp T.cl_Ft T.n_Ft_books (by show 6 < 1000; decide) (vh (by right) x8) h
theorem yhh (T:Txt K mg a) (hp:H p=some (.ins a.C_Ft dx [("looks",v0)])) (h:vy nx σ (upd H p (.ins a.C_Ft dx (([("looks",v0),("books",v)]:List (Str × V)))))):StX K H p "books" v nx σ:=stX hp T.cl_Ft T.n_Ft_books (by show 1 < 1000; decide) (vh (by right) wk) h
theorem yhe (T:Txt K mg a) (hp:H p=some (.ins a.C_Ft dx (uh v0 v1 v2 v3 v4 v5))) (h:P v2):RdX K H p "mixer" P:=rdX hp T.cl_Ft T.n_Ft_mixer (yp (by right) (yp (by right) xy)) h
theorem yg0 (T:Txt K mg a) (hp:H p=some (.ins a.C_Ft dx (uh v0 v1 v2 v3 v4 v5))) (h:vy nx σ (upd H p (.ins a.C_Ft dx (uh v0 v1 v v3 v4 v5)))):StX K H p "mixer" v nx σ:=stX hp T.cl_Ft T.n_Ft_mixer (by show 6 < 1000; decide) (vh (by right) (vh (by right) x8)) h
theorem yg1 (T:Txt K mg a) (hp:H p=some (.ins a.C_Ft dx [("looks",v0),("books",v1)])) (h:vy nx σ (upd H p (.ins a.C_Ft dx (([("looks",v0),("books",v1),("mixer",v)]:List (Str × V)))))):StX K H p "mixer" v nx σ:=stX hp T.cl_Ft T.n_Ft_mixer (by show 2 < 1000; decide) (vh (by right) (vh (by right) wk)) h
theorem yg9 (T:Txt K mg a) (hp:H p=some (.ins a.C_Ft dx (uh v0 v1 v2 v3 v4 v5))) (h:P v3):RdX K H p "ended" P:=rdX hp T.cl_Ft T.n_Ft_ended (yp (by right) (yp (by right) (yp (by right) xy))) h
theorem yg6 (T:Txt K mg a) (hp:H p=some (.ins a.C_Ft dx (uh v0 v1 v2 v3 v4 v5))) (h:vy nx σ (upd H p (.ins a.C_Ft dx (uh v0 v1 v2 v v4 v5)))):StX K H p "ended" v nx σ:=stX hp T.cl_Ft T.n_Ft_ended (by show 6 < 1000; decide) (vh (by right) (vh (by right) (vh (by right) x8))) h
theorem yg4 (T:Txt K mg a) (hp:H p=some (.ins a.C_Ft dx [("looks",v0),("books",v1),("mixer",v2)])) (h:vy nx σ (upd H p (.ins a.C_Ft dx (([("looks",v0),("books",v1),("mixer",v2),("ended",v)]:List (Str × V)))))):StX K H p "ended" v nx σ:=stX hp T.cl_Ft T.n_Ft_ended (by show 3 < 1000; decide) (vh (by right) (vh (by right) (vh (by right) wk))) h
theorem ygu (T:Txt K mg a) (hp:H p=some (.ins a.C_Ft dx (uh v0 v1 v2 v3 v4 v5))) (h:P v4):RdX K H p "place" P:=rdX hp T.cl_Ft T.n_Ft_place (yp (by right) (yp (by right) (yp (by right) (yp (by right) xy)))) h
theorem yhm (T:Txt K mg a) (hp:H p=some (.ins a.C_Ft dx (uh v0 v1 v2 v3 v4 v5))) (h:vy nx σ (upd H p (.ins a.C_Ft dx (uh v0 v1 v2 v3 v v5)))):StX K H p "place" v nx σ:=stX hp T.cl_Ft T.n_Ft_place (by show 6 < 1000; decide) (vh (by right) (vh (by right) (vh (by right) (vh (by right) x8)))) h
theorem ygx (T:Txt K mg a) (hp:H p=some (.ins a.C_Ft dx [("looks",v0),("books",v1),("mixer",v2),("ended",v3)])) (h:vy nx σ (upd H p (.ins a.C_Ft dx (([("looks",v0),("books",v1),("mixer",v2),("ended",v3),("place",v)]:List (Str × V)))))):StX K H p "place" v nx σ:=stX hp T.cl_Ft T.n_Ft_place (by show 4 < 1000; decide) (vh (by right) (vh (by right) (vh (by right) (vh (by right) wk)))) h
theorem yel (T:Txt K mg a) (hp:H p=some (.ins a.C_Ft dx (uh v0 v1 v2 v3 v4 v5))) (h:P v5):RdX K H p "present" P:=rdX hp T.cl_Ft T.n_Ft_present (yp (by right) (yp (by right) (yp (by right) (yp (by right) (yp (by right) xy))))) h
theorem ydr (T:Txt K mg a) (hp:H p=some (.ins a.C_Ft dx (uh v0 v1 v2 v3 v4 v5))) (h:vy nx σ (upd H p (.ins a.C_Ft dx (uh v0 v1 v2 v3 v4 v)))):StX K H p "present" v nx σ:=stX hp T.cl_Ft T.n_Ft_present (by show 6 < 1000; decide) (vh (by right) (vh (by right) (vh (by right) (vh (by right) (vh (by right) x8))))) h
theorem yen (T:Txt K mg a) (hp:H p=some (.ins a.C_Ft dx [("looks",v0),("books",v1),("mixer",v2),("ended",v3),("place",v4)])) (h:vy nx σ (upd H p (.ins a.C_Ft dx (uh v0 v1 v2 v3 v4 v)))):StX K H p "present" v nx σ:=stX hp T.cl_Ft T.n_Ft_present (by show 5 < 1000; decide) (vh (by right) (vh (by right) (vh (by right) (vh (by right) (vh (by right) wk))))) h
theorem yfo:(uh v0 v1 v2 v3 v4 v5).lookup ("arrive":Str)=none:=(yp (by right) (yp (by right) (yp (by right) (yp (by right) (yp (by right) (yp (by right) wb))))))
theorem yfi {C:Addr} (hp:H p=some (.ins C dx (uh v0 v1 v2 v3 v4 v5))) (h:R):MtX H p C "arrive" R:=⟨p,dx,_,rfl,hp,yfo,h⟩
theorem yei:(uh v0 v1 v2 v3 v4 v5).lookup ("chances":Str)=none:=(yp (by right) (yp (by right) (yp (by right) (yp (by right) (yp (by right) (yp (by right) wb))))))
theorem yee {C:Addr} (hp:H p=some (.ins C dx (uh v0 v1 v2 v3 v4 v5))) (h:R):MtX H p C "chances" R:=⟨p,dx,_,rfl,hp,yei,h⟩
theorem yfw:(uh v0 v1 v2 v3 v4 v5).lookup ("chance":Str)=none:=(yp (by right) (yp (by right) (yp (by right) (yp (by right) (yp (by right) (yp (by right) wb))))))
theorem yfv {C:Addr} (hp:H p=some (.ins C dx (uh v0 v1 v2 v3 v4 v5))) (h:R):MtX H p C "chance" R:=⟨p,dx,_,rfl,hp,yfw,h⟩
theorem ymu:(uh v0 v1 v2 v3 v4 v5).lookup ("see":Str)=none:=(yp (by right) (yp (by right) (yp (by right) (yp (by right) (yp (by right) (yp (by right) wb))))))
theorem ymr {C:Addr} (hp:H p=some (.ins C dx (uh v0 v1 v2 v3 v4 v5))) (h:R):MtX H p C "see" R:=⟨p,dx,_,rfl,hp,ymu,h⟩
theorem yj3:(uh v0 v1 v2 v3 v4 v5).lookup ("step":Str)=none:=(yp (by right) (yp (by right) (yp (by right) (yp (by right) (yp (by right) (yp (by right) wb))))))
theorem yj1 {C:Addr} (hp:H p=some (.ins C dx (uh v0 v1 v2 v3 v4 v5))) (h:R):MtX H p C "step" R:=⟨p,dx,_,rfl,hp,yj3,h⟩
theorem jx:(uh v0 v1 v2 v3 v4 v5).lookup ("step_in_sign":Str)=none:=(yp (by right) (yp (by right) (yp (by right) (yp (by right) (yp (by right) (yp (by right) wb))))))
theorem jy {C:Addr} (hp:H p=some (.ins C dx (uh v0 v1 v2 v3 v4 v5))) (h:R):MtX H p C "step_in_sign" R:=⟨p,dx,_,rfl,hp,jx,h⟩
end
local macro_rules | `(tactic| walk_at "rd1")=>`(tactic| first
 | exists 1,"yg3 yhl yhi yhh yhe yg0 yg1 yg9 yg6 yg4 ygu yhm ygx yel ydr yen"
 | exists 2,"yfi yee yfv ymr yj1 jy")
def wz (v0 v1 v2:V):List (Str × V):=[("foreteller",v0),("links",v1),("texts",v2)]
section
variable {H:Hp} {p dx:Addr} {v0 v1 v2 v:V} {P:V->Prop} {R:Prop} {nx:St->Hp->Prop} {σ:St}
theorem jj (T:Txt K mg a) (hp:H p=some (.ins a.C_Chain dx (wz v0 v1 v2))) (h:P v0):RdX K H p "foreteller" P:=rdX hp T.cl_Chain T.n_Chain_foreteller xy h
theorem jg (T:Txt K mg a) (hp:H p=some (.ins a.C_Chain dx [])) (h:vy nx σ (upd H p (.ins a.C_Chain dx (([("foreteller",v)]:List (Str × V)))))):StX K H p "foreteller" v nx σ:=stX hp T.cl_Chain T.n_Chain_foreteller (by show 0 < 1000; decide) wk h
theorem yc0 (T:Txt K mg a) (hp:H p=some (.ins a.C_Chain dx (wz v0 v1 v2))) (h:P v1):RdX K H p "links" P:=rdX hp T.cl_Chain T.n_Chain_links (yp (by right) xy) h
theorem ycy (T:Txt K mg a) (hp:H p=some (.ins a.C_Chain dx (wz v0 v1 v2))) (h:vy nx σ (upd H p (.ins a.C_Chain dx (wz v0 v v2)))):StX K H p "links" v nx σ:=stX hp T.cl_Chain T.n_Chain_links (by show 3 < 1000; decide) (vh (by right) x8) h
theorem yc7 (T:Txt K mg a) (hp:H p=some (.ins a.C_Chain dx [("foreteller",v0)])) (h:vy nx σ (upd H p (.ins a.C_Chain dx (([("foreteller",v0),("links",v)]:List (Str × V)))))):StX K H p "links" v nx σ:=stX hp T.cl_Chain T.n_Chain_links (by show 1 < 1000; decide) (vh (by right) wk) h
theorem yc2 (T:Txt K mg a) (hp:H p=some (.ins a.C_Chain dx (wz v0 v1 v2))) (h:P v2):RdX K H p "texts" P:=rdX hp T.cl_Chain T.n_Chain_texts (yp (by right) (yp (by right) xy)) h
theorem yc4 (T:Txt K mg a) (hp:H p=some (.ins a.C_Chain dx (wz v0 v1 v2))) (h:vy nx σ (upd H p (.ins a.C_Chain dx (wz v0 v1 v)))):StX K H p "texts" v nx σ:=stX hp T.cl_Chain T.n_Chain_texts (by show 3 < 1000; decide) (vh (by right) (vh (by right) x8)) h
theorem yc3 (T:Txt K mg a) (hp:H p=some (.ins a.C_Chain dx [("foreteller",v0),("links",v1)])) (h:vy nx σ (upd H p (.ins a.C_Chain dx (wz v0 v1 v)))):StX K H p "texts" v nx σ:=stX hp T.cl_Chain T.n_Chain_texts (by show 2 < 1000; decide) (vh (by right) (vh (by right) wk)) h
theorem yd8:(wz v0 v1 v2).lookup ("grow":Str)=none:=(yp (by right) (yp (by right) (yp (by right) wb)))
theorem yek {C:Addr} (hp:H p=some (.ins C dx (wz v0 v1 v2))) (h:R):MtX H p C "grow" R:=⟨p,dx,_,rfl,hp,yd8,h⟩
theorem ycv:(wz v0 v1 v2).lookup ("press":Str)=none:=(yp (by right) (yp (by right) (yp (by right) wb)))
theorem yc8 {C:Addr} (hp:H p=some (.ins C dx (wz v0 v1 v2))) (h:R):MtX H p C "press" R:=⟨p,dx,_,rfl,hp,ycv,h⟩
theorem yd7:(wz v0 v1 v2).lookup ("read":Str)=none:=(yp (by right) (yp (by right) (yp (by right) wb)))
theorem yeg {C:Addr} (hp:H p=some (.ins C dx (wz v0 v1 v2))) (h:R):MtX H p C "read" R:=⟨p,dx,_,rfl,hp,yd7,h⟩
end
local macro_rules | `(tactic| walk_at "rd1")=>`(tactic| first
 | exists 1,"jj jg yc0 ycy yc7 yc2 yc4 yc3"
 | exists 2,"yek yc8 yeg")
def zr (v0 v1:V):List (Str × V):=[("base",v0),("data",v1)]
section
variable {H:Hp} {p dx:Addr} {v0 v1 v:V} {P:V->Prop} {R:Prop} {nx:St->Hp->Prop} {σ:St}
theorem yej (T:Txt K mg a) (hp:H p=some (.ins a.C_Piece dx (zr v0 v1))) (h:P v0):RdX K H p "base" P:=rdX hp T.cl_Piece T.n_Piece_base xy h
theorem ydt (T:Txt K mg a) (hp:H p=some (.ins a.C_Piece dx [])) (h:vy nx σ (upd H p (.ins a.C_Piece dx (([("base",v)]:List (Str × V)))))):StX K H p "base" v nx σ:=stX hp T.cl_Piece T.n_Piece_base (by show 0 < 1000; decide) wk h
theorem yea (T:Txt K mg a) (hp:H p=some (.ins a.C_Piece dx (zr v0 v1))) (h:P v1):RdX K H p "data" P:=rdX hp T.cl_Piece T.n_Piece_data (yp (by right) xy) h
theorem ydv (T:Txt K mg a) (hp:H p=some (.ins a.C_Piece dx (zr v0 v1))) (h:vy nx σ (upd H p (.ins a.C_Piece dx (zr v0 v)))):StX K H p "data" v nx σ:=stX hp T.cl_Piece T.n_Piece_data (by show 2 < 1000; decide) (vh (by right) x8) h
theorem yd3 (T:Txt K mg a) (hp:H p=some (.ins a.C_Piece dx [("base",v0)])) (h:vy nx σ (upd H p (.ins a.C_Piece dx (zr v0 v)))):StX K H p "data" v nx σ:=stX hp T.cl_Piece T.n_Piece_data (by show 1 < 1000; decide) (vh (by right) wk) h
end
local macro_rules | `(tactic| walk_at "rd1")=>`(tactic| first
 | exists 1,"yej ydt yea ydv yd3")
def y6 (v0 v1 v2 v3:V):List (Str × V):=[("looks",v0),("most",v1),("pieces",v2),("chain",v3)]
section
variable {H:Hp} {p dx:Addr} {v0 v1 v2 v3 v:V} {P:V->Prop} {R:Prop} {nx:St->Hp->Prop} {σ:St}
theorem yc5 (T:Txt K mg a) (hp:H p=some (.ins a.C_Store dx (y6 v0 v1 v2 v3))) (h:P v0):RdX K H p "looks" P:=rdX hp T.cl_Store T.n_Store_looks xy h
theorem ycw (T:Txt K mg a) (hp:H p=some (.ins a.C_Store dx [])) (h:vy nx σ (upd H p (.ins a.C_Store dx (([("looks",v)]:List (Str × V)))))):StX K H p "looks" v nx σ:=stX hp T.cl_Store T.n_Store_looks (by show 0 < 1000; decide) wk h
theorem yd9 (T:Txt K mg a) (hp:H p=some (.ins a.C_Store dx (y6 v0 v1 v2 v3))) (h:P v1):RdX K H p "most" P:=rdX hp T.cl_Store T.n_Store_most (yp (by right) xy) h
theorem yd6 (T:Txt K mg a) (hp:H p=some (.ins a.C_Store dx (y6 v0 v1 v2 v3))) (h:vy nx σ (upd H p (.ins a.C_Store dx (y6 v0 v v2 v3)))):StX K H p "most" v nx σ:=stX hp T.cl_Store T.n_Store_most (by show 4 < 1000; decide) (vh (by right) x8) h
theorem ydx (T:Txt K mg a) (hp:H p=some (.ins a.C_Store dx [("looks",v0)])) (h:vy nx σ (upd H p (.ins a.C_Store dx (([("looks",v0),("most",v)]:List (Str × V)))))):StX K H p "most" v nx σ:=stX hp T.cl_Store T.n_Store_most (by show 1 < 1000; decide) (vh (by right) wk) h
theorem yb7 (T:Txt K mg a) (hp:H p=some (.ins a.C_Store dx (y6 v0 v1 v2 v3))) (h:P v2):RdX K H p "pieces" P:=rdX hp T.cl_Store T.n_Store_pieces (yp (by right) (yp (by right) xy)) h
theorem yb4 (T:Txt K mg a) (hp:H p=some (.ins a.C_Store dx (y6 v0 v1 v2 v3))) (h:vy nx σ (upd H p (.ins a.C_Store dx (y6 v0 v1 v v3)))):StX K H p "pieces" v nx σ:=stX hp T.cl_Store T.n_Store_pieces (by show 4 < 1000; decide) (vh (by right) (vh (by right) x8)) h
theorem ybz (T:Txt K mg a) (hp:H p=some (.ins a.C_Store dx [("looks",v0),("most",v1)])) (h:vy nx σ (upd H p (.ins a.C_Store dx (([("looks",v0),("most",v1),("pieces",v)]:List (Str × V)))))):StX K H p "pieces" v nx σ:=stX hp T.cl_Store T.n_Store_pieces (by show 2 < 1000; decide) (vh (by right) (vh (by right) wk)) h
theorem yc6 (T:Txt K mg a) (hp:H p=some (.ins a.C_Store dx (y6 v0 v1 v2 v3))) (h:P v3):RdX K H p "chain" P:=rdX hp T.cl_Store T.n_Store_chain (yp (by right) (yp (by right) (yp (by right) xy))) h
theorem ycz (T:Txt K mg a) (hp:H p=some (.ins a.C_Store dx (y6 v0 v1 v2 v3))) (h:vy nx σ (upd H p (.ins a.C_Store dx (y6 v0 v1 v2 v)))):StX K H p "chain" v nx σ:=stX hp T.cl_Store T.n_Store_chain (by show 4 < 1000; decide) (vh (by right) (vh (by right) (vh (by right) x8))) h
theorem yc1 (T:Txt K mg a) (hp:H p=some (.ins a.C_Store dx [("looks",v0),("most",v1),("pieces",v2)])) (h:vy nx σ (upd H p (.ins a.C_Store dx (y6 v0 v1 v2 v)))):StX K H p "chain" v nx σ:=stX hp T.cl_Store T.n_Store_chain (by show 3 < 1000; decide) (vh (by right) (vh (by right) (vh (by right) wk))) h
theorem yfh:(y6 v0 v1 v2 v3).lookup ("put":Str)=none:=(yp (by right) (yp (by right) (yp (by right) (yp (by right) wb))))
theorem yfr {C:Addr} (hp:H p=some (.ins C dx (y6 v0 v1 v2 v3))) (h:R):MtX H p C "put" R:=⟨p,dx,_,rfl,hp,yfh,h⟩
theorem zi:(y6 v0 v1 v2 v3).lookup ("check_length":Str)=none:=(yp (by right) (yp (by right) (yp (by right) (yp (by right) wb))))
theorem zj {C:Addr} (hp:H p=some (.ins C dx (y6 v0 v1 v2 v3))) (h:R):MtX H p C "check_length" R:=⟨p,dx,_,rfl,hp,zi,h⟩
theorem jf:(y6 v0 v1 v2 v3).lookup ("check_room":Str)=none:=(yp (by right) (yp (by right) (yp (by right) (yp (by right) wb))))
theorem ji {C:Addr} (hp:H p=some (.ins C dx (y6 v0 v1 v2 v3))) (h:R):MtX H p C "check_room" R:=⟨p,dx,_,rfl,hp,jf,h⟩
theorem yau:(y6 v0 v1 v2 v3).lookup ("piece_at":Str)=none:=(yp (by right) (yp (by right) (yp (by right) (yp (by right) wb))))
theorem yar {C:Addr} (hp:H p=some (.ins C dx (y6 v0 v1 v2 v3))) (h:R):MtX H p C "piece_at" R:=⟨p,dx,_,rfl,hp,yau,h⟩
theorem yao:(y6 v0 v1 v2 v3).lookup ("links_to":Str)=none:=(yp (by right) (yp (by right) (yp (by right) (yp (by right) wb))))
theorem yap {C:Addr} (hp:H p=some (.ins C dx (y6 v0 v1 v2 v3))) (h:R):MtX H p C "links_to" R:=⟨p,dx,_,rfl,hp,yao,h⟩
theorem yas:(y6 v0 v1 v2 v3).lookup ("chain_to":Str)=none:=(yp (by right) (yp (by right) (yp (by right) (yp (by right) wb))))
theorem yan {C:Addr} (hp:H p=some (.ins C dx (y6 v0 v1 v2 v3))) (h:R):MtX H p C "chain_to" R:=⟨p,dx,_,rfl,hp,yas,h⟩
theorem yaq:(y6 v0 v1 v2 v3).lookup ("texts_to":Str)=none:=(yp (by right) (yp (by right) (yp (by right) (yp (by right) wb))))
theorem yat {C:Addr} (hp:H p=some (.ins C dx (y6 v0 v1 v2 v3))) (h:R):MtX H p C "texts_to" R:=⟨p,dx,_,rfl,hp,yaq,h⟩
theorem ybd:(y6 v0 v1 v2 v3).lookup ("text_of":Str)=none:=(yp (by right) (yp (by right) (yp (by right) (yp (by right) wb))))
theorem ybe {C:Addr} (hp:H p=some (.ins C dx (y6 v0 v1 v2 v3))) (h:R):MtX H p C "text_of" R:=⟨p,dx,_,rfl,hp,ybd,h⟩
theorem ybf:(y6 v0 v1 v2 v3).lookup ("base_of":Str)=none:=(yp (by right) (yp (by right) (yp (by right) (yp (by right) wb))))
theorem ybc {C:Addr} (hp:H p=some (.ins C dx (y6 v0 v1 v2 v3))) (h:R):MtX H p C "base_of" R:=⟨p,dx,_,rfl,hp,ybf,h⟩
theorem je:(y6 v0 v1 v2 v3).lookup ("learned_of":Str)=none:=(yp (by right) (yp (by right) (yp (by right) (yp (by right) wb))))
theorem jh {C:Addr} (hp:H p=some (.ins C dx (y6 v0 v1 v2 v3))) (h:R):MtX H p C "learned_of" R:=⟨p,dx,_,rfl,hp,je,h⟩
theorem ydz:(y6 v0 v1 v2 v3).lookup ("drop":Str)=none:=(yp (by right) (yp (by right) (yp (by right) (yp (by right) wb))))
theorem yd4 {C:Addr} (hp:H p=some (.ins C dx (y6 v0 v1 v2 v3))) (h:R):MtX H p C "drop" R:=⟨p,dx,_,rfl,hp,ydz,h⟩
end
local macro_rules | `(tactic| walk_at "rd1")=>`(tactic| first
 | exists 1,"yc5 ycw yd9 yd6 ydx yb7 yb4 ybz yc6 ycz yc1"
 | exists 2,"yfr zj ji yar yap yan yat ybe ybc jh yd4")
open SpanMath
def But (p:Addr) (H H':Hp):Prop:=∀ b o,H b=some o->b≠p->H' b=some o
theorem But.refl {p:Addr} {H:Hp}:But p H H:=fun _ _ h _=>h
theorem But.of {p:Addr} {H H':Hp} (s:y0 H H'):But p H H':=fun b o h _=>s b o h
theorem But.trans {p:Addr} {H H1 H2:Hp} (x:But p H H1) (y:But p H1 H2):But p H H2:=fun b o h n=>y b o (x b o h n) n
theorem But.upd {p:Addr} {H:Hp} {o:HO}:But p H (L2.upd H p o):=fun b u h n=>by rw [ym n]; exact h
theorem But.lst {p l C dx:Addr} {fs:List (Str × V)} {H H':Hp} {xs:List V} (e:But p H H') (hp:H p=some (.ins C dx fs)) (h:H l=some (.lst xs)):H' l=some (.lst xs):=e _ _ h (xi h hp (by intro z; cases z))
theorem uy {x:V} (h:yai x=true):∃ i,x=.int i:=by
 cases x with
 | int i=>exact ⟨i,rfl⟩
 | _=>cases h
def ybp:V->Bool
 | .int i=>decide (0 <= i) && decide (i <= 1)
 | _=>false
def chV:V->Bool
 | .int i=>decide (32768 <= i) && decide (i <= 16744448)
 | _=>false
def zx (x:Sn):List (Str × V):=[("low",.int x.1),("width",.int x.2.1),("size",.int x.2.2)]
theorem nWL:¬ (("width":Str)="low"):=by right
theorem nLW:¬ (("low":Str)="width"):=by right
theorem nSL:¬ (("size":Str)="low"):=by right
theorem nLS:¬ (("low":Str)="size"):=by right
theorem nSW:¬ (("size":Str)="width"):=by right
theorem nWS:¬ (("width":Str)="size"):=by right
theorem lkL (x:Sn):(zx x).lookup ("low":Str)=some (.int x.1):=xy
theorem lkW (x:Sn):(zx x).lookup ("width":Str)=some (.int x.2.1):=yp nWL xy
theorem lkS (x:Sn):(zx x).lookup ("size":Str)=some (.int x.2.2):=yp nSL (yp nSW xy)
theorem lkN (x:Sn) {m:Str} (h1:¬ m="low") (h2:¬ m="width") (h3:¬ m="size"):(zx x).lookup m=none:=yp h1 (yp h2 (yp h3 wb))
theorem pfL (x:Sn) (v:Int):z9 "low" (.int v) (zx x)=zx (v,x.2.1,x.2.2):=x8
theorem pfW (x:Sn) (v:Int):z9 "width" (.int v) (zx x)=zx (x.1,v,x.2.2):=vh nLW x8
theorem pfS (x:Sn) (v:Int):z9 "size" (.int v) (zx x)=zx (x.1,x.2.1,v):=vh nLS (vh nWS x8)
section
variable {H:Hp} {p dx:Addr} {x:Sn} {P:V->Prop} {nx:St->Hp->Prop} {σ:St} {v:Int}
theorem rdL (T:Txt K mg a) (hp:H p=some (.ins a.C_Span dx (zx x))) (h:P (.int x.1)) :
  ∃ a' C dx fs v,V.ref p=.ref a'/\H a'=some (.ins C dx fs)/\Cls K C/\vi K C "low"/\fs.lookup ("low":Str)=some v/\P v:=⟨p,_,dx,_,_,rfl,hp,T.cl_Span,T.n_Span_low,lkL x,h⟩
theorem rdW (T:Txt K mg a) (hp:H p=some (.ins a.C_Span dx (zx x))) (h:P (.int x.2.1)) :
  ∃ a' C dx fs v,V.ref p=.ref a'/\H a'=some (.ins C dx fs)/\Cls K C/\vi K C "width"/\fs.lookup ("width":Str)=some v/\P v:=⟨p,_,dx,_,_,rfl,hp,T.cl_Span,T.n_Span_width,lkW x,h⟩
theorem rdS (T:Txt K mg a) (hp:H p=some (.ins a.C_Span dx (zx x))) (h:P (.int x.2.2)) :
  ∃ a' C dx fs v,V.ref p=.ref a'/\H a'=some (.ins C dx fs)/\Cls K C/\vi K C "size"/\fs.lookup ("size":Str)=some v/\P v:=⟨p,_,dx,_,_,rfl,hp,T.cl_Span,T.n_Span_size,lkS x,h⟩
theorem vha (T:Txt K mg a) (hp:H p=some (.ins a.C_Span dx (zx x))) (h:vy nx σ (upd H p (.ins a.C_Span dx (zx (v,x.2.1,x.2.2))))) :
  ∃ a' C dx fs,V.ref p=.ref a'/\H a'=some (.ins C dx fs)/\Cls K C/\vi K C "low"/\fs.length < 1000/\vy nx σ (upd H a' (.ins C dx (z9 "low" (.int v) fs))):=⟨p,_,dx,zx x,rfl,hp,T.cl_Span,T.n_Span_low,by show 3 < 1000; decide,by rw [pfL]; exact h⟩
theorem vg7 (T:Txt K mg a) (hp:H p=some (.ins a.C_Span dx (zx x))) (h:vy nx σ (upd H p (.ins a.C_Span dx (zx (x.1,v,x.2.2))))) :
  ∃ a' C dx fs,V.ref p=.ref a'/\H a'=some (.ins C dx fs)/\Cls K C/\vi K C "width"/\fs.length < 1000/\vy nx σ (upd H a' (.ins C dx (z9 "width" (.int v) fs))):=⟨p,_,dx,zx x,rfl,hp,T.cl_Span,T.n_Span_width,by show 3 < 1000; decide,by rw [pfW]; exact h⟩
theorem vhd (T:Txt K mg a) (hp:H p=some (.ins a.C_Span dx (zx x))) (h:vy nx σ (upd H p (.ins a.C_Span dx (zx (x.1,x.2.1,v))))) :
  ∃ a' C dx fs,V.ref p=.ref a'/\H a'=some (.ins C dx fs)/\Cls K C/\vi K C "size"/\fs.length < 1000/\vy nx σ (upd H a' (.ins C dx (z9 "size" (.int v) fs))):=⟨p,_,dx,zx x,rfl,hp,T.cl_Span,T.n_Span_size,by show 3 < 1000; decide,by rw [pfS]; exact h⟩
end
local macro_rules | `(tactic| walk_at "rd1")=>`(tactic| first
 | exists 1,"rdL rdW rdS vha vg7"
 | (with_reducible refine' vhd (by assumption) ?rdh ?_; (case rdh=>first | assumption | exact ya)))
inductive Slt where
 | ev (n o:Int)
 | qk (h:Int)
 | rn (l n:Int)
def Slt.ok:Slt->Prop
 | .ev n o=>0 <= n/\0 <= o/\n+o <= 255
 | .qk h=>32768 <= h/\h <= 16744448
 | .rn l n=>0 <= l/\l <= 1/\0 <= n/\n <= 255
def ya8 (n:Int):Int:=(2 * n+1) * 16777216 / (2 * n+2)
def Slt.due:Slt->Int
 | .ev n o=>(2 * o+1) * 16777216 / (2 * (n+o)+2)
 | .qk h=>h
 | .rn l n=>if l=1 then ya8 n else 16777216 - ya8 n
def yh6 (n o:Int):Slt:=if 255 < n+o then .ev ((n+1) / 2) ((o+1) / 2) else .ev n o
def yjn (m:Int):Int:=if 16744448 < (if 32768 > m then 32768 else m) then 16744448 else (if 32768 > m then 32768 else m)
def Slt.see:Slt->Int->Slt
 | .ev n o,b=>if b=1 then yh6 n (o+1) else yh6 (n+1) o
 | .qk h,b=>.qk (yjn (if b=1 then h+(16777216 - h) / 16 else h - h / 16))
 | .rn l n,b=>if b=l then .rn l (if 255 < n+1 then 255 else n+1) else .rn b 1
def oS (a:Ads) (dx:Addr):Slt->HO
 | .ev n o=>.ins a.C_Even dx (u5 (.int n) (.int o))
 | .qk h=>.ins a.C_Quick dx (uu (.int h))
 | .rn l n=>.ins a.C_Run dx (ya4 (.int l) (.int n))
theorem yi5 {n o:Int} (h1:0 <= n) (h2:0 <= o) (h3:n+o <= 256):(yh6 n o).ok:=by
 unfold yh6
 split
 ·exact ⟨by omega,by omega,by omega⟩
 ·exact ⟨h1,h2,by omega⟩
theorem ymk (m:Int):32768 <= yjn m/\yjn m <= 16744448:=by
 unfold yjn
 split <;> split <;> omega
theorem Slt.see_ok {s:Slt} {b:Int} (h:s.ok) (b0:0 <= b) (b1:b <= 1):(s.see b).ok:=by
 cases s with
 | ev n o =>
  obtain ⟨a,c,d⟩:=h
  unfold Slt.see
  dsimp only
  split
  ·exact yi5 a (by omega) (by omega)
  ·exact yi5 (by omega) c (by omega)
 | qk h0=>exact ymk _
 | rn l n =>
  obtain ⟨a,c,d,e⟩:=h
  unfold Slt.see
  dsimp only
  split
  ·refine ⟨a,c,?_,?_⟩ <;> split <;> omega
  ·exact ⟨b0,b1,by decide,by decide⟩
def kdS:Fin 3->Str
 | 0=>"even"
 | 1=>"quick"
 | 2=>"run"
def kd0:Fin 3->Slt
 | 0=>.ev 0 0
 | 1=>.qk 8388608
 | 2=>.rn 1 0
theorem ysi (k:Fin 3):(kd0 k).ok:=by
 match k with
 | 0=>exact ⟨by decide,by decide,by decide⟩
 | 1=>exact ⟨by decide,by decide⟩
 | 2=>exact ⟨by decide,by decide,by decide,by decide⟩
theorem va1 {b:Int} (b0:0 <= b) (b1:b <= 1):ybp (.int b)=true:=by
 simp only [ybp,Bool.and_eq_true,decide_eq_true_eq]
 omega
theorem yjr {x:V} (h:ybp x=true):∃ b:Int,x=.int b/\0 <= b/\b <= 1:=by
 cases x with
 | int i =>
  simp only [ybp,Bool.and_eq_true,decide_eq_true_eq] at h
  exact ⟨i,rfl,h.1,h.2⟩
 | _=>cases h
def yeq (C:Addr) (F:List (Str × V)):Sp:=fun vs H Q _=>∃ (p dx:Addr),vs=[.ref p]/\H p=some (.ins C dx [])/\∀ H',H' p=some (.ins C dx F)->But p H H'->Q .non H'
def x9 (o:Addr->Slt->HO) (g:Slt->Prop):Sp:=fun vs H Q _=>∃ (p dx:Addr) (s:Slt),vs=[.ref p]/\g s/\s.ok/\H p=some (o dx s)/\Q (.int s.due) H
def z5 (K:W.Frag) (o:Addr->Slt->HO) (g:Slt->Prop) (C:Addr):Sp:=fun vs H Q E=>∃ (p dx:Addr) (s:Slt) (x:V) (n:String),vs=[.ref p,x]/\g s/\s.ok/\H p=some (o dx s)/\xz K H x (.type n) /\
 (∀ b:Int,x=.int b->0 <= b->b <= 1->∀ H',H' p=some (o dx (s.see b))->But p H H'->Q .non H')/\(ybp x=false->E (.ref C) none H)
def vd3:Slt->Prop
 | .ev _ _=>True
 | _=>False
def vd4:Slt->Prop
 | .qk _=>True
 | _=>False
def vd1:Slt->Prop
 | .rn _ _=>True
 | _=>False
def ygt (bs:List Int):Prop:=∀ b∈bs,0 <= b/\b <= 1
theorem yhr {n:Nat} (h:n <= 16000000):n <= sizeLine:=Nat.le_trans h (by decide)
theorem vx {n:Nat} (h:n <= 16000000):n < sizeLine:=Nat.lt_of_le_of_lt h (by decide)
theorem yag {ns:List Int} {i:Nat} {x:V} (h:(ns.map V.int)[i]?=some x):∃ n,x=.int n/\n∈ns/\ns[i]?=some n/\i < ns.length:=by
 rw [List.getElem?_map] at h
 cases e:ns[i]? with
 | none=>rw [e] at h; cases h
 | some n =>
  rw [e] at h
  have a:i < ns.length:=by
   rcases Nat.lt_or_ge i ns.length with q | q
   ·exact q
   ·rw [List.getElem?_eq_none q] at e; cases e
  exact ⟨n,(Option.some.inj h).symm,List.mem_of_getElem? e,rfl,a⟩
theorem yaw {l:List Int} {i:Nat} {q:Int} (h:l[i]?=some q):l.take (i+1)=l.take i++[q]:=by
 rw [List.take_add_one,h]
 rfl
theorem yo7 {xs ys:List Int} (h1:ygt xs) (h2:ygt ys):ygt (xs++ys):=fun b a=>by
 rcases List.mem_append.mp a with h | h
 ·exact h1 b h
 ·exact h2 b h
theorem ylt (c:Int) (n:Nat):(List.replicate n [V.int c]).flatten=(List.replicate n c).map V.int:=by
 induction n with
 | zero=>rfl
 | succ n ih=>rw [List.replicate_succ,List.flatten_cons,ih,List.replicate_succ]; rfl
def ys2 (sg:List Int) (p:Int):Int:=if p <= sg.length then (atI sg (-p)).getD 256 else 256
theorem ytw {α β:Type} (f:α->β) (xs:List α) (i:Int):atI (xs.map f) i=(atI xs i).map f:=by
 unfold atI
 rw [List.length_map]
 cases ixN xs.length i with
 | none=>rfl
 | some j =>
  show (xs.map f)[j]?=(xs[j]?).map f
  rw [List.getElem?_map]
theorem yow {sg:List Int} {p:Int} (h1:1 <= p) (h2:p <= sg.length):∃ c,atI sg (-p)=some c/\c∈sg:=by
 unfold atI ixN
 rw [if_neg (by omega)]
 by_cases h:-(sg.length:Int) <= -p
 ·rw [if_pos (by omega)]
  have a:((-p+(sg.length:Int)).toNat) < sg.length:=by omega
  exact ⟨_,List.getElem?_eq_getElem a,List.getElem_mem a⟩
 ·omega
def Slt.kind:Slt->Fin 3
 | .ev _ _=>0
 | .qk _=>1
 | .rn _ _=>2
theorem ypv (s:Slt) (b:Int):(s.see b).kind=s.kind:=by
 cases s with
 | ev n o =>
  unfold Slt.see yh6
  dsimp only
  split <;> split <;> rfl
 | qk h=>rfl
 | rn l n =>
  unfold Slt.see
  dsimp only
  split <;> rfl
theorem ypd (k:Fin 3):(kd0 k).kind=k:=by
 match k with
 | 0=>rfl
 | 1=>rfl
 | 2=>rfl
theorem ydl (a:Ads) (dx:Addr) (s:Slt):∃ C fs,oS a dx s=.ins C dx fs:=by
 cases s <;> exact ⟨_,_,rfl⟩
theorem yjj {s:Slt} (h:s.ok):32768 <= s.due/\s.due <= 16744448:=by
 cases s with
 | ev n o =>
  obtain ⟨c,d,b⟩:=h
  unfold Slt.due
  dsimp only
  have a:(0:Int) < 2 * (n+o)+2:=by omega
  constructor
  ·rw [Int.le_ediv_iff_mul_le a]
   omega
  ·have:(2 * o+1) * 16777216 / (2 * (n+o)+2) < 16744449:=by
    rw [Int.ediv_lt_iff_lt_mul a]
    omega
   omega
 | qk h0=>exact h
 | rn l n =>
  obtain ⟨c,d,b,e⟩:=h
  have a:(0:Int) < 2 * n+2:=by omega
  have g1:8388608 <= ya8 n:=by
   unfold ya8
   rw [Int.le_ediv_iff_mul_le a]
   omega
  have g2:ya8 n < 16744449:=by
   unfold ya8
   rw [Int.ediv_lt_iff_lt_mul a]
   omega
  unfold Slt.due
  dsimp only
  split <;> omega
theorem yla {p dx:Addr} {s:Slt} {ta:TE} {σ:St} {H:Hp} {Q:VK} {E1 E2 E3:XK} (hta:∀ Q':VK,Q' (.ref p) H->ta σ H Q') (hp:H p=some (oS a dx s)) (ok:s.ok) (h:Q (.int s.due) H) :
  yxu (yh7 a.C_Even "chance" (x9 (oS a) vd3) [] E1 ta yx0) (yxu (yh7 a.C_Quick "chance" (x9 (oS a) vd4) [] E2 ta yx0) (yh7 a.C_Run "chance" (x9 (oS a) vd1) [] E3 ta yx0)) σ H Q:=by
 cases s with
 | ev n o=>exact yi9 (yjd (hta _ ⟨p,dx,_,rfl,hp,ycx,p,dx,.ev n o,rfl,trivial,ok,hp,h⟩))
 | qk h0=>exact ydo (yi9 (yjd (hta _ ⟨p,dx,_,rfl,hp,ybx,p,dx,.qk h0,rfl,trivial,ok,hp,h⟩)))
 | rn l n=>exact ydo (ydo (yjd (hta _ ⟨p,dx,_,rfl,hp,yem,p,dx,.rn l n,rfl,trivial,ok,hp,h⟩)))
theorem yuh {p dx:Addr} {s:Slt} {ta:TE} {t:TA} {σ:St} {H:Hp} {Q:VK} {E1 E2 E3:St->XK} {x:V} {n:String} (hta:∀ Q':VK,Q' (.ref p) H->ta σ H Q') (ht:∀ Q':List V->Hp->Prop,Q' [x] H->t σ H Q') (hp:H p=some (oS a dx s)) (ok:s.ok) (ty:xz K H x (.type n))
  (h:∀ b:Int,x=.int b->0 <= b->b <= 1->∀ H',H' p=some (oS a dx (s.see b))->But p H H'->Q .non H') (h1:ybp x=false->E1 σ (.ref a.C_NB) none H) (h2:ybp x=false->E2 σ (.ref a.C_NB) none H) (h3:ybp x=false->E3 σ (.ref a.C_NB) none H) :
  yxu (ygh a.C_Even "seen" (z5 K (oS a) vd3 a.C_NB) [] E1 ta t) (yxu (ygh a.C_Quick "seen" (z5 K (oS a) vd4 a.C_NB) [] E2 ta t) (ygh a.C_Run "seen" (z5 K (oS a) vd1 a.C_NB) [] E3 ta t)) σ H Q:=by
 cases s with
 | ev n o=>exact yi9 (yez (hta _ ⟨p,dx,_,rfl,hp,yfp,ht _ ⟨p,dx,.ev n o,x,_,rfl,trivial,ok,hp,ty,h,h1⟩⟩))
 | qk h0=>exact ydo (yi9 (yez (hta _ ⟨p,dx,_,rfl,hp,yec,ht _ ⟨p,dx,.qk h0,x,_,rfl,trivial,ok,hp,ty,h,h2⟩⟩)))
 | rn l n=>exact ydo (ydo (yez (hta _ ⟨p,dx,_,rfl,hp,yhg,ht _ ⟨p,dx,.rn l n,x,_,rfl,trivial,ok,hp,ty,h,h3⟩⟩)))
theorem vb3 {x:Sn} {c b:Int} (h:Ok x):(nar x c b).2.2 <= x.2.2+2:=by
 unfold nar ren
 have:=h.z
 (repeat' split) <;> (dsimp only; omega)
abbrev tMx:Nat:=100000
theorem yiw {k:Nat} (h:k <= 6):pw k <= 281474976710656:=Int.le_trans (yni h) (by decide)
theorem ypg (xs:List Int) (y:Int):xs.map V.int++[V.int y]=(xs++[y]).map V.int:=by simp
theorem yul (xs:List Int):(xs.map V.int).reverse=xs.reverse.map V.int:=by simp
def gvv (c b:Int):Int:=if b=1 then c else 16777216 - c
theorem yhp {x:V} (h:chV x=true):∃ c,x=.int c/\32768 <= c/\c <= 16744448:=by
 cases x with
 | int i =>
  simp only [chV,Bool.and_eq_true,decide_eq_true_eq] at h
  exact ⟨i,rfl,h.1,h.2⟩
 | _=>cases h
theorem yim {x:V} (h:ybp x=true):∃ b,x=.int b/\0 <= b/\b <= 1:=by
 cases x with
 | int i =>
  simp only [ybp,Bool.and_eq_true,decide_eq_true_eq] at h
  exact ⟨i,rfl,h.1,h.2⟩
 | _=>cases h
theorem yjt {c:Int} (h:Ch c):chV (.int c)=true:=by
 obtain ⟨a,b⟩:=h
 simp only [chV,Bool.and_eq_true,decide_eq_true_eq]
 omega
theorem yhx {b:Int} (h1:0 <= b) (h2:b <= 1):ybp (.int b)=true:=by
 simp only [ybp,Bool.and_eq_true,decide_eq_true_eq]
 omega
theorem ycs {K:W.Frag} {H H':Hp} {v:V} {n:String} (S:y0 H H') (t:xz K H v (.type n)):xz K H' v (.type n):=by
 cases t with
 | non=>exact .non
 | bl b=>exact .bl b
 | int i=>exact .int i
 | str x=>exact .str x
 | flt x=>exact .flt x
 | lst e=>exact .lst (S _ _ e)
 | frz e=>exact .frz (S _ _ e)
 | tup e=>exact .tup (S _ _ e)
 | dK e=>exact .dK (S _ _ e)
 | dT e=>exact .dT (S _ _ e)
def sgV:V->Bool
 | .int i=>decide (0 <= i) && decide (i <= 255)
 | _=>false
def Typed (K:W.Frag) (H:Hp) (xs:List V):Prop:=∀ y∈xs,∃ k:String,xz K H y (.type k)
theorem Typed.same {K:W.Frag} {H H':Hp} {xs:List V} (t:Law.Typed K H xs) (S:y0 H H'):Law.Typed K H' xs:=fun y a=>let ⟨k,z⟩:=t y a; ⟨k,ycs S z⟩
theorem ydk {K:W.Frag} {H:Hp} (ns:List Int):Typed K H (ns.map V.int):=fun y a=>by
 obtain ⟨i,_,rfl⟩:=List.mem_map.mp a
 exact ⟨_,.int i⟩
def Bad (K:W.Frag) (H:Hp) (x:V) (n:String) (m:Int):Prop:=n≠"list"\/∃ p xs,x=.ref p/\H p=some (.lst xs)/\Typed K H xs/\xs.length <= 100000/\(decide ((xs.length:Int) <= m) && xs.all sgV)=false
def vdu (K:W.Frag) (H:Hp) (x:V) (xs:List V) (m:Int):Prop:=∃ p,x=.ref p/\H p=some (.lst xs)/\Typed K H xs/\xs.length <= 100000/\(decide ((xs.length:Int) <= m) && xs.all sgV)=true
theorem ytg {K:W.Frag} {H:Hp} {x:V} {n:String} (ty:xz K H x (.type n)):W.kitOne K (.type n) (.type "list")=some (decide (n="list")):=by
 cases ty <;> rfl
theorem yp3 {n:Nat} (h:n <= 100000):n < sizeLine:=Nat.lt_of_le_of_lt h (by decide)
theorem yik {xs:List V} (n:Nat):yic xs (some (n:Int)) none=xs.drop n:=by
 unfold yic
 rw [HT.sIx_nat,HT.sIx_none]
 by_cases h:n <= xs.length
 ·rw [Nat.min_eq_left h,List.take_of_length_le (by rw [List.length_drop]; exact Nat.le_refl _)]
 ·rw [Nat.min_eq_right (by omega),Nat.sub_self,List.take_zero,List.drop_of_length_le (by omega)]
theorem ynb {ns:List Int} (h:∀ i∈ns,0 <= i/\i <= 255):(ns.map V.int).all sgV=true:=by
 rw [List.all_map,List.all_eq_true]
 intro i b
 obtain ⟨a,c⟩:=h i b
 simp [sgV,a,c]
def ydb (K:W.Frag) (C:Addr) (m:Int):Sp:=fun vs H Q E=>∃ x n,vs=[x]/\xz K H x (.type n)/\((Bad K H x n m/\∀ H',y0 H H'->E (.ref C) none H')\/∃ xs,vdu K H x xs m/\∀ r H',H r=none->H' r=some (.lst xs)->y0 H H'->Q (.ref r) H')
def yoj (p q:Addr) (H H':Hp):Prop:=∀ b o,H b=some o->b≠p->b≠q->H' b=some o
theorem But.two {p q:Addr} {H H':Hp} (h:But p H H'):yoj p q H H':=fun b o e n _=>h b o e n
theorem But.two' {p q:Addr} {H H':Hp} (h:But q H H'):yoj p q H H':=fun b o e _ n=>h b o e n
theorem yoj.trans {p q:Addr} {H H1 H2:Hp} (x:yoj p q H H1) (y:yoj p q H1 H2):yoj p q H H2:=fun b o h n m=>y b o (x b o h n m) n m
structure yk7 (a:Ads) (H:Hp) (p dx pd ps ds:Addr) (d:List Int) (x:Sn):Prop where
 me:H p=some (.ins a.C_Sk dx (ybl (.ref pd) (.ref ps) (.int (rn d (sz x))) (.int x.2.2)))
 dt:H pd=some (.lst (d.map V.int))
 sp:H ps=some (.ins a.C_Span ds (zx x))
 ne:p≠ps
theorem yk7.same {a:Ads} {H H':Hp} {p dx pd ps ds:Addr} {d:List Int} {x:Sn} (h:yk7 a H p dx pd ps ds d x) (S:y0 H H'):yk7 a H' p dx pd ps ds d x:=⟨S _ _ h.me,S _ _ h.dt,S _ _ h.sp,h.ne⟩
section
variable {a:Ads} {H H':Hp} {p dx pd ps ds:Addr} {d:List Int} {x:Sn}
theorem yk7.lst (h:yk7 a H p dx pd ps ds d x) (B:yoj p ps H H') {l:Addr} {xs:List V} (e:H l=some (.lst xs)):H' l=some (.lst xs):=B _ _ e (xi e h.me (by intro z; cases z)) (xi e h.sp (by intro z; cases z))
theorem yk7.tup (h:yk7 a H p dx pd ps ds d x) (B:yoj p ps H H') {l:Addr} {xs:List V} (e:H l=some (.tup xs)):H' l=some (.tup xs):=B _ _ e (xi e h.me (by intro z; cases z)) (xi e h.sp (by intro z; cases z))
end
theorem ypf {K:W.Frag} {H:Hp} {p:Addr} {d:List Int} (h:H p=some (.lst (d.map V.int))) (hb:Byt d) (hz:d.length <= 12000):vdu K H (.ref p) (d.map V.int) 12000 :=
 ⟨p,rfl,h,ydk d,by rw [List.length_map]; omega,by rw [ynb hb,List.length_map,decide_eq_true (by omega)]; rfl⟩
def Sgs (ns:List Int):Prop:=∀ i∈ns,0 <= i/\i <= 255
def wth:List Int:=[128,64,32,16,8,4,2,1]
def b8 (s:Int):List Int:=wth.map (fun w=>s / w % 2)
def dec:List Int->List Int
 | []=>[0]
 | s :: r=>(1 :: b8 s)++dec r
def nds:Int->List Int->List Int
 | _,[]=>[]
 | n,b :: r=>n :: nds (2 * n+b) r
def ygs:List Int->List Int
 | []=>[]
 | s :: r=>(1 :: b8 s)++ygs r
theorem yqi:∀ ns,dec ns=ygs ns++[0]
 | []=>rfl
 | s :: r=>by simp [dec,ygs,yqi r]
theorem yf8 (s:Int):∀ ns,ygs (ns++[s])=ygs ns++(1 :: b8 s)
 | []=>by simp [ygs]
 | t :: r=>by simp [ygs,yf8 s r]
theorem yrv (s:Int):(b8 s).length=8:=rfl
theorem z6:∀ ns:List Int,(ygs ns).length=9 * ns.length
 | []=>rfl
 | s :: r=>by
  show ((1 :: b8 s)++ygs r).length=9 * (r.length+1)
  rw [List.length_append,z6 r]
  show 9+_=_
  omega
theorem yt7 (s:Int):ygt (b8 s):=fun b c=>by
 obtain ⟨w,_,rfl⟩:=List.mem_map.mp c
 have a:0 <= s / w % 2:=Int.emod_nonneg _ (by decide)
 have d:s / w % 2 < 2:=Int.emod_lt_of_pos _ (by decide)
 exact ⟨a,by omega⟩
theorem yaa:∀ ns,ygt (dec ns)
 | []=>fun b a=>by rw [List.mem_singleton.mp a]; decide
 | s :: r=>by
  refine yo7 (fun b a=>?_) (yaa r)
  rcases List.mem_cons.mp a with rfl | a
  ·decide
  ·exact yt7 s b a
theorem vfg {s:Int} (h0:0 <= s) (h1:s <= 255):128 * (s / 128 % 2)+(64 * (s / 64 % 2)+(32 * (s / 32 % 2)+(16 * (s / 16 % 2)+(8 * (s / 8 % 2)+(4 * (s / 4 % 2)+(2 * (s / 2 % 2)+(1 * (s / 1 % 2)+0)))))))=s:=by
 have h:∀ n:Nat,n < 256->128 * ((n:Int) / 128 % 2)+(64 * ((n:Int) / 64 % 2)+(32 * ((n:Int) / 32 % 2)+(16 * ((n:Int) / 16 % 2)+(8 * ((n:Int) / 8 % 2)+(4 * ((n:Int) / 4 % 2)+(2 * ((n:Int) / 2 % 2)+(1 * ((n:Int) / 1 % 2)+0)))))))=(n:Int):=by right
 obtain ⟨n,rfl⟩:=Int.eq_ofNat_of_zero_le h0
 exact h n (by omega)
def wV (s:Int):V->V
 | .int w=>.int (s / w % 2)
 | _=>.non
theorem yi7 {K:W.Frag} {H:Hp} {p:Addr} {d:List Int} (h:H p=some (.lst (d.map V.int))) (hb:Sgs d) (hz:d.length <= 1000):vdu K H (.ref p) (d.map V.int) 1000 :=
 ⟨p,rfl,h,ydk d,by rw [List.length_map]; omega,by rw [ynb hb,List.length_map,decide_eq_true (by omega)]; rfl⟩
theorem yom (xs ys:List Int):xs.map V.int++ys.map V.int=(xs++ys).map V.int:=by simp
theorem uv (ns:List Int):(dec ns).length=9 * ns.length+1:=by rw [yqi,List.length_append,z6]; rfl
def ye9 (f:List Int->Option Slt) (k:List Int) (s:Slt):List Int->Option Slt:=fun j=>if j=k then some s else f j
def vdz:HO->Bool
 | .ins _ _ _=>true
 | .dT _=>true
 | _=>false
def kI (k:List Int):List Key:=k.map Sum.inl
theorem va8 (k:List Int):(kI k).map kV=k.map V.int:=by
 unfold kI
 rw [List.map_map]
 rfl
theorem ysn {j k:List Int} (h:kI j=kI k):j=k:=by
 unfold kI at h
 induction j generalizing k with
 | nil =>
  cases k with
  | nil=>rfl
  | cons _ _=>cases h
 | cons x r ih =>
  cases k with
  | nil=>cases h
  | cons y s =>
   injection h with h1 h2
   injection h1 with h1
   rw [h1,ih h2]
def yxz (H:Hp) (d:Addr):Prop:=∀ kvs,H d=some (.dT kvs)->(kvs.map (·.1)).Nodup/\∀ q∈kvs,∃ k,q.1=kI k
theorem yxz.mv {H H':Hp} {d:Addr} {kvs:List (List Key × V)} (h:yxz H d) (h1:H d=some (.dT kvs)) (h2:H' d=some (.dT kvs)):yxz H' d:=fun a e=>by
 rw [h2] at e
 cases e
 exact h kvs h1
theorem yp9 {kvs:List (List Key × V)} {k:List Key} (h:zd kvs k=none):k∉kvs.map (·.1):=fun m=>by
 obtain ⟨p,b,e⟩:=List.mem_map.mp m
 have a:=zy k kvs
 rw [h] at a
 exact List.any_eq_false.mp a p b (decide_eq_true e)
theorem yxz.snoc {H':Hp} {d:Addr} {kvs:List (List Key × V)} {k:List Int} {v:V} (h:(kvs.map (·.1)).Nodup/\∀ q∈kvs,∃ k,q.1=kI k) (hn:zd kvs (kI k)=none) (h2:H' d=some (.dT (ybw kvs (kI k) v))):yxz H' d:=fun b e=>by
 rw [h2,ybr _ hn] at e
 cases e
 rw [List.map_append]
 refine ⟨List.nodup_append.mpr ⟨h.1,List.nodup_cons.mpr ⟨List.not_mem_nil,List.nodup_nil⟩,fun x a y c z=>?_⟩,fun q f=>?_⟩
 ·rw [z,List.mem_singleton.mp c] at a
  exact yp9 hn a
 ·rcases List.mem_append.mp f with w | w
  ·exact h.2 q w
  ·rw [List.mem_singleton.mp w]
   exact ⟨k,rfl⟩
structure ybm (a:Ads) (H:Hp) (p dx lk d:Addr) (kd:Fin 3) (f:List Int->Option Slt) (O:Addr->Prop) (m:Nat):Prop where
 me:H p=some (.ins a.C_Book dx (yba (.ref lk) (.ref d)))
 own:∀ b,O b->∃ o,H b=some o/\vdz o=true
 np:¬ O p
 dO:O d
 ky:yxz H d
 tb:∃ (kvs:List (List Key × V)) (loc:List Int->Addr × Addr),H d=some (.dT kvs)/\kvs.length <= m/\(∀ k,f k=none->zd kvs (kI k)=none) /\
  (∀ k s,f k=some s->zd kvs (kI k)=some (.ref (loc k).1)/\H (loc k).1=some (oS a (loc k).2 s)/\s.ok/\s.kind=kd/\O (loc k).1)/\(∀ k j s t,f k=some s->f j=some t->(loc k).1=(loc j).1->k=j)
def yqq (O:Addr->Prop) (H H':Hp):Prop:=∀ b o,H b=some o->¬ O b->H' b=some o
section
variable {a:Ads} {H H':Hp} {p dx lk d:Addr} {kd:Fin 3} {f:List Int->Option Slt} {O:Addr->Prop} {m:Nat}
theorem ybm.frame (h:ybm a H p dx lk d kd f O m) {O2:Addr->Prop} (B:yqq O2 H H') (dj:∀ b,O b->¬ O2 b) (hp:¬ O2 p):ybm a H' p dx lk d kd f O m:=by
 obtain ⟨g,e,c,z,v,y,n⟩:=h.tb
 refine ⟨B _ _ h.me hp,fun b i=>?_,h.np,h.dO,h.ky.mv c (B _ _ c (dj _ h.dO)),g,e,B _ _ c (dj _ h.dO),z,v,fun k s t=>?_,n⟩
 ·obtain ⟨o,r,l⟩:=h.own b i
  exact ⟨o,B _ _ r (dj b i),l⟩
 ·obtain ⟨w,u,q,x,j⟩:=y k s t
  exact ⟨w,B _ _ u (dj _ j),q,x,j⟩
theorem ybm.same (h:ybm a H p dx lk d kd f O m) (S:y0 H H'):ybm a H' p dx lk d kd f O m:=h.frame (O2:=fun _=>False) (fun b o e _=>S b o e) (fun _ _ z=>z) (fun z=>z)
end
open MixI
structure yqp (a:Ads) (p dx l:Addr) (ws:List Int) (H:Hp):Prop where
 o:H p=some (.ins a.C_Mx dx (yql (.ref l)))
 l:H l=some (.lst (ws.map V.int))
theorem yqp.same {a:Ads} {p dx l:Addr} {ws:List Int} {H H':Hp} (m:yqp a p dx l ws H) (S:y0 H H'):yqp a p dx l ws H':=⟨S _ _ m.o,S _ _ m.l⟩
theorem yz9 {k:Nat} {cs:List Int} (h:COk k cs) {c:Int} (hm:c∈cs):Ch c:=⟨h.lo c hm,h.hi c hm⟩
theorem ysf {g:Int->Int->Int} {ws cs:List Int} (h:cs.length=ws.length):(List.range (ws.map V.int).length).map (fun i=>V.int (g ((ws[i]?).getD 0) ((cs[i]?).getD 0)))=(List.zipWith g ws cs).map V.int:=by
 rw [List.length_map,<- yl4 h,List.map_map]
 rfl
theorem yin {H:Hp} {D:Addr} {xs ys:List V} (h:H D=some (.lst xs)) (e:xs=ys):H D=some (.lst ys):=e ▸ h
def yll (K:W.Frag) (a:Ads):Sp:=fun vs H Q _=>∃ (p dx l c:Addr) (ws cs:List Int) (k:Nat),vs=[.ref p,.ref c]/\1 <= k/\k <= 6/\WOk k ws/\COk k cs/\yqp a p dx l ws H/\SqL K H c (cs.map V.int)/\∀ H',y0 H H'->Q (.int (ysz ws cs)) H'
def ymd (K:W.Frag) (a:Ads) (C:Addr):Sp:=fun vs H Q E=>∃ (p dx l c:Addr) (ws cs:List Int) (k:Nat) (x:V) (n:String),vs=[.ref p,.ref c,x]/\1 <= k/\k <= 6/\WOk k ws/\COk k cs/\yqp a p dx l ws H/\SqL K H c (cs.map V.int)/\xz K H x (.type n) /\
 (∀ b:Int,x=.int b->0 <= b->b <= 1->∀ l' H',H l'=none->yqp a p dx l' (lrn ws cs b) H'->But p H H'->Q .non H')/\(ybp x=false->E (.ref C) none H)
def yo8 (a:Ads):Sp:=fun vs H Q _=>∃ (p dx:Addr) (k:Nat),vs=[.ref p,.int k]/\1 <= k/\k <= 6/\H p=some (.ins a.C_Mx dx [])/\∀ l H',H l=none->yqp a p dx l (List.replicate k 1099511627776) H'->But p H H'->Q .non H'
def yoh:V->Bool
 | .str s=>inV (.str s) [V.str "even",V.str "quick",V.str "run"]
 | _=>false
def plV:V->Bool
 | .int i=>decide (1 <= i) && decide (i <= 8)
 | _=>false
def ltV:V->V->Bool
 | .int i,.int j=>decide (i < j)
 | _,_=>false
def vfw (xs:List V):Bool:=(List.zipWith ltV xs xs.tail).all id
def zn (xs:List V):Bool:=decide (xs.length <= 4) && xs.all plV && vfw xs
def PlB (K:W.Frag) (H:Hp) (x:V) (b:Bool):Prop:=(∃ n,xz K H x (.type n)/\n≠"tuple"/\b=false)\/∃ t xs,x=.ref t/\H t=some (.tup xs)/\xs.length <= 1000/\(∀ y∈xs,∃ n:String,xz K H y (.type n))/\b=zn xs
def LkB (K:W.Frag) (H:Hp) (x:V) (b:Bool):Prop:=(∃ n,xz K H x (.type n)/\n≠"tuple"/\b=false) \/
 ∃ t xs,x=.ref t/\H t=some (.tup xs)/\((xs.length≠2/\b=false)\/∃ y z n,xs=[y,z]/\xz K H y (.type n)/\((yoh y=false/\b=false)\/(yoh y=true/\PlB K H z b)))
theorem PlB.same {K:W.Frag} {H H':Hp} {x:V} {b:Bool} (h:PlB K H x b) (S:y0 H H'):PlB K H' x b:=by
 rcases h with ⟨n,t,d,e⟩ | ⟨t,f,e,j,i,c,a⟩
 ·exact .inl ⟨n,ycs S t,d,e⟩
 ·exact .inr ⟨t,f,e,S _ _ j,i,fun y g=>let ⟨n,z⟩:=c y g; ⟨n,ycs S z⟩,a⟩
theorem LkB.same {K:W.Frag} {H H':Hp} {x:V} {b:Bool} (h:LkB K H x b) (S:y0 H H'):LkB K H' x b:=by
 rcases h with ⟨n,t,d,e⟩ | ⟨t,g,e,f,h⟩
 ·exact .inl ⟨n,ycs S t,d,e⟩
 ·refine .inr ⟨t,g,e,S _ _ f,?_⟩
  rcases h with h | ⟨y,z,n,c,a,h⟩
  ·exact .inl h
  ·refine .inr ⟨y,z,n,c,ycs S a,?_⟩
   rcases h with h | ⟨i,j⟩
   ·exact .inl h
   ·exact .inr ⟨i,j.same S⟩
theorem ybu {K:W.Frag} {H:Hp} {x:V} {n:String} (ty:xz K H x (.type n)):W.kitOne K (.type n) (.type "tuple")=some (decide (n="tuple")):=by cases ty <;> rfl
theorem yii {K:W.Frag} {H:Hp} {x:V} {n:String} (ty:xz K H x (.type n)):W.kitOne K (.type n) (.type "str")=some (decide (n="str")):=by cases ty <;> rfl
theorem yie {K:W.Frag} {H:Hp} {x:V} {n:String} (ty:xz K H x (.type n)):W.kitOne K (.type n) (.type "list")=some (decide (n="list")):=by cases ty <;> rfl
theorem yt0 {xs:List V} {i:Nat} {y:V} (h:xs.tail[i]?=some y):xs[i+1]?=some y:=by
 cases xs with
 | nil=>simp at h
 | cons x r=>simpa using h
theorem ylx (xs:List V):(List.range xs.tail.length).map (fun i=>V.bl (ltV ((xs[i]?).getD .non) ((xs.tail[i]?).getD .non)))=(List.zipWith ltV xs xs.tail).map V.bl:=by
 apply List.ext_getElem
 ·rw [List.length_map,List.length_range,List.length_map,List.length_zipWith,List.length_tail]; omega
 ·intro i a c
  rw [List.length_map,List.length_range] at a
  have b:i < xs.length:=by rw [List.length_tail] at a; omega
  rw [List.getElem_map,List.getElem_range,List.getElem_map,List.getElem_zipWith,List.getElem?_eq_getElem a,List.getElem?_eq_getElem b]
  rfl
theorem yng {K:W.Frag} {t u D:Addr} {xs:List V} {te:TE} {fr:St} {R:Hp->Prop} {H1:Hp} (hint:∀ y∈xs,∃ i:Int,y=.int i) (hl:xs.length <= 1000) (ht:SqT K H1 t xs) (hu:SqT K H1 u xs.tail) (hD:H1 D=none)
  (hte:∀ (i j:Int) (σ':St) (H':Hp) (Q':VK),Q' (.bl (decide (i < j))) H'->te (some (.int i) :: some (.int j) :: σ') H' Q') (hR:∀ H,y0 H1 H->H D=some (.lst ((List.zipWith ltV xs xs.tail).map V.bl))->R H) :
  jq (vdv K t u) (yx2 K 2 (ja (w4 0) (ja (w4 1) yqn))) te 2 fr D R H1:=by
 refine ygz (m:=xs.tail.length) (fun i=>V.bl (ltV ((xs[i]?).getD .non) ((xs.tail[i]?).getD .non))) ht hu (by rw [List.length_tail]; omega) (Nat.le_refl _) (.inr (Nat.le_refl _)) hD (fun i x y h k w v n q l a f g=>?_) (fun h l a=>?_)
 ·obtain ⟨z,s,rfl⟩:=yn5 g
  obtain ⟨c,rfl⟩:=hint x (List.mem_of_getElem? n)
  obtain ⟨d,rfl⟩:=hint y (List.mem_of_getElem? (yt0 q))
  have p:=l.trans (vv (o:=HO.tup [V.int c,V.int d]) f)
  have b:=zq (o':=HO.tup [V.int c,V.int d]) f a
  have e:upd h k (HO.tup [V.int c,V.int d]) k=some (.tup [V.int c,V.int d]):=ya
  generalize upd h k (HO.tup [V.int c,V.int d])=r at p b e
  refine yn1 (SqT.of e) rfl ?_
  show ja (w4 0) (ja (w4 1) yqn) [V.int c,V.int d] (z :: s :: fr) r _
  rfl'
  refine ⟨⟨[some (.int c),some (.int d)],rfl,rfl⟩,?_⟩
  refine hte c d fr r _ ?_
  refine Mp.doneR hD (vx (by rw [List.length_tail]; omega)) v p b ?_
  rw [n,q]
  rfl
 ·exact hR h l (by rw [<- ylx]; exact a)
theorem ytl (xs:List V):yic xs (some 1) none=xs.tail:=by
 unfold yic
 have e:HT.sIx xs.length 0 (some 1)=min 1 xs.length:=by
  have:=HT.sIx_nat xs.length 0 1
  simpa using this
 rw [HT.sIx_none,e]
 cases xs with
 | nil=>rfl
 | cons x r=>simp
theorem yp4 {n:Nat} (bs:List Bool) (h:n=bs.length):(List.range n).map (fun i=>V.bl ((bs[i]?).getD false))=bs.map V.bl:=by
 subst h
 apply List.ext_getElem
 ·rw [List.length_map,List.length_range,List.length_map]
 ·intro i a b
  rw [List.length_map,List.length_range] at a
  rw [List.getElem_map,List.getElem_range,List.getElem_map,List.getElem?_eq_getElem a]
  rfl
def vf0 (K:W.Frag) (H:Hp) (xs:List V) (bs:List Bool):Prop:=xs.length=bs.length/\∀ (i:Nat) (y:V) (b:Bool),xs[i]?=some y->bs[i]?=some b->LkB K H y b
def LkG (H:Hp) (v:V) (kd:Fin 3) (tp:Addr) (ps:List Int):Prop:=∃ lk,v=.ref lk/\H lk=some (.tup [.str (kdS kd),.ref tp])/\H tp=some (.tup (ps.map V.int))/\zn (ps.map V.int)=true
theorem LkG.same {H H':Hp} {v:V} {kd:Fin 3} {tp:Addr} {ps:List Int} (h:LkG H v kd tp ps) (S:y0 H H'):LkG H' v kd tp ps:=by
 obtain ⟨a,e,b,d,c⟩:=h
 exact ⟨a,e,S _ _ b,S _ _ d,c⟩
theorem ytm (kd:Fin 3):yoh (.str (kdS kd))=true:=by
 match kd with
 | 0=>rfl
 | 1=>rfl
 | 2=>rfl
theorem ykw {xs:List V} (h:zn xs=true):xs.length <= 4:=by
 unfold zn at h
 rw [Bool.and_eq_true,Bool.and_eq_true] at h
 exact of_decide_eq_true h.1.1
theorem LkG.tells {K:W.Frag} {H:Hp} {v:V} {kd:Fin 3} {tp:Addr} {ps:List Int} (h:LkG H v kd tp ps):LkB K H v true:=by
 obtain ⟨b,e,d,f,a⟩:=h
 have:=ykw a
 refine .inr ⟨b,_,e,d,.inr ⟨_,_,"str",rfl,.str _,.inr ⟨ytm kd,.inr ⟨tp,_,rfl,f,by omega,fun y c=>?_,a.symm⟩⟩⟩⟩
 obtain ⟨i,_,rfl⟩:=List.mem_map.mp c
 exact ⟨_,.int i⟩
theorem yrd:∀ {ps:List Int},ps.Pairwise (· < ·)->vfw (ps.map V.int)=true
 | [],_=>rfl
 | [_],_=>rfl
 | p :: q :: r,h=>by
  have b:p < q:=(List.pairwise_cons.mp h).1 q (by simp)
  have a:=yrd (List.pairwise_cons.mp h).2
  unfold vfw at a ⊢
  simp only [List.map_cons,List.tail_cons,List.zipWith_cons_cons,List.all_cons] at a ⊢
  rw [show ltV (V.int p) (V.int q)=true from decide_eq_true b]
  simpa using a
theorem ymm {ps:List Int} (h1:ps.length <= 4) (h2:∀ p∈ps,1 <= p/\p <= 8) (h3:ps.Pairwise (· < ·)):zn (ps.map V.int)=true:=by
 unfold zn
 rw [List.length_map,decide_eq_true h1,yrd h3,Bool.true_and,Bool.and_true,List.all_eq_true]
 intro y a
 obtain ⟨i,b,rfl⟩:=List.mem_map.mp a
 have:=h2 i b
 show (decide (1 <= i) && decide (i <= 8))=true
 rw [decide_eq_true this.1,decide_eq_true this.2]
 rfl
def Lks (H:Hp) (xs:List V):Prop:=∀ y∈xs,∃ kd tp ps,LkG H y kd tp ps
theorem Lks.bs {K:W.Frag} {H:Hp} {xs:List V} (h:Lks H xs):vf0 K H xs (List.replicate xs.length true):=by
 refine ⟨by rw [List.length_replicate],fun i y b c d=>?_⟩
 have a:b=true:=List.eq_of_mem_replicate (List.mem_of_getElem? d)
 obtain ⟨g,e,f,z⟩:=h y (List.mem_of_getElem? c)
 rw [a]
 exact z.tells
theorem ym5 (n:Nat):(List.replicate n true).all id=true:=by simp
def vg3 (K:W.Frag) (H:Hp) (x:V):Prop:=(∃ n,xz K H x (.type n)/\n≠"list")\/∃ l xs bs,x=.ref l/\H l=some (.lst xs)/\xs.length <= 1000/\vf0 K H xs bs/\¬ (1 <= xs.length/\xs.length <= 6/\bs.all id=true)
theorem LkG.upd {H:Hp} {v:V} {kd:Fin 3} {tp l:Addr} {ps:List Int} {xs ys:List V} (h:LkG H v kd tp ps) (hl:H l=some (.lst xs)):LkG (L2.upd H l (.lst ys)) v kd tp ps:=by
 obtain ⟨c,e,a,b,d⟩:=h
 exact ⟨c,e,yj (xi a hl (by intro z; cases z)) a,yj (xi b hl (by intro z; cases z)) b,d⟩
def upN {α:Type} (g:Nat->α) (n:Nat) (x:α):Nat->α:=fun j=>if j=n then x else g j
theorem xg {α:Type} {g:Nat->α} {n:Nat} {x:α}:upN g n x n=x:=if_pos rfl
theorem xb {α:Type} {g:Nat->α} {n j:Nat} {x:α} (h:j < n):upN g n x j=g j:=if_neg (by omega)
theorem yug (c:Int):∃ kk:Fin 3,atI [V.str "even",V.str "quick",V.str "run"] (c % 3)=some (V.str (kdS kk)):=by
 have a:0 <= c % 3:=Int.emod_nonneg _ (by decide)
 have b:c % 3 < 3:=Int.emod_lt_of_pos _ (by decide)
 generalize c % 3=z at a b
 obtain rfl | rfl | rfl:z=0\/z=1\/z=2:=by omega
 ·exact ⟨0,rfl⟩
 ·exact ⟨1,rfl⟩
 ·exact ⟨2,rfl⟩
def ug (H:Hp) (n:Nat) (lk:Nat->Addr) (kd:Nat->Fin 3) (tp:Nat->Addr) (ps:Nat->List Int):Prop:=∀ i,i < n->LkG H (.ref (lk i)) (kd i) (tp i) (ps i)
theorem ug.same {H H':Hp} {n:Nat} {lk:Nat->Addr} {kd:Nat->Fin 3} {tp:Nat->Addr} {ps:Nat->List Int} (h:ug H n lk kd tp ps) (S:y0 H H'):ug H' n lk kd tp ps:=fun i a=>(h i a).same S
structure Sd (K:W.Frag) (H:Hp) (v:V) (d:PyData) (k:Nat):Prop where
 rd:RdV K H v d
 lay:d.canLay0=true
 dep:d.depth <= k
 eq:PyData.eqv d d=true
structure Sds (K:W.Frag) (H:Hp) (xs:List V) (ds:List PyData) (k:Nat):Prop where
 rd:yk5 K H xs ds
 lay:PyData.canLayAll0 ds=true
 dep:PyData.depthAll ds <= k
 eq:PyData.eqvAll ds ds=true
theorem Sds.nil {K:W.Frag} {H:Hp} {k:Nat}:Sds K H [] [] k:=⟨.nil,rfl,Nat.zero_le _,by simp [PyData.eqvAll]⟩
theorem Sds.cons {K:W.Frag} {H:Hp} {v:V} {d:PyData} {xs:List V} {ds:List PyData} {k:Nat} (h:Sd K H v d k) (r:Sds K H xs ds k):Sds K H (v :: xs) (d :: ds) k:=by
 refine ⟨.cons h.rd r.rd,by simp [PyData.canLayAll0,h.lay,r.lay],?_,by simp [PyData.eqvAll,h.eq,r.eq]⟩
 have a:=h.dep
 have b:=r.dep
 simp only [PyData.depthAll]
 omega
theorem Sds.ints {K:W.Frag} {H:Hp} (ns:List Int) {k:Nat}:Sds K H (ns.map V.int) (ns.map PyData.int) k:=⟨j4 ns,jk ns,by rw [yav]; exact Nat.zero_le _,by rw [jl,decide_eq_true rfl]⟩
theorem Sd.lst {K:W.Frag} {H:Hp} {p:Addr} {xs:List V} {ds:List PyData} {k:Nat} (h:SqL K H p xs) (r:Sds K H xs ds k):Sd K H (.ref p) (.list ds) (k+1):=by
 refine ⟨.lst h r.rd,by simp [PyData.canLay0,r.lay],?_,by simp [PyData.eqv,r.eq]⟩
 have a:=r.dep
 simp only [PyData.depth]
 omega
theorem yvs {K:W.Frag} {g:Bool->Bool} {H:Hp} {Q:VK} {x y:V} {d:PyData} {k:Nat} (h1:Sd K H x d k) (h2:Sd K H y d k) (hk:k <= 60) (h:Q (.bl (g true)) H):vd0 K g x y H Q:=by
 have a:SeqAt.shaped d=true:=by
  unfold SeqAt.shaped
  rw [Bool.and_eq_true]
  exact ⟨h1.lay,decide_eq_true (by have:=h1.dep; omega)⟩
 exact ⟨d,d,h1.rd,h2.rd,a,a,by rw [h1.eq]; exact h⟩
theorem vet:yk ["thing"] ["thing"] (yg vfs):=wx (by right)
def yg5 (K:W.Frag):Sp:=fun vs H Q _=>∃ x n,vs=[x]/\xz K H x (.type n)/\Q (.bl (yai x)) H
theorem yof (T:Txt K mg a):wc P w K mg base CX0 1 a.f_q1 a.d_q1 ["thing"] (yg5 K):=by
 refine T.y_q1.F.ok vet (fun f H Q E h=>?_) (fun d A c s H f Q E g h=>?_)
 ·obtain ⟨x,n,rfl,_⟩:=h
  rfl
 ·obtain ⟨x,n,rfl,b,k⟩:=h
  refine ⟨_,(yf (y7 (ul (yt wn rfl T.z_isinstance (by right) (yb (pv 0) (yb (jc (T:="int") rfl T.z_int (by right)) ye (yc rfl)) (yc rfl))) (zv (van (yt wn rfl T.z_isinstance (by right) (yb (pv 0) (yb (jc (T:="bool") rfl T.z_bool (by right)) ye (yc rfl)) (yc rfl)))))))),?_⟩
  try dsimp only [vz]
  refine yn (σ':=[some _]) rfl ?_
  rfl'
  refine ybg b (ytk b) ?_
  rfl'
  cases hx:yst x with
  | false =>
   have e:yai x=false:=by
    cases x <;> first | rfl | cases hx
   rw [e] at k
   exact yfa k
  | true =>
   have e:yai x=!ynf x:=by
    cases x <;> first | rfl | cases hx
   rw [e] at k
   refine ygr ?_
   rfl'
   refine ybg b (yp8 b) ?_
   rfl'
   exact k
theorem vee:yk ["thing"] ["thing"] (yg vfy):=wx (by right)
def yms (K:W.Frag):Sp:=fun vs H Q _=>∃ x n,vs=[x]/\xz K H x (.type n)/\Q (.bl (ybp x)) H
theorem vd9 (T:Txt K mg a):wc P w K mg base CX0 2 a.f_q2 a.d_q2 ["thing"] (yms K):=by
 refine T.y_q2.F.ok vee (fun j H Q E h=>?_) (fun d A c s H j Q E g h=>?_)
 ·obtain ⟨x,n,rfl,_⟩:=h
  rfl
 ·obtain ⟨x,n,rfl,f,k⟩:=h
  refine ⟨_,(yf (y7 (ul (vn (yof T) (g.mono (by decide)) rfl T.y_q1.m T.y_q1.F.kp T.y_q1.B .nil vj (yb (pv 0) ye (yc rfl))) (zv (j7 zb zb yi (pv 0) yi))))),?_⟩
  try dsimp only [vz]
  refine yn (σ':=[some _]) rfl ?_
  rfl'
  refine ⟨x,n,rfl,f,?_⟩
  rfl'
  cases hx:yai x with
  | false =>
   have e:ybp x=false:=by
    cases x <;> first | rfl | cases hx
   rw [e] at k
   exact yfa k
  | true =>
   obtain ⟨i,rfl⟩:=uy hx
   refine ygr ?_
   rfl'
   refine u6 (fun b=>?_) (fun b=>?_)
   ·rfl'
    have e:ybp (.int i)=decide (i <= 1):=by simp [ybp,b]
    rw [e] at k
    exact k
   ·have e:ybp (.int i)=false:=by simp [ybp,b]
    rw [e] at k
    exact k
theorem ve3:yk ["thing"] ["thing"] (yg vfl):=wx (by right)
def yfc (K:W.Frag):Sp:=fun vs H Q _=>∃ x n,vs=[x]/\xz K H x (.type n)/\Q (.bl (chV x)) H
theorem veh (T:Txt K mg a):wc P w K mg base CX0 2 a.f_q3 a.d_q3 ["thing"] (yfc K):=by
 refine T.y_q3.F.ok ve3 (fun j H Q E h=>?_) (fun d A c s H j Q E g h=>?_)
 ·obtain ⟨x,n,rfl,_⟩:=h
  rfl
 ·obtain ⟨x,n,rfl,f,k⟩:=h
  refine ⟨_,(yf (y7 (ul (vn (yof T) (g.mono (by decide)) rfl T.y_q1.m T.y_q1.F.kp T.y_q1.B .nil vj (yb (pv 0) ye (yc rfl))) (zv (j7 zb zb (vo rfl T.c_LEAST) (pv 0) (yr ur (vo rfl T.c_ONE) (vo rfl T.c_LEAST))))))),?_⟩
  try dsimp only [vz]
  refine yn (σ':=[some _]) rfl ?_
  rfl'
  refine ⟨x,n,rfl,f,?_⟩
  rfl'
  cases hx:yai x with
  | false =>
   have e:chV x=false:=by
    cases x <;> first | rfl | cases hx
   rw [e] at k
   exact yfa k
  | true =>
   obtain ⟨i,rfl⟩:=uy hx
   refine ygr ?_
   rfl'
   refine u6 (fun b=>?_) (fun b=>?_)
   ·rfl'
    have e:chV (.int i)=decide (i <= 16777216 - 32768):=by simp [chV,b]
    rw [e] at k
    exact k
   ·have e:chV (.int i)=false:=by simp [chV,b]
    rw [e] at k
    exact k
theorem ve6:yk ["thing"] ["thing"] (yg vfz):=wx (by right)
def ykb (K:W.Frag):Sp:=fun vs H Q _=>∃ x n,vs=[x]/\xz K H x (.type n)/\Q (.bl (sgV x)) H
theorem vec (T:Txt K mg a):wc P w K mg base CX0 2 a.f_q4 a.d_q4 ["thing"] (ykb K):=by
 refine T.y_q4.F.ok ve6 (fun j H Q E h=>?_) (fun d A c s H j Q E g h=>?_)
 ·obtain ⟨x,n,rfl,_⟩:=h
  rfl
 ·obtain ⟨x,n,rfl,f,k⟩:=h
  refine ⟨_,(yf (y7 (ul (vn (yof T) (g.mono (by decide)) rfl T.y_q1.m T.y_q1.F.kp T.y_q1.B .nil vj (yb (pv 0) ye (yc rfl))) (zv (j7 zb zb yi (pv 0) yi))))),?_⟩
  try dsimp only [vz]
  refine yn (σ':=[some _]) rfl ?_
  rfl'
  refine ⟨x,n,rfl,f,?_⟩
  rfl'
  cases hx:yai x with
  | false =>
   have e:sgV x=false:=by
    cases x <;> first | rfl | cases hx
   rw [e] at k
   exact yfa k
  | true =>
   obtain ⟨i,rfl⟩:=uy hx
   refine ygr ?_
   rfl'
   refine u6 (fun b=>?_) (fun b=>?_)
   ·rfl'
    have e:sgV (.int i)=decide (i <= 255):=by simp [sgV,b]
    rw [e] at k
    exact k
   ·have e:sgV (.int i)=false:=by simp [sgV,b]
    rw [e] at k
    exact k
theorem veo:yk ["thing","most"] ["thing","most"] (yg vfp):=wx (by right)
def vci (K:W.Frag):Sp:=fun vs H Q _=>∃ x n m,vs=[x,.int m]/\xz K H x (.type n)/\((Bad K H x n m/\∀ H',y0 H H'->Q (.bl false) H')\/∃ xs,vdu K H x xs m/\∀ H',y0 H H'->Q (.bl true) H')
theorem vdh (T:Txt K mg a):wc P w K mg base CX0 3 a.f_q5 a.d_q5 ["thing","most"] (vci K):=by
 refine T.y_q5.F.ok veo (fun Y H Q E h=>?_) (fun U A L s H Y Q E X h=>?_)
 ·obtain ⟨x,n,m,rfl,_⟩:=h
  rfl
 ·obtain ⟨x,n,m,rfl,J,h⟩:=h
  have N:(n≠"list"/\∀ d,y0 H d->Q (.bl false) d)\/∃ p xs,x=.ref p/\H p=some (.lst xs)/\Typed K H xs/\xs.length <= 100000/\∀ d,y0 H d->Q (.bl (decide ((xs.length:Int) <= m) && xs.all sgV)) d:=by
   rcases h with ⟨h | ⟨p,xs,e,c,t,j,v⟩,k⟩ | ⟨xs,⟨p,e,c,t,j,v⟩,k⟩
   ·exact .inl ⟨h,k⟩
   ·exact .inr ⟨p,xs,e,c,t,j,fun d S=>by rw [v]; exact k d S⟩
   ·exact .inr ⟨p,xs,e,c,t,j,fun d S=>by rw [v]; exact k d S⟩
  refine ⟨_,(yf (y7 (ul (yt wn rfl T.z_isinstance (by right) (yb (pv 0) (yb (jc (T:="list") rfl T.z_list (by right)) ye (yc rfl)) (yc rfl))) (ul (uc zb (yt yz rfl T.z_len (by right) (yb (pv 0) ye (yc rfl))) (pv 1) (vg _)) (zv (yt (z0 rfl) rfl T.z_all (by right) (yb (w9 (js:=[]) (ys:=[]) rfl (xx (pv 0)) (fun C s2 Z fp=>(vn (vec T) (X.mono (by decide)) rfl T.y_q4.m T.y_q4.F.kp T.y_q4.B .nil vj (yb (pv 0) ye (yc rfl)))) rfl rfl (hyc:=vd) (hrel:=vd)) ye (yc rfl)))))))),?_⟩
  try dsimp only [vz]
  refine yn (σ':=[some _,some _]) rfl ?_
  rfl'
  refine ybg J (ytg J) ?_
  rfl'
  rcases N with ⟨u,k⟩ | ⟨p,xs,rfl,c,W,j,k⟩
  ·refine ykz u ?_
   rfl'
   exact k _ (y0.refl _)
  ·have u:n="list":=by
    cases J with
    | lst e=>rfl
    | frz e=>rfl
    | tup e=>rw [c] at e; cases e
    | dK e=>rw [c] at e; cases e
    | dT e=>rw [c] at e; cases e
   refine ygo u ?_
   rfl'
   refine zw (SqL.of c) ?_
   rfl'
   refine u6 (fun I=>?_) (fun I=>?_)
   ·rw [decide_eq_true I,Bool.true_and] at k
    rfl'
    refine ⟨p,rfl,⟨_,SqL.of c⟩,fun D M=>?_⟩
    have nD:p≠D:=yd c M
    refine zk (K:=K) (a:=p) (xs:=xs) (fun i g=>g D=some (.lst (((xs.take i).map sgV).map V.bl))/\y0 H g)
     ⟨ya,vv M⟩ (fun i g _ q=>SqL.of (q.2 _ _ c)) ?_ ?_
    ·rintro i y g O r ⟨f,l⟩
     rfl'
     obtain ⟨R,G⟩:=W y (List.mem_of_getElem? O)
     refine ⟨y,R,rfl,ycs l G,?_⟩
     refine ua f (by rw [List.length_map,List.length_map,List.length_take]; exact yp3 (by omega)) r ⟨ya.trans ?_,fun b o e=>yj (fun z=>?_) (l _ _ e)⟩
     ·rw [List.take_succ,O]
      simp
     ·subst z
      rw [M] at e
      cases e
    ·rintro g ⟨f,l⟩
     rfl'
     refine ⟨D,_,rfl,SqL.of f,?_⟩
     rw [List.take_of_length_le (Nat.le_refl _),List.all_map]
     exact k _ l
   ·rw [decide_eq_false I,Bool.false_and] at k
    rfl'
    exact k _ (y0.refl _)
theorem vfa:yk ["thing"] ["thing"] (yg vfx):=wx (by right)
theorem vc6 (T:Txt K mg a):wc P w K mg base (CXe P w) 4 a.f_q6 a.d_q6 ["thing"] (ydb K a.C_NT 1000):=by
 refine T.y_q6.F.okE vfa (fun t H Q E h=>?_) (fun g A d s H t Q E q h=>?_)
 ·obtain ⟨x,n,rfl,_⟩:=h
  rfl
 ·obtain ⟨x,n,rfl,i,h⟩:=h
  refine ⟨_,(yh (ww (x6 (ue (vn (vdh T) (q.mono (by decide)) rfl T.y_q5.m T.y_q5.F.kp T.y_q5.B .nil vj (yb (pv 0) (yb (vo rfl T.c_MOST_SIGNS) ye (yc rfl)) (yc rfl))))) (yf (wy rfl T.m_NT T.r_NT (yb xf ye (yc rfl)))) vk) (yf (y7 (xt xq rfl T.z_list (by right) (yb (pv 0) ye (yc rfl)))))),?_⟩
  try dsimp only [vz]
  refine yn (σ':=[some _]) rfl ?_
  rfl'
  refine ⟨x,n,_,rfl,i,?_⟩
  rcases h with ⟨l,k⟩ | ⟨f,e,k⟩
  ·refine .inl ⟨l,fun j c=>?_⟩
   rfl'
   exact ⟨by walk_at "len",k _ c⟩
  ·refine .inr ⟨f,e,fun j c=>?_⟩
   obtain ⟨p,rfl,o,_⟩:=e
   rfl'
   refine ⟨p,f,rfl,.inl (SqL.of (c _ _ o)),fun r b=>?_⟩
   exact k r _ (c.free b) ya (c.trans (vv b))
theorem vea:yk ["thing"] ["thing"] (yg vfq):=wx (by right)
theorem ved (T:Txt K mg a):wc P w K mg base (CXe P w) 4 a.f_q7 a.d_q7 ["thing"] (ydb K a.C_NY 12000):=by
 refine T.y_q7.F.okE vea (fun t H Q E h=>?_) (fun g A d s H t Q E q h=>?_)
 ·obtain ⟨x,n,rfl,_⟩:=h
  rfl
 ·obtain ⟨x,n,rfl,i,h⟩:=h
  refine ⟨_,(yh (ww (x6 (ue (vn (vdh T) (q.mono (by decide)) rfl T.y_q5.m T.y_q5.F.kp T.y_q5.B .nil vj (yb (pv 0) (yb (vo rfl T.c_MOST_BYTES) ye (yc rfl)) (yc rfl))))) (yf (wy rfl T.m_NY T.r_NY (yb xf ye (yc rfl)))) vk) (yf (y7 (xt xq rfl T.z_list (by right) (yb (pv 0) ye (yc rfl)))))),?_⟩
  try dsimp only [vz]
  refine yn (σ':=[some _]) rfl ?_
  rfl'
  refine ⟨x,n,_,rfl,i,?_⟩
  rcases h with ⟨l,k⟩ | ⟨f,e,k⟩
  ·refine .inl ⟨l,fun j c=>?_⟩
   rfl'
   exact ⟨by walk_at "len",k _ c⟩
  ·refine .inr ⟨f,e,fun j c=>?_⟩
   obtain ⟨p,rfl,o,_⟩:=e
   rfl'
   refine ⟨p,f,rfl,.inl (SqL.of (c _ _ o)),fun r b=>?_⟩
   exact k r _ (c.free b) ya (c.trans (vv b))
theorem ve8:yk ["thing"] ["thing"] (yg vfk):=wx (by right)
def yxv:V->Bool
 | .int i=>decide (0 <= i) && decide (i <= 1000)
 | _=>false
theorem vcr {m:Nat} (h:m <= 1000):yxv (.int m)=true:=by
 show (decide ((0:Int) <= m) && decide ((m:Int) <= 1000))=true
 rw [decide_eq_true (by omega),decide_eq_true (by omega)]
 rfl
def ype (K:W.Frag) (C:Addr):Sp:=fun vs H Q E=>∃ x n,vs=[x]/\xz K H x (.type n)/\(yxv x=true->Q .non H)/\(yxv x=false->E (.ref C) none H)
theorem vd7 (T:Txt K mg a):wc P w K mg base (CXe P w) 2 a.f_q8 a.d_q8 ["thing"] (ype K a.C_NoMost):=by
 refine T.y_q8.F.okE ve8 (fun o H Q E h=>?_) (fun g A c s H o Q E l h=>?_)
 ·obtain ⟨x,n,rfl,_⟩:=h
  rfl
 ·obtain ⟨x,n,rfl,k,j,d⟩:=h
  refine ⟨_,(yf (ww (PW.pt (ye4 (x6 (ue (vn (yof T) (l.mono (by decide)) rfl T.y_q1.m T.y_q1.F.kp T.y_q1.B .nil vj (yb (pv 0) ye (yc rfl))))) (ydm (x6 (yex zb zb yi (pv 0) (vo rfl T.c_MOST_SIGNS)))))) (yf (wy rfl T.m_NoMost T.r_NoMost (yb xf ye (yc rfl)))) vk)),?_⟩
  try dsimp only [vz]
  refine yn (σ':=[some _]) rfl ?_
  rfl'
  refine ⟨x,n,rfl,k,?_⟩
  rfl'
  cases hx:yai x with
  | false =>
   have e:yxv x=false:=by
    cases x <;> first | rfl | cases hx
   rfl'
   exact ⟨by walk_at "len",d e⟩
  | true =>
   obtain ⟨i,rfl⟩:=uy hx
   rfl'
   refine u6 (fun b=>?_) (fun b=>?_)
   ·rfl'
    refine ys0 (fun f=>?_) (fun f=>?_)
    ·rfl'
     exact j (by simp [yxv,b,f])
    ·rfl'
     exact ⟨by walk_at "len",d (by simp [yxv,f])⟩
   ·rfl'
    exact ⟨by walk_at "len",d (by simp [yxv,b])⟩
theorem vel:yk ["thing"] ["thing"] (yg vfm):=wx (by right)
def yb1 (K:W.Frag) (C:Addr):Sp:=fun vs H Q E=>∃ x n,vs=[x]/\xz K H x (.type n)/\(chV x=true->Q .non H)/\(chV x=false->E (.ref C) none H)
theorem yxq (T:Txt K mg a):wc P w K mg base (CXe P w) 3 a.f_q9 a.d_q9 ["thing"] (yb1 K a.C_NC):=by
 refine T.y_q9.F.okE vel (fun i H Q E h=>?_) (fun d A b s H i Q E g h=>?_)
 ·obtain ⟨x,n,rfl,_⟩:=h
  rfl
 ·obtain ⟨x,n,rfl,e,c,f⟩:=h
  refine ⟨_,(yf (ww (x6 (ue (vn (veh T) (g.mono (by decide)) rfl T.y_q3.m T.y_q3.F.kp T.y_q3.B .nil vj (yb (pv 0) ye (yc rfl))))) (yf (wy rfl T.m_NC T.r_NC (yb xf ye (yc rfl)))) vk)),?_⟩
  try dsimp only [vz]
  refine yn (σ':=[some _]) rfl ?_
  rfl'
  refine ⟨x,n,rfl,e,?_⟩
  rfl'
  cases hx:chV x with
  | false =>
   rfl'
   exact ⟨by walk_at "len",f hx⟩
  | true =>
   rfl'
   exact c hx
theorem yze:yk ["thing"] ["thing"] (yg yv2):=wx (by right)
def yfk (K:W.Frag) (C:Addr):Sp:=fun vs H Q E=>∃ x n,vs=[x]/\xz K H x (.type n)/\(ybp x=true->Q .non H)/\(ybp x=false->E (.ref C) none H)
theorem yct (T:Txt K mg a):wc P w K mg base (CXe P w) 3 a.f_q10 a.d_q10 ["thing"] (yfk K a.C_NB):=by
 refine T.y_q10.F.okE yze (fun i H Q E h=>?_) (fun d A b s H i Q E g h=>?_)
 ·obtain ⟨x,n,rfl,_⟩:=h
  rfl
 ·obtain ⟨x,n,rfl,e,c,f⟩:=h
  refine ⟨_,(yf (ww (x6 (ue (vn (vd9 T) (g.mono (by decide)) rfl T.y_q2.m T.y_q2.F.kp T.y_q2.B .nil vj (yb (pv 0) ye (yc rfl))))) (yf (wy rfl T.m_NB T.r_NB (yb xf ye (yc rfl)))) vk)),?_⟩
  try dsimp only [vz]
  refine yn (σ':=[some _]) rfl ?_
  rfl'
  refine ⟨x,n,rfl,e,?_⟩
  rfl'
  cases hx:ybp x with
  | false =>
   rfl'
   exact ⟨by walk_at "len",f hx⟩
  | true =>
   rfl'
   exact c hx
theorem vaf:yk ["chance","bit"] ["chance","bit"] (yg ywn):=wx (by right)
def yon (K:W.Frag) (C D:Addr):Sp:=fun vs H Q E=>∃ x n y m,vs=[x,y]/\xz K H x (.type n)/\xz K H y (.type m)/\(chV x=false->E (.ref C) none H)/\(chV x=true->ybp y=false->E (.ref D) none H) /\
 (∀ c b,x=.int c->y=.int b->chV x=true->ybp y=true->Q (.int (gvv c b)) H)
theorem va5 (T:Txt K mg a):wc P w K mg base (CXe P w) 4 a.f_q11 a.d_q11 ["chance","bit"] (yon K a.C_NC a.C_NB):=by
 refine T.y_q11.F.okE vaf (fun r H Q E h=>?_) (fun l A f s H r Q E g h=>?_)
 ·obtain ⟨x,n,y,m,rfl,_⟩:=h
  rfl
 ·obtain ⟨x,n,y,m,rfl,t,o,j,p,q⟩:=h
  refine ⟨_,(yh (yu (vw (yxq T) (g.mono (by decide)) rfl T.y_q9.m T.y_q9.F.kp T.y_q9.B .nil yx (yb (pv 0) ye (yc rfl)))) (yh (yu (vw (yct T) (g.mono (by decide)) rfl T.y_q10.m T.y_q10.F.kp T.y_q10.B .nil yx (yb (pv 1) ye (yc rfl)))) (yf (y7 (j9 (y8 uw (pv 1) yi (vg _)) (pv 0) (yr ur (vo rfl T.c_ONE) (pv 0))))))),?_⟩
  try dsimp only [vz]
  refine yn (σ':=[some _,some _]) rfl ?_
  rfl'
  refine ⟨x,n,rfl,t,fun d=>?_,j⟩
  rfl'
  refine ⟨y,m,rfl,o,fun i=>?_,p d⟩
  obtain ⟨c,rfl,C,u⟩:=yhp d
  obtain ⟨b,rfl,v,z⟩:=yim i
  rfl'
  have k:=q c b rfl rfl d i
  unfold gvv at k
  refine u6 (fun e=>?_) (fun e=>?_)
  ·rw [if_pos e] at k
   rfl'
   exact k
  ·rw [if_neg e] at k
   rfl'
   exact k
theorem yy5:yk ["self"] ["self"] (yg ywp):=wx (by right)
theorem vat (T:Txt K mg a):wc P w K mg base CX0 1 a.f_q12 a.d_q12 ["self"] (yeq a.C_Even (u5 (.int 0) (.int 0))):=by
 refine T.y_q12.F.ok yy5 (fun e H Q E h=>?_) (fun c A b s H e Q E g h=>?_)
 ·obtain ⟨p,d,rfl,_⟩:=h
  rfl
 ·obtain ⟨p,d,rfl,f,k⟩:=h
  refine ⟨_,(yh (y9 (pv 0) yi rfl) (yf (y9 (pv 0) yi rfl))),?_⟩
  try dsimp only [vz]
  refine yn (σ':=[some _]) rfl ?_
  rfl'
  exact k _ ya (But.upd.trans But.upd)
theorem yzj:yk ["self"] ["self"] (yg ywh):=wx (by right)
theorem yx8 (T:Txt K mg a):wc P w K mg base CX0 1 a.f_q13 a.d_q13 ["self"] (x9 (oS a) vd3):=by
 refine T.y_q13.F.ok yzj (fun i H Q E h=>?_) (fun f A b s H i Q E l h=>?_)
 ·obtain ⟨p,d,s,rfl,_⟩:=h
  rfl
 ·obtain ⟨p,d,g,rfl,c,j,e,k⟩:=h
  cases g with
  | ev n o =>
   obtain ⟨q,r,m⟩:=j
   have e:H p=some (.ins a.C_Even d (u5 (.int n) (.int o))):=e
   refine ⟨_,(yf (y7 (yr vq (yr wv (yr we (yr wv yi (yq (pv 0) rfl)) yi) (vo rfl T.c_ONE)) (yr we (yr wv yi (yr we (yq (pv 0) rfl) (yq (pv 0) rfl))) yi)))),?_⟩
   try dsimp only [vz]
   refine yn (σ':=[some _]) rfl ?_
   rfl'
   exact k
  | qk _=>exact c.elim
  | rn _ _=>exact c.elim
theorem var:yk ["self","bit"] ["self","bit"] (yg yv7):=wx (by right)
theorem vb8 (T:Txt K mg a):wc P w K mg base (CXe P w) 4 a.f_q14 a.d_q14 ["self","bit"] (z5 K (oS a) vd3 a.C_NB):=by
 refine T.y_q14.F.okE var (fun z H Q E h=>?_) (fun r A e s H z Q E y h=>?_)
 ·obtain ⟨p,g,s,x,n,rfl,_⟩:=h
  rfl
 ·obtain ⟨p,g,t,x,D,rfl,i,G,f,C,u,l⟩:=h
  cases t with
  | ev n o =>
   obtain ⟨L,I,J⟩:=G
   have f:H p=some (.ins a.C_Even g (u5 (.int n) (.int o))):=f
   refine ⟨_,(yh (yu (vw (yct T) (y.mono (by decide)) rfl T.y_q10.m T.y_q10.F.kp T.y_q10.B .nil yx (yb (pv 1) ye (yc rfl)))) (yh (ww (y8 uw (pv 1) yi (vg _)) (yf (y9 (pv 0) (yr we (yq (pv 0) rfl) yi) rfl)) (yf (y9 (pv 0) (yr we (yq (pv 0) rfl) yi) rfl))) (yf (ww (y8 yh5 (yr we (yq (pv 0) rfl) (yq (pv 0) rfl)) (vo rfl T.c_MOST_COUNTED) (vg _)) (yh (y9 (pv 0) (yr vq (yr we (yq (pv 0) rfl) yi) yi) rfl) (yf (y9 (pv 0) (yr vq (yr we (yq (pv 0) rfl) yi) yi) rfl))) vk)))),?_⟩
   try dsimp only [vz]
   refine yn (σ':=[some _,some _]) rfl ?_
   rfl'
   refine ⟨x,D,rfl,C,fun j=>?_,l⟩
   obtain ⟨b,rfl,v,q⟩:=yjr j
   have k:=u b rfl v q
   unfold Slt.see at k
   dsimp only at k
   rfl'
   refine u6 (fun d=>?_) (fun d=>?_)
   ·rw [if_pos d] at k
    unfold yh6 at k
    rfl'
    refine u6 (fun c=>?_) (fun c=>?_)
    ·rw [if_pos c] at k
     rfl'
     exact k _ ya ((But.upd.trans But.upd).trans But.upd)
    ·rw [if_neg c] at k
     rfl'
     exact k _ ya But.upd
   ·rw [if_neg d] at k
    unfold yh6 at k
    rfl'
    refine u6 (fun c=>?_) (fun c=>?_)
    ·rw [if_pos c] at k
     rfl'
     exact k _ ya ((But.upd.trans But.upd).trans But.upd)
    ·rw [if_neg c] at k
     rfl'
     exact k _ ya But.upd
  | qk _=>exact i.elim
  | rn _ _=>exact i.elim
theorem vbq:yk ["self"] ["self"] (yg ywr):=wx (by right)
theorem yzo (T:Txt K mg a):wc P w K mg base CX0 1 a.f_q15 a.d_q15 ["self"] (yeq a.C_Quick (uu (.int 8388608))):=by
 refine T.y_q15.F.ok vbq (fun e H Q E h=>?_) (fun c A b s H e Q E g h=>?_)
 ·obtain ⟨p,d,rfl,_⟩:=h
  rfl
 ·obtain ⟨p,d,rfl,f,k⟩:=h
  refine ⟨_,(yf (y9 (pv 0) (yr vq (vo rfl T.c_ONE) yi) rfl)),?_⟩
  try dsimp only [vz]
  refine yn (σ':=[some _]) rfl ?_
  rfl'
  exact k _ ya But.upd
theorem yzh:yk ["self"] ["self"] (yg ywm):=wx (by right)
theorem vah (T:Txt K mg a):wc P w K mg base CX0 1 a.f_q16 a.d_q16 ["self"] (x9 (oS a) vd4):=by
 refine T.y_q16.F.ok yzh (fun i H Q E h=>?_) (fun f A b s H i Q E j h=>?_)
 ·obtain ⟨p,d,s,rfl,_⟩:=h
  rfl
 ·obtain ⟨p,d,g,rfl,c,l,e,k⟩:=h
  cases g with
  | qk h0 =>
   have e:H p=some (.ins a.C_Quick d (uu (.int h0))):=e
   refine ⟨_,(yf (y7 (yq (pv 0) rfl))),?_⟩
   try dsimp only [vz]
   refine yn (σ':=[some _]) rfl ?_
   rfl'
   exact k
  | ev _ _=>exact c.elim
  | rn _ _=>exact c.elim
theorem ynm:yk ["self","bit","moved"] ["self","bit"] (yg ywu):=wx (by right)
theorem yz0 (T:Txt K mg a):wc P w K mg base (CXe P w) 4 a.f_q17 a.d_q17 ["self","bit"] (z5 K (oS a) vd4 a.C_NB):=by
 refine T.y_q17.F.okE ynm (fun y H Q E h=>?_) (fun q A d s H y Q E v h=>?_)
 ·obtain ⟨p,f,s,x,n,rfl,_⟩:=h
  rfl
 ·obtain ⟨p,f,r,x,C,rfl,g,D,e,z,t,l⟩:=h
  cases r with
  | qk h0 =>
   obtain ⟨I,G⟩:=D
   have e:H p=some (.ins a.C_Quick f (uu (.int h0))):=e
   refine ⟨_,(yh (yu (vw (yct T) (v.mono (by decide)) rfl T.y_q10.m T.y_q10.F.kp T.y_q10.B .nil yx (yb (pv 1) ye (yc rfl)))) (yh (ww (y8 uw (pv 1) yi (vg _)) (yf (yy (i:=2) ynm.nd rfl (Or.inl rfl) (yr we (yq (pv 0) rfl) (yr vq (yr ur (vo rfl T.c_ONE) (yq (pv 0) rfl)) yi)))) (yf (yy (i:=2) ynm.nd rfl (Or.inl rfl) (yr ur (yq (pv 0) rfl) (yr vq (yq (pv 0) rfl) yi))))) (yf (y9 (pv 0) (yt (yf0 rfl) rfl T.z_min (by right) (yb (yt (ygc rfl) rfl T.z_max (by right) (yb (pv 2) (yb (vo rfl T.c_LEAST) ye (yc rfl)) (yc rfl))) (yb (yr ur (vo rfl T.c_ONE) (vo rfl T.c_LEAST)) ye (yc rfl)) (yc rfl))) rfl)))),?_⟩
   try dsimp only [vz]
   refine yn (σ':=[some _,some _,none]) rfl ?_
   rfl'
   refine ⟨x,C,rfl,z,fun j=>?_,l⟩
   obtain ⟨b,rfl,u,o⟩:=yjr j
   have k:=t b rfl u o
   unfold Slt.see at k
   dsimp only at k
   rfl'
   refine u6 (fun c=>?_) (fun c=>?_)
   ·rw [if_pos c] at k
    rfl'
    refine ⟨_,_,rfl,?_⟩
    rfl'
    refine ⟨_,_,rfl,?_⟩
    rfl'
    exact k _ ya But.upd
   ·rw [if_neg c] at k
    rfl'
    refine ⟨_,_,rfl,?_⟩
    rfl'
    refine ⟨_,_,rfl,?_⟩
    rfl'
    exact k _ ya But.upd
  | ev _ _=>exact g.elim
  | rn _ _=>exact g.elim
theorem yzg:yk ["self"] ["self"] (yg yw5):=wx (by right)
theorem vcq (T:Txt K mg a):wc P w K mg base CX0 1 a.f_q18 a.d_q18 ["self"] (yeq a.C_Run (ya4 (.int 1) (.int 0))):=by
 refine T.y_q18.F.ok yzg (fun e H Q E h=>?_) (fun c A b s H e Q E g h=>?_)
 ·obtain ⟨p,d,rfl,_⟩:=h
  rfl
 ·obtain ⟨p,d,rfl,f,k⟩:=h
  refine ⟨_,(yh (y9 (pv 0) yi rfl) (yf (y9 (pv 0) yi rfl))),?_⟩
  try dsimp only [vz]
  refine yn (σ':=[some _]) rfl ?_
  rfl'
  exact k _ ya (But.upd.trans But.upd)
theorem yqy:yk ["self","given"] ["self"] (yg yxd):=wx (by right)
theorem vaw (T:Txt K mg a):wc P w K mg base CX0 1 a.f_q19 a.d_q19 ["self"] (x9 (oS a) vd1):=by
 refine T.y_q19.F.ok yqy (fun m H Q E h=>?_) (fun g A b s H m Q E q h=>?_)
 ·obtain ⟨p,e,s,rfl,_⟩:=h
  rfl
 ·obtain ⟨p,e,j,rfl,d,o,f,k⟩:=h
  cases j with
  | rn l n =>
   obtain ⟨t,v,r,u⟩:=o
   have f:H p=some (.ins a.C_Run e (ya4 (.int l) (.int n))):=f
   refine ⟨_,(yh (yy (i:=1) yqy.nd rfl (Or.inl rfl) (yr vq (yr wv (yr we (yr wv yi (yq (pv 0) rfl)) yi) (vo rfl T.c_ONE)) (yr we (yr wv yi (yq (pv 0) rfl)) yi))) (yf (y7 (j9 (y8 uw (yq (pv 0) rfl) yi (vg _)) (pv 1) (yr ur (vo rfl T.c_ONE) (pv 1)))))),?_⟩
   try dsimp only [vz]
   refine yn (σ':=[some _,none]) rfl ?_
   rfl'
   have k:Q (.int (if l=1 then ya8 n else 16777216 - ya8 n)) H:=k
   refine u6 (fun c=>?_) (fun c=>?_)
   ·rw [if_pos c] at k
    rfl'
    exact k
   ·rw [if_neg c] at k
    rfl'
    exact k
  | ev _ _=>exact d.elim
  | qk _=>exact d.elim
theorem yzt:yk ["self","bit"] ["self","bit"] (yg yxf):=wx (by right)
theorem vce (T:Txt K mg a):wc P w K mg base (CXe P w) 4 a.f_q20 a.d_q20 ["self","bit"] (z5 K (oS a) vd1 a.C_NB):=by
 refine T.y_q20.F.okE yzt (fun y H Q E h=>?_) (fun q A d s H y Q E v h=>?_)
 ·obtain ⟨p,f,s,x,n,rfl,_⟩:=h
  rfl
 ·obtain ⟨p,f,r,x,C,rfl,g,D,e,z,t,j⟩:=h
  cases r with
  | rn l n =>
   obtain ⟨L,G,I,J⟩:=D
   have e:H p=some (.ins a.C_Run f (ya4 (.int l) (.int n))):=e
   refine ⟨_,(yh (yu (vw (yct T) (v.mono (by decide)) rfl T.y_q10.m T.y_q10.F.kp T.y_q10.B .nil yx (yb (pv 1) ye (yc rfl)))) (yf (ww (y8 uw (pv 1) (yq (pv 0) rfl) (vg _)) (yf (y9 (pv 0) (yt (yf0 rfl) rfl T.z_min (by right) (yb (yr we (yq (pv 0) rfl) yi) (yb (vo rfl T.c_MOST_COUNTED) ye (yc rfl)) (yc rfl))) rfl)) (yh (y9 (pv 0) (pv 1) rfl) (yf (y9 (pv 0) yi rfl)))))),?_⟩
   try dsimp only [vz]
   refine yn (σ':=[some _,some _]) rfl ?_
   rfl'
   refine ⟨x,C,rfl,z,fun i=>?_,j⟩
   obtain ⟨b,rfl,u,o⟩:=yjr i
   have k:=t b rfl u o
   unfold Slt.see at k
   dsimp only at k
   rfl'
   refine u6 (fun c=>?_) (fun c=>?_)
   ·rw [if_pos c] at k
    rfl'
    refine ⟨_,_,rfl,?_⟩
    rfl'
    exact k _ ya But.upd
   ·rw [if_neg c] at k
    rfl'
    exact k _ ya (But.upd.trans But.upd)
  | ev _ _=>exact g.elim
  | qk _=>exact g.elim
theorem vbg:yk ["kind"] ["kind"] (yg yvn):=wx (by right)
def ykx (a:Ads):Sp:=fun vs H Q _=>∃ k:Fin 3,vs=[.str (kdS k)]/\∀ p dx H',H p=none->H' p=some (oS a dx (kd0 k))->y0 H H'->Q (.ref p) H'
theorem vb5 (T:Txt K mg a):wc P w K mg base CX0 3 a.f_q21 a.d_q21 ["kind"] (ykx a):=by
 refine T.y_q21.F.ok vbg (fun t H Q E h=>?_) (fun r A l s H t Q E m h=>?_)
 ·obtain ⟨k,rfl,_⟩:=h
  rfl
 ·obtain ⟨q,rfl,k⟩:=h
  refine ⟨_,(yh (ww (y8 uw (pv 0) xf (vg _)) (yf (y7 (yaf T.k_Even (vat T) (m.mono (by decide)) rfl T.m_Even T.y_q12.B .nil vj))) vk) (yh (ww (y8 uw (pv 0) xf (vg _)) (yf (y7 (yaf T.k_Quick (yzo T) (m.mono (by decide)) rfl T.m_Quick T.y_q15.B .nil vj))) vk) (yh (ww (y8 uw (pv 0) xf (vg _)) (yf (y7 (yaf T.k_Run (vcq T) (m.mono (by decide)) rfl T.m_Run T.y_q18.B .nil vj))) vk) (yf ypi)))),?_⟩
  try dsimp only [vz]
  refine yn (σ':=[some _]) rfl ?_
  rfl'
  refine ⟨rfl,?_⟩
  match q with
  | 0 =>
   refine ⟨_,rfl,ygo rfl ?_⟩
   rfl'
   intro p g f c n
   refine ⟨p,g,rfl,ya,fun i d j=>⟨rfl,?_⟩⟩
   exact k p g i f d fun b o e=>j b o (by rw [ym (yd e f),ym (yd e c)]; exact e) (yd e f)
  | 1 =>
   refine ⟨_,rfl,ykz (by intro z; injection z with z; revert z; decide +kernel) ?_⟩
   rfl'
   refine ⟨rfl,?_⟩
   refine ⟨_,rfl,ygo rfl ?_⟩
   rfl'
   intro p g f c n
   refine ⟨p,g,rfl,ya,fun i d j=>⟨rfl,?_⟩⟩
   exact k p g i f d fun b o e=>j b o (by rw [ym (yd e f),ym (yd e c)]; exact e) (yd e f)
  | 2 =>
   refine ⟨_,rfl,ykz (by intro z; injection z with z; revert z; decide +kernel) ?_⟩
   rfl'
   refine ⟨rfl,?_⟩
   refine ⟨_,rfl,ykz (by intro z; injection z with z; revert z; decide +kernel) ?_⟩
   rfl'
   refine ⟨rfl,?_⟩
   refine ⟨_,rfl,ygo rfl ?_⟩
   rfl'
   intro p g f c n
   refine ⟨p,g,rfl,ya,fun i d j=>⟨rfl,?_⟩⟩
   exact k p g i f d fun b o e=>j b o (by rw [ym (yd e f),ym (yd e c)]; exact e) (yd e f)
theorem va3:yk ["thing"] ["thing"] (yg yxr):=wx (by right)
def yka (K:W.Frag):Sp:=fun vs H Q _=>∃ x n,vs=[x]/\xz K H x (.type n)/\Q (.bl (yoh x)) H
theorem yzf (T:Txt K mg a):wc P w K mg base CX0 1 a.f_q22 a.d_q22 ["thing"] (yka K):=by
 refine T.y_q22.F.ok va3 (fun f H Q E h=>?_) (fun d A c s H f Q E g h=>?_)
 ·obtain ⟨x,n,rfl,_⟩:=h
  rfl
 ·obtain ⟨x,n,rfl,b,k⟩:=h
  refine ⟨_,(yf (y7 (ul (yt wn rfl T.z_isinstance (by right) (yb (pv 0) (yb (jc (T:="str") rfl T.z_str (by right)) ye (yc rfl)) (yc rfl))) (zv (uc ylo (pv 0) (yh3 rfl T.m_KINDS) (by with_unfolding_all rfl)))))),?_⟩
  try dsimp only [vz]
  refine yn (σ':=[some _]) rfl ?_
  rfl'
  refine ybg b (yii b) ?_
  rfl'
  by_cases hn:n="str"
  ·obtain ⟨s',rfl⟩:∃ s',x=.str s':=by
    cases b with
    | str s'=>exact ⟨s',rfl⟩
    | _=>exact absurd hn (by decide)
   rw [decide_eq_true hn]
   refine ygr ?_
   rfl'
   exact ⟨a.W_KINDS,_,rfl,.inr (T.w_KINDS H),rfl,rfl,k⟩
  ·have e:yoh x=false:=by
    cases b with
    | str s'=>exact absurd rfl hn
    | _=>rfl
   rw [decide_eq_false hn]
   rw [e] at k
   exact yfa k
theorem yy3:yk ["thing"] ["thing"] (yg yw9):=wx (by right)
def yg7 (K:W.Frag):Sp:=fun vs H Q _=>∃ x n,vs=[x]/\xz K H x (.type n)/\Q (.bl (plV x)) H
theorem yzr (T:Txt K mg a):wc P w K mg base CX0 2 a.f_q23 a.d_q23 ["thing"] (yg7 K):=by
 refine T.y_q23.F.ok yy3 (fun j H Q E h=>?_) (fun d A c s H j Q E g h=>?_)
 ·obtain ⟨x,n,rfl,_⟩:=h
  rfl
 ·obtain ⟨x,n,rfl,f,k⟩:=h
  refine ⟨_,(yf (y7 (ul (vn (yof T) (g.mono (by decide)) rfl T.y_q1.m T.y_q1.F.kp T.y_q1.B .nil vj (yb (pv 0) ye (yc rfl))) (zv (j7 zb zb yi (pv 0) (vo rfl T.c_FARTHEST)))))),?_⟩
  try dsimp only [vz]
  refine yn (σ':=[some _]) rfl ?_
  rfl'
  refine ⟨x,n,rfl,f,?_⟩
  rfl'
  cases hx:yai x with
  | false =>
   have e:plV x=false:=by
    cases x <;> first | rfl | cases hx
   rw [e] at k
   exact yfa k
  | true =>
   obtain ⟨i,rfl⟩:=uy hx
   refine ygr ?_
   rfl'
   refine u6 (fun b=>?_) (fun b=>?_)
   ·rfl'
    have e:plV (.int i)=decide (i <= 8):=by simp [plV,b]
    rw [e] at k
    exact k
   ·have e:plV (.int i)=false:=by simp [plV,b]
    rw [e] at k
    exact k
theorem vao:yk ["thing"] ["thing"] (yg yxh):=wx (by right)
def ydw (K:W.Frag):Sp:=fun vs H Q _=>∃ x b,vs=[x]/\PlB K H x b/\∀ H',y0 H H'->Q (.bl b) H'
theorem vcs (T:Txt K mg a):wc P w K mg base CX0 3 a.f_q24 a.d_q24 ["thing"] (ydw K):=by
 refine T.y_q24.F.ok vao (fun vs H Q E h=>?_) (fun a0 A R s H vs Q E hr h=>?_)
 ·obtain ⟨x,b,rfl,_⟩:=h
  rfl
 ·obtain ⟨x,b,rfl,hb,k⟩:=h
  refine ⟨_,(yh (ww (PW.pt (ye4 (x6 (ue (yt wn rfl T.z_isinstance (by right) (yb (pv 0) (yb (jc (T:="tuple") rfl T.z_tuple (by right)) ye (yc rfl)) (yc rfl))))) (ye4 (y8 yh5 (yt yz rfl T.z_len (by right) (yb (pv 0) ye (yc rfl))) (vo rfl T.c_MOST_PLACES) (vg _)) (ydm (x6 (ue (yt (z0 rfl) rfl T.z_all (by right) (yb (w9 (js:=[]) (ys:=[]) rfl (yji (pv 0)) (fun C U I W=>(vn (yzr T) (hr.mono (by decide)) rfl T.y_q23.m T.y_q23.F.kp T.y_q23.B .nil vj (yb (pv 0) ye (yc rfl)))) rfl rfl (hyc:=vd) (hrel:=vd)) ye (yc rfl))))))))) (yf (y7 vdt)) vk) (yf (y7 (yt (z0 rfl) rfl T.z_all (by right) (yb (yi0 (js:=[]) (ys:=[]) (xs:=["near","far"]) (g:=yx2 K 2 (ja (w4 0) (ja (w4 1) yqn))) rfl (yut rfl T.z_zip (yb (pv 0) (yb (xn (vb2.or yvc) (pv 0) (x3 yi) x5) ye (yc rfl)) (yc rfl))) (fun C U I W=>(uc ygm (pv 0) (pv 1) (vg _))) rfl (fun C U I W=>yoa rfl (zz (xc (i:=0) (show List.Nodup ((["near","far"]:List Str)++([]:List Str)) by right) rfl (Or.inl rfl)) (zz (xc (i:=1) (show List.Nodup ((["near","far"]:List Str)++([]:List Str)) by right) rfl (Or.inl rfl)) yh1))) rfl (hyc:=vd) (hrel:=vd)) ye (yc rfl)))))),?_⟩
  try dsimp only [vz]
  refine yn (σ':=[some _]) rfl ?_
  rcases hb with ⟨n,X,hn,rfl⟩ | ⟨t,xs,rfl,J,hl,hy,rfl⟩
  ·rfl'
   refine ybg X (ybu X) ?_
   rfl'
   refine yv3 hn ?_
   rfl'
   exact k _ (y0.refl _)
  ·rfl'
   refine ybg (.tup J) (ybu (.tup J)) ?_
   rfl'
   refine ywx rfl ?_
   rfl'
   refine yso (SqT.of J) ?_
   rfl'
   unfold zn at k
   refine u6 (fun h4=>?_) (fun h4=>?_)
   ·rw [decide_eq_false (by omega),Bool.false_and,Bool.false_and] at k
    rfl'
    exact k _ (y0.refl _)
   ·rw [decide_eq_true (by omega),Bool.true_and] at k
    rfl'
    refine ⟨t,rfl,⟨_,SqT.of J⟩,fun D Y=>?_⟩
    refine yln (xs:=xs) (fun v=>.bl (plV v)) (SqT.of J) Y (fun i y I L p f=>?_) (fun I p f=>?_)
    ·obtain ⟨n,S⟩:=hy y (List.mem_of_getElem? L)
     rfl'
     refine ⟨y,n,rfl,ycs p S,?_⟩
     exact Mp.done Y (vx (by omega)) L p f rfl
    have e:xs.map (fun v=>V.bl (plV v))=(xs.map plV).map V.bl:=by rw [List.map_map]; rfl
    rw [e] at f
    rfl'
    refine ⟨D,_,rfl,SqL.of f,?_⟩
    rw [List.all_map]
    have ea:xs.all (id ∘ plV)=xs.all plV:=rfl
    rw [ea]
    have c:=p _ _ J
    cases hp:xs.all plV with
    | false =>
     rw [hp,Bool.false_and] at k
     rfl'
     exact k _ p
    | true =>
     rw [hp,Bool.true_and] at k
     have l:∀ y∈xs,∃ i:Int,y=.int i:=fun y hm=>by
      have:=List.all_eq_true.mp hp y hm
      cases y with
      | int i=>exact ⟨i,rfl⟩
      | _=>cases this
     rfl'
     by_cases hx0:xs=[]
     ·refine .inr ⟨t,xs,rfl,SqT.of c,?_,?_⟩
      ·subst hx0
       exact ⟨rfl,rfl⟩
      ·refine ⟨t,t,rfl,⟨_,_,SqT.of c,SqT.of c⟩,fun O d=>?_⟩
       refine yng (xs:=xs) l (by omega) (SqT.of c) (by subst hx0; exact SqT.of c) d (fun i j σ' Z Q' h=>?_) (fun H4 N q=>?_)
       ·rfl'
        exact h
       ·rfl'
        exact ⟨O,_,rfl,SqL.of q,k _ (p.trans N)⟩
     ·refine .inl ⟨t,xs,rfl,SqT.of c,?_,fun u hu=>?_⟩
      ·rintro ⟨z,_⟩
       have e1:HT.sIx xs.length 0 (some 1)=min 1 xs.length:=by
        have:=HT.sIx_nat xs.length 0 1
        simpa using this
       rw [e1] at z
       cases xs with
       | nil=>exact hx0 rfl
       | cons x r=>simp at z
      ·rw [ytl]
       have M:=vv (o:=(HO.tup xs.tail)) hu
       have G:upd I u (HO.tup xs.tail) u=some (HO.tup xs.tail):=ya
       generalize upd I u (HO.tup xs.tail)=H3 at M G ⊢
       refine ⟨t,u,rfl,⟨_,_,SqT.of (M _ _ c),SqT.of G⟩,fun O d=>?_⟩
       refine yng (xs:=xs) l (by omega) (SqT.of (M _ _ c)) (SqT.of G) d (fun i j σ' Z Q' h=>?_) (fun H4 N q=>?_)
       ·rfl'
        exact h
       ·rfl'
        exact ⟨O,_,rfl,SqL.of q,k _ (p.trans (M.trans N))⟩
theorem vbd:yk ["thing"] ["thing"] (yg yvy):=wx (by right)
def ykt (K:W.Frag):Sp:=fun vs H Q _=>∃ x b,vs=[x]/\LkB K H x b/\∀ H',y0 H H'->Q (.bl b) H'
theorem yq9 (T:Txt K mg a):wc P w K mg base CX0 4 a.f_q25 a.d_q25 ["thing"] (ykt K):=by
 refine T.y_q25.F.ok vbd (fun q H Q E h=>?_) (fun l A f s H q Q E i h=>?_)
 ·obtain ⟨x,b,rfl,_⟩:=h
  rfl
 ·obtain ⟨x,b,rfl,c,k⟩:=h
  refine ⟨_,(yf (y7 (ul (yt wn rfl T.z_isinstance (by right) (yb (pv 0) (yb (jc (T:="tuple") rfl T.z_tuple (by right)) ye (yc rfl)) (yc rfl))) (ul (uc uw (yt yz rfl T.z_len (by right) (yb (pv 0) ye (yc rfl))) yi (vg _)) (ul (vn (yzf T) (i.mono (by decide)) rfl T.y_q22.m T.y_q22.F.kp T.y_q22.B .nil vj (yb (uf zt (pv 0) yi (fun _ _=>rfl)) ye (yc rfl))) (zv (vn (vcs T) (i.mono (by decide)) rfl T.y_q24.m T.y_q24.F.kp T.y_q24.B .nil vj (yb (uf zt (pv 0) yi (fun _ _=>rfl)) ye (yc rfl))))))))),?_⟩
  try dsimp only [vz]
  refine yn (σ':=[some _]) rfl ?_
  rcases c with ⟨n,e,p,rfl⟩ | ⟨t,r,rfl,d,c⟩
  ·rfl'
   refine ybg e (ybu e) ?_
   rfl'
   rw [decide_eq_false p]
   exact yfa (k _ (y0.refl _))
  ·rfl'
   refine ybg (.tup d) (ybu (.tup d)) ?_
   rfl'
   refine ygo rfl ?_
   rfl'
   refine yso (SqT.of d) ?_
   rfl'
   rcases c with ⟨u,rfl⟩ | ⟨y,z,n,rfl,e,c⟩
   ·rw [decide_eq_false (show ¬ ((r.length:Int)=2) by omega)]
    exact yfa (k _ (y0.refl _))
   ·refine ygo rfl ?_
    rfl'
    refine yqh (SqT.of d) (xp (j:=0) rfl) ?_
    rfl'
    refine ⟨y,n,rfl,e,?_⟩
    rcases c with ⟨g,rfl⟩ | ⟨g,o⟩
    ·rw [g]
     rfl'
     exact k _ (y0.refl _)
    ·rw [g]
     rfl'
     refine yqh (SqT.of d) (xp (j:=1) rfl) ?_
     rfl'
     exact ⟨z,b,rfl,o,k⟩
theorem yzy:yk ["thing"] ["thing"] (yg ywg):=wx (by right)
def ylg (K:W.Frag) (C:Addr):Sp:=fun vs H Q E=>(∃ x n,vs=[x]/\xz K H x (.type n)/\n≠"list"/\E (.ref C) none H) \/
 ∃ (l:Addr) (xs:List V) (bs:List Bool),vs=[.ref l]/\H l=some (.lst xs)/\xs.length <= 1000/\vf0 K H xs bs /\
  ((1 <= xs.length/\xs.length <= 6/\bs.all id=true)->∀ r H',H r=none->H' r=some (.lst xs)->y0 H H'->Q (.ref r) H') /\
  (¬ (1 <= xs.length/\xs.length <= 6/\bs.all id=true)->∀ H',y0 H H'->E (.ref C) none H')
theorem yrc (T:Txt K mg a):wc P w K mg base (CXe P w) 5 a.f_q26 a.d_q26 ["thing"] (ylg K a.C_NL):=by
 refine T.y_q26.F.okE yzy (fun W H Q E h=>?_) (fun R A v s H W Q E I h=>?_)
 ·rcases h with ⟨x,n,rfl,_⟩ | ⟨l,xs,f,rfl,_⟩
  ·rfl
  ·rfl
 ·rcases h with ⟨x,n,rfl,J,S,k⟩ | ⟨l,xs,g,rfl,d,hz,u,U,o⟩
  ·refine ⟨_,(yh (ww (PW.pt (ye4 (x6 (ue (yt wn rfl T.z_isinstance (by right) (yb (pv 0) (yb (jc (T:="list") rfl T.z_list (by right)) ye (yc rfl)) (yc rfl))))) (ye4 (x6 (yex zb zb yi (yt yz rfl T.z_len (by right) (yb (pv 0) ye (yc rfl))) (vo rfl T.c_MOST_LOOKS))) (ydm (x6 (ue (yt (z0 rfl) rfl T.z_all (by right) (yb (w9 (js:=[]) (ys:=[]) rfl (xx (pv 0)) (fun C X q Y=>(vn (yq9 T) (I.mono (by decide)) rfl T.y_q25.m T.y_q25.F.kp T.y_q25.B .nil vj (yb (pv 0) ye (yc rfl)))) rfl rfl (hyc:=vd) (hrel:=vd)) ye (yc rfl))))))))) (yf (wy rfl T.m_NL T.r_NL (yb xf ye (yc rfl)))) vk) (yf (y7 (xt xq rfl T.z_list (by right) (yb (pv 0) ye (yc rfl)))))),?_⟩
   refine yn (σ':=[some _]) rfl ?_
   rfl'
   refine ybg J (yie J) ?_
   rfl'
   refine yv3 S ?_
   rfl'
   exact ⟨by walk_at "len",k⟩
  ·refine ⟨_,(yh (ww (PW.pt (ye4 (x6 (ue (yt wn rfl T.z_isinstance (by right) (yb (pv 0) (yb (jc (T:="list") rfl T.z_list (by right)) ye (yc rfl)) (yc rfl))))) (ye4 (x6 (yex zb zb yi (yt yz rfl T.z_len (by right) (yb (pv 0) ye (yc rfl))) (vo rfl T.c_MOST_LOOKS))) (ydm (x6 (ue (yt (z0 rfl) rfl T.z_all (by right) (yb (w9 (js:=[]) (ys:=[]) rfl (xx (pv 0)) (fun C X q Y=>(vn (yq9 T) (I.mono (by decide)) rfl T.y_q25.m T.y_q25.F.kp T.y_q25.B .nil vj (yb (pv 0) ye (yc rfl)))) rfl rfl (hyc:=vd) (hrel:=vd)) ye (yc rfl))))))))) (yf (wy rfl T.m_NL T.r_NL (yb xf ye (yc rfl)))) vk) (yf (y7 (xt xq rfl T.z_list (by right) (yb (pv 0) ye (yc rfl)))))),?_⟩
   refine yn (σ':=[some _]) rfl ?_
   rfl'
   refine ybg (.lst d) (yie (.lst d)) ?_
   rfl'
   refine ywx rfl ?_
   rfl'
   refine zw (SqL.of d) ?_
   rfl'
   refine u6 (fun Z=>?_) (fun Z=>?_)
   ·rfl'
    refine ys0 (fun O=>?_) (fun O=>?_)
    ·rfl'
     refine ⟨l,rfl,⟨_,SqL.of d⟩,fun D M=>?_⟩
     refine zk (K:=K) (xs:=xs) (Mp H D (fun i=>V.bl ((g[i]?).getD false))) (Mp.zero M) (fun _ _ _ p=>p.1.seq (SqL.of d)) (fun i y q G L p=>?_) (fun q p=>?_)
     ·obtain ⟨c,b⟩:=p
      have e:i < g.length:=by rw [<- u.1]; exact L
      rfl'
      refine ⟨y,g[i],rfl,(u.2 i y _ G (List.getElem?_eq_getElem e)).same c,fun H3 N=>?_⟩
      refine Mp.doneR M (vx (by omega)) L (c.trans N) (N _ _ b) ?_
      rw [List.getElem?_eq_getElem e]
      rfl
     obtain ⟨c,b⟩:=p
     rw [yp4 g u.1] at b
     rfl'
     refine ⟨D,_,rfl,SqL.of b,?_⟩
     have t:=c _ _ d
     cases hp:g.all id with
     | false =>
      rfl'
      exact ⟨by walk_at "len",o (by rw [hp]; rintro ⟨_,_,z⟩; cases z) _ c⟩
     | true =>
      rfl'
      refine yo2 (SqL.of t) fun r j=>?_
      exact U ⟨by omega,by omega,hp⟩ r _ (c.free j) ya (c.trans (vv j))
    ·rfl'
     exact ⟨by walk_at "len",o (by omega) _ (y0.refl _)⟩
   ·rfl'
    exact ⟨by walk_at "len",o (by omega) _ (y0.refl _)⟩
theorem yyu:yk ["signs","place"] ["signs","place"] (yg yxp):=wx (by right)
def ypp (K:W.Frag):Sp:=fun vs H Q _=>∃ (l:Addr) (sg:List Int) (p:Int),vs=[.ref l,.int p]/\SqL K H l (sg.map V.int)/\1 <= p/\Q (.int (ys2 sg p)) H
theorem vbx (T:Txt K mg a):wc P w K mg base CX0 1 a.f_q27 a.d_q27 ["signs","place"] (ypp K):=by
 refine T.y_q27.F.ok yyu (fun j H Q E h=>?_) (fun g A d s H j Q E n h=>?_)
 ·obtain ⟨l,m,p,rfl,_⟩:=h
  rfl
 ·obtain ⟨l,m,p,rfl,f,i,k⟩:=h
  refine ⟨_,(yf (y7 (j9 (y8 zb (pv 1) (yt yz rfl T.z_len (by right) (yb (pv 0) ye (yc rfl))) (vg _)) (uf x4 (pv 0) (vc4 ysh (pv 1)) (fun _ _=>rfl)) (vo rfl T.c_NO_SIGN)))),?_⟩
  try dsimp only [vz]
  refine yn (σ':=[some _,some _]) rfl ?_
  rfl'
  refine zw f ?_
  rw [List.length_map]
  rfl'
  unfold ys2 at k
  refine u6 (fun b=>?_) (fun b=>?_)
  ·rw [if_pos b] at k
   obtain ⟨c,e,_⟩:=yow i b
   rw [e] at k
   rfl'
   exact yal f (by rw [ytw,e]; rfl) k
  ·rw [if_neg b] at k
   rfl'
   exact k
theorem yyf:yk ["look","signs","node"] ["look","signs","node"] (yg yxk):=wx (by right)
def zg (K:W.Frag) (H:Hp) (k:Addr) (x:V) (ps:List Int):Prop:=∃ t,SqT K H k [x,.ref t]/\SqT K H t (ps.map V.int)/\(∀ p∈ps,1 <= p/\p <= 8)/\ps.length <= 4
theorem zg.same {K:W.Frag} {H H':Hp} {k:Addr} {x:V} {ps:List Int} (S:y0 H H') (h:zg K H k x ps):zg K H' k x ps:=by
 obtain ⟨t,a,d,b,c⟩:=h
 exact ⟨t,S.tup a,S.tup d,b,c⟩
def ctx (ps sg:List Int) (nd:Int):List Int:=ps.map (ys2 sg)++[nd]
def bkV (sg:List Int):V->V
 | .int p=>.int (ys2 sg p)
 | _=>.non
theorem yuz (sg ps:List Int):(ps.map V.int).map (bkV sg)=(ps.map (ys2 sg)).map V.int:=by
 rw [List.map_map,List.map_map]
 rfl
def ykd (K:W.Frag):Sp:=fun vs H Q _=>∃ (k l:Addr) (x:V) (ps sg:List Int) (nd:Int),vs=[.ref k,.ref l,.int nd]/\zg K H k x ps/\SqL K H l (sg.map V.int) /\
 ∀ r H',H r=none->H' r=some (.tup ((ctx ps sg nd).map V.int))->y0 H H'->Q (.ref r) H'
theorem yyb (T:Txt K mg a):wc P w K mg base CX0 2 a.f_q28 a.d_q28 ["look","signs","node"] (ykd K):=by
 refine T.y_q28.F.ok yyf (fun U H Q E h=>?_) (fun M A u s H U Q E R h=>?_)
 ·obtain ⟨k,l,x,o,g,O,rfl,_⟩:=h
  rfl
 ·obtain ⟨X,l,x,o,g,O,rfl,⟨t,N,I,v,W⟩,L,k⟩:=h
  refine ⟨_,(yf (y7 (xt jz rfl T.z_tuple (by right) (yb (yr yjh (w9 (js:=[1]) (ys:=["signs"]) rfl (yji (uf zt (pv 0) yi (fun _ _=>rfl))) (fun C Y z Z=>(vn (vbx T) (R.mono (by decide)) rfl T.y_q27.m T.y_q27.F.kp T.y_q27.B .nil vj (yb (pv 1) (yb (pv 0) ye (yc rfl)) (yc rfl)))) rfl rfl (hyc:=(all_cons rfl vd)) (hrel:=(all_cons rfl vd))) (xj (yb (pv 2) ye (yc rfl)))) ye (yc rfl))))),?_⟩
  try dsimp only [vz]
  refine yn (σ':=[some _,some _,some _]) rfl ?_
  rfl'
  refine yqh N (xp (j:=1) rfl) ?_
  refine ⟨t,rfl,⟨_,I⟩,fun D J=>?_⟩
  have f:(o.map V.int).length < sizeLine:=vx (by rw [List.length_map]; omega)
  refine ydi (xs:=o.map V.int) (bkV g) I J (fun i y z G e b=>?_) (fun z e b=>?_)
  ·obtain ⟨p,rfl,q,_,_⟩:=yag G
   rfl'
   refine ⟨l,g,p,rfl,e.seq L,(v p q).1,?_⟩
   exact Mp.done J f G e b rfl
  ·rw [yuz] at b
   rfl'
   refine ⟨by walk_at "len",fun n hn=>?_⟩
   with_reducible first | refine yw hn fun H3 S3 hn3=>?_ | refine ve hn fun H3 S3 hn3=>?_
   refine ⟨D,n,_,_,rfl,rfl,S3 _ _ b,hn3,yhr (by rw [List.length_map,List.length_map]; show _+1 <= _; omega),fun c hc=>?_⟩
   with_reducible first | refine yw hc fun H4 S4 hc4=>?_ | refine ve hc fun H4 S4 hc4=>?_
   refine ⟨c,_,rfl,.inl ⟨SqL.of hc4,fun r d=>?_⟩⟩
   have S:=e.trans (S3.trans S4)
   refine k r _ (S.free d) (ya.trans ?_) (S.trans (vv d))
   unfold ctx
   rw [List.map_append]
   rfl
theorem vbi:yk ["self","look"] ["self","look"] (yg yw0):=wx (by right)
def ylm (a:Ads):Sp:=fun vs H Q _=>∃ (p dx lk:Addr) (kd:Fin 3),vs=[.ref p,.ref lk]/\H p=some (.ins a.C_Book dx [])/\∀ d H',H d=none->ybm a H' p dx lk d kd (fun _=>none) (fun b=>b=d) 0->But p H H'->Q .non H'
theorem vba (T:Txt K mg a):wc P w K mg base CX0 1 a.f_q29 a.d_q29 ["self","look"] (ylm a):=by
 refine T.y_q29.F.ok vbi (fun x H Q E h=>?_) (fun t A m s H x Q E D h=>?_)
 ·obtain ⟨p,j,i,B,rfl,_⟩:=h
  rfl
 ·obtain ⟨p,j,i,B,rfl,v,k⟩:=h
  refine ⟨_,(yh (y9 (pv 0) (pv 1) rfl) (yf (y9 (pv 0) yqf rfl))),?_⟩
  try dsimp only [vz]
  refine yn (σ':=[some _,some _]) rfl ?_
  rfl'
  intro d l
  have g:H d=none:=by
   cases e:H d with
   | none=>rfl
   | some o =>
    by_cases z:d=p
    ·rw [z,ya] at l; cases l
    ·rw [ym z,e] at l; cases l
  have f:d≠p:=fun z=>by rw [z,v] at g; cases g
  have q:=zq (o':=HO.dT []) l (show upd H p (HO.ins a.C_Book j ([("look",V.ref i)]:List (Str × V))) p=some (HO.ins a.C_Book j ([("look",V.ref i)]:List (Str × V))) from ya)
  have c:upd (upd H p (HO.ins a.C_Book j ([("look",V.ref i)]:List (Str × V)))) d (.dT []) d=some (.dT []):=ya
  have r:But p H (upd (upd H p (HO.ins a.C_Book j ([("look",V.ref i)]:List (Str × V)))) d (.dT [])):=fun b o e n=>by rw [ym (yd e g),ym n]; exact e
  generalize upd (upd H p (HO.ins a.C_Book j ([("look",V.ref i)]:List (Str × V)))) d (.dT [])=C at q c r ⊢
  rfl'
  refine k d _ g ⟨ya,fun b u=>⟨HO.dT [],by cases u; exact yj f c,rfl⟩,fun z=>f z.symm,rfl,fun y e=>(by cases (yj f c).symm.trans e; exact ⟨List.nodup_nil,fun _ z=>(nomatch z)⟩),[],fun _=>(0,0),yj f c,Nat.le_refl _,fun _ _=>rfl,fun _ _ z=>(nomatch z),fun _ _ _ _ z=>(nomatch z)⟩ (r.trans But.upd)
theorem yrf:yk ["self","signs","node","context"] ["self","signs","node"] (yg yxe):=wx (by right)
def yl5 (K:W.Frag) (a:Ads):Sp:=fun vs H Q _=>∃ (p dx lk d sl:Addr) (kd:Fin 3) (f:List Int->Option Slt) (O:Addr->Prop) (m:Nat) (ps sg:List Int) (nd:Int),vs=[.ref p,.ref sl,.int nd]/\ybm a H p dx lk d kd f O m/\m < 1000000/\zg K H lk (.str (kdS kd)) ps/\SqL K H sl (sg.map V.int) /\
 ∀ (q:Addr) (O':Addr->Prop) (H':Hp),ybm a H' p dx lk d kd (ye9 f (ctx ps sg nd) ((f (ctx ps sg nd)).getD (kd0 kd))) O' (m+1)->(∀ kvs,H' d=some (.dT kvs)->zd kvs (kI (ctx ps sg nd))=some (.ref q))->(∀ c,O' c->O c\/H c=none)->(∀ c,O c->O' c)->yqq O H H'->Q (.ref q) H'
theorem vbp (T:Txt K mg a):wc P w K mg base CX0 4 a.f_q30 a.d_q30 ["self","signs","node"] (yl5 K a):=by
 refine T.y_q30.F.ok yrf (fun vs H Q E h=>?_) (fun ab A a7 s H vs Q E hr h=>?_)
 ·obtain ⟨p,dx,lk,d,sl,G,f,O,m,ps,sg,nd,rfl,_⟩:=h
  rfl
 ·obtain ⟨p,dx,lk,d,sl,G,f,O,m,ps,sg,nd,rfl,hb,hm,hl,hs,k⟩:=h
  have ac:=hb.me
  refine ⟨_,(yh (yy (i:=3) yrf.nd rfl (Or.inl rfl) (vn (yyb T) (hr.mono (by decide)) rfl T.y_q28.m T.y_q28.F.kp T.y_q28.B .nil vj (yb (yq (pv 0) rfl) (yb (pv 1) (yb (pv 2) ye (yc rfl)) (yc rfl)) (yc rfl)))) (yh (ut (ww (yn9 (yfz (jt hr) (pv 3) (yq (pv 0) rfl))) (yf (yhz (jt hr) (yq (pv 0) rfl) (pv 3) (vn (vb5 T) (hr.mono (by decide)) rfl T.y_q21.m T.y_q21.F.kp T.y_q21.B .nil vj (yb (uf zt (yq (pv 0) rfl) yi (fun _ _=>rfl)) ye (yc rfl))) rfl)) vk)) (yf (y7 (za (jt hr) (yq (pv 0) rfl) (pv 3) (fun _ _=>rfl)))))),?_⟩
  try dsimp only [vz]
  refine yn (σ':=[some _,some _,some _,none]) rfl ?_
  rfl'
  refine ⟨lk,sl,_,ps,sg,nd,rfl,hl,hs,fun r H1 ad a3 S1=>?_⟩
  have l:H1 r=some (.tup ((kI (ctx ps sg nd)).map kV)):=by rw [va8]; exact a3
  generalize ctx ps sg nd=b at l k
  have g:=hb.same S1
  have x:=g.me
  rfl'
  refine yog (fun σ' H'=>σ'=[some (.ref p),some (.ref sl),some (.int nd),some (.ref r)]/\∃ O',ybm a H' p dx lk d G (ye9 f b ((f b).getD (kd0 G))) O' (m+1)/\(∀ c,O' c->O c\/H c=none)/\(∀ c,O c->O' c)/\yqq O H H'/\H' r=some (.tup ((kI b).map kV))) ?_ ?_
  ·obtain ⟨M,n,I,h2,U,S,h5⟩:=g.tb
   rfl'
   refine ⟨d,_,rfl,ybo.t I l,?_⟩
   cases hf:f b with
   | none =>
    rw [U b hf]
    rfl'
    refine ygr ?_
    rfl'
    obtain ⟨t,a6,aa,_,_⟩:=hl
    refine yqh (S1.tup a6) (xp (j:=0) rfl) ?_
    rfl'
    refine ⟨G,rfl,fun q dq H2 u a0 J=>?_⟩
    rfl'
    have N:=J _ _ x
    rfl'
    refine ⟨d,_,rfl,yok.t (J _ _ I) (J _ _ l) (vx (by omega)),?_⟩
    have a1:=S1.trans J
    have Y:q≠d:=fun z=>by rw [z,I] at u; cases u
    have a2:p≠d:=fun z=>g.np (z ▸ g.dO)
    rfl'
    refine ⟨rfl,fun c=>O c\/c=q,⟨yj a2 N,fun c v=>?_,fun z=>?_,.inl g.dO,yxz.snoc (g.ky M I) (U b hf) ya,ybw M (kI b) (.ref q),fun j=>if j=b then (q,dq) else n j,ya,?_,fun j L=>?_,fun j s' L=>?_,fun j1 Z s1 s2 e1 X y=>?_⟩,fun c v=>?_,fun c v=>.inl v,fun c o e no=>?_,yj (xi (J _ _ l) (J _ _ I) (by intro z; cases z)) (J _ _ l)⟩
    ·rcases v with v | rfl
     ·obtain ⟨o,ho,hi⟩:=g.own c v
      by_cases z:c=d
      ·rw [z]
       exact ⟨_,ya,rfl⟩
      ·exact ⟨o,yj z (J _ _ ho),hi⟩
     ·obtain ⟨C,fs,eo⟩:=ydl a dq (kd0 G)
      exact ⟨_,yj Y a0,by rw [eo]; rfl⟩
    ·rcases z with z | z
     ·exact g.np z
     ·rw [z] at x
      rw [x] at u
      cases u
    ·rw [ybr _ (U b hf),List.length_append]
     show _+1 <= m+1
     omega
    ·unfold ye9 at L
     split at L
     ·cases L
     ·rename_i hne
      rw [yad,if_neg fun z=>hne (ysn z)]
      exact U j L
    ·unfold ye9 at L
     split at L
     ·rename_i he
      subst he
      cases L
      dsimp only
      rw [if_pos rfl,yad,if_pos rfl]
      exact ⟨rfl,yj Y a0,ysi G,ypd G,.inr rfl⟩
     ·rename_i hne
      obtain ⟨W,D,q3,q4,q5⟩:=S j s' L
      dsimp only
      rw [if_neg hne,yad,if_neg fun z=>hne (ysn z)]
      have a8:(n j).1≠d:=by
       obtain ⟨C,fs,eo⟩:=ydl a (n j).2 s'
       rw [eo] at D
       exact xi D I (by intro z; cases z)
      exact ⟨W,yj a8 (J _ _ D),q3,q4,.inl q5⟩
    ·unfold ye9 at e1 X
     dsimp only at y
     by_cases z1:j1=b
     ·by_cases z2:Z=b
      ·rw [z1,z2]
      ·rw [if_neg z2] at X
       rw [if_pos z1,if_neg z2] at y
       obtain ⟨_,D,_⟩:=S Z s2 X
       have y:q=(n Z).1:=y
       rw [<- y,u] at D
       cases D
     ·rw [if_neg z1] at e1
      by_cases z2:Z=b
      ·rw [if_neg z1,if_pos z2] at y
       obtain ⟨_,D,_⟩:=S j1 s1 e1
       have y:(n j1).1=q:=y
       rw [y,u] at D
       cases D
      ·rw [if_neg z2] at X
       rw [if_neg z1,if_neg z2] at y
       exact h5 j1 Z s1 s2 e1 X y
    ·rcases v with v | rfl
     ·exact .inl v
     ·exact .inr (S1.free u)
    ·exact yj (fun z=>no (z ▸ g.dO)) (a1 _ _ e)
   | some s' =>
    obtain ⟨W,D,q3,q4,q5⟩:=S b s' hf
    rw [W]
    rfl'
    refine ⟨rfl,O,?_,fun c v=>.inl v,fun c v=>v,fun c o e _=>S1 _ _ e,l⟩
    have ef:ye9 f b ((some s').getD (kd0 G))=f:=by
     funext j
     unfold ye9
     split
     ·rename_i z
      rw [z,hf]
      rfl
     ·rfl
    rw [ef]
    exact ⟨g.me,g.own,g.np,g.dO,g.ky,M,n,I,Nat.le_succ_of_le h2,U,S,h5⟩
  ·rintro σ' H2 ⟨rfl,O',R,hO,hM,B2,a5⟩
   have N:=R.me
   obtain ⟨M,n,I,h2,U,S,h5⟩:=id R.tb
   have a4:ye9 f b ((f b).getD (kd0 G)) b=some ((f b).getD (kd0 G)):=by unfold ye9; rw [if_pos rfl]
   obtain ⟨W,D,q3,q4,q5⟩:=S b _ a4
   rfl'
   refine ⟨d,_,rfl,by rw [<- W]; exact ybo.t I a5,?_⟩
   exact k (n b).1 O' H2 R (fun a9 e=>by rw [I] at e; cases e; exact W) hO hM B2
theorem yyg:yk ["self","many"] ["self","many"] (yg yvv):=wx (by right)
theorem vct (T:Txt K mg a):wc P w K mg base CX0 1 a.f_q31 a.d_q31 ["self","many"] (yo8 a):=by
 refine T.y_q31.F.ok yyg (fun j H Q E h=>?_) (fun f A c s H j Q E q h=>?_)
 ·obtain ⟨p,g,n,rfl,_⟩:=h
  rfl
 ·obtain ⟨p,g,n,rfl,m,o,e,k⟩:=h
  refine ⟨_,(yf (y9 (pv 0) (yr ysp (xj (yb (vo rfl T.c_FIRST_WEIGHT) ye (yc rfl))) (pv 1)) rfl)),?_⟩
  try dsimp only [vz]
  refine yn (σ':=[some _,some _]) rfl ?_
  rfl'
  refine ⟨by walk_at "len",fun r hr0=>?_⟩
  with_reducible first | refine yw hr0 fun H1 S1 e1=>?_ | refine ve hr0 fun H1 S1 e1=>?_
  rfl'
  refine ⟨r,n,_,rfl,rfl,e1,by omega,by omega,yhr (by show 1 * (n:Int).toNat <= 16000000; omega),fun l hl=>?_⟩
  rw [ylt]
  with_reducible first | refine yw hl fun H2 S2 e2=>?_ | refine ve hl fun H2 S2 e2=>?_
  have b:=S1.trans S2
  have i:=b _ _ e
  rfl'
  have d:l≠p:=fun z=>by rw [z,S1 _ _ e] at hl; cases hl
  exact k l _ (S1.free hl) ⟨ya,yj d e2⟩ ((But.of b).trans But.upd)
theorem vaj:yk ["self","chances"] ["self","chances"] (yg yv5):=wx (by right)
theorem vch (T:Txt K mg a):wc P w K mg base CX0 1 a.f_q32 a.d_q32 ["self","chances"] (yll K a):=by
 refine T.y_q32.F.ok vaj (fun vs H Q E h=>?_) (fun Z A J s H vs Q E hr h=>?_)
 ·obtain ⟨p,dx,l,c,I,G,n,rfl,_⟩:=h
  rfl
 ·obtain ⟨p,dx,l,c,I,G,n,rfl,S,U,e,Y,⟨X,z⟩,L,k⟩:=h
  refine ⟨_,(yf (y7 (yr vq (yt (j6 rfl) rfl T.z_sum (by right) (yb (yi0 (js:=[]) (ys:=[]) (xs:=["weight","chance"]) (g:=yx2 K 2 (ja (w4 0) (ja (w4 1) yqn))) rfl (yrs rfl T.z_zip (yb (yq (pv 0) rfl) (yb (pv 1) ye (yc rfl)) (yc rfl))) (fun C s2 j fp=>(yr wv (pv 0) (pv 1))) rfl (fun C s2 j fp=>yoa rfl (zz (xc (i:=0) (show List.Nodup ((["weight","chance"]:List Str)++([]:List Str)) by right) rfl (Or.inl rfl)) (zz (xc (i:=1) (show List.Nodup ((["weight","chance"]:List Str)++([]:List Str)) by right) rfl (Or.inl rfl)) yh1))) rfl (hyc:=vd) (hrel:=vd)) ye (yc rfl))) (yt (j6 rfl) rfl T.z_sum (by right) (yb (yq (pv 0) rfl) ye (yc rfl)))))),?_⟩
  try dsimp only [vz]
  refine yn (σ':=[some _,some _]) rfl ?_
  have d:G.length=I.length:=by rw [e.len,Y.len]
  rfl'
  refine ⟨l,c,rfl,⟨_,_,SqL.of z,L⟩,fun D N=>?_⟩
  refine ydc (fun i=>V.int ((I[i]?).getD 0 * (G[i]?).getD 0)) (SqL.of z) L (by rw [List.length_map,List.length_map,d]) N (fun i x y j v a0 R hy f b q r=>?_) (fun j f b=>?_)
  ·obtain ⟨v1,v2,rfl⟩:=yn5 r
   obtain ⟨w,rfl,M,wi,il⟩:=yag R
   obtain ⟨u,rfl,um,ui,_⟩:=yag hy
   have w1:=e.one w M
   have w2:=e.top w M
   have O:=f.trans (vv (o:=HO.tup [V.int w,V.int u]) q)
   have m:=zq (o':=HO.tup [V.int w,V.int u]) q b
   have t:upd j v (HO.tup [V.int w,V.int u]) v=some (.tup [V.int w,V.int u]):=ya
   generalize upd j v (HO.tup [V.int w,V.int u])=H3 at O m t
   refine yn1 (SqT.of t) rfl ?_
   show ja (w4 0) (ja (w4 1) yqn) [V.int w,V.int u] (v1 :: v2 :: w5 [] [some (V.ref p),some (V.ref c)]) H3 _
   rfl'
   refine ⟨⟨[some (.int w),some (.int u)],rfl,rfl⟩,?_⟩
   rfl'
   refine Mp.doneR N (vx (by rw [List.length_map,e.len]; omega)) (by rw [List.length_map]; exact il) O m ?_
   rw [wi,ui]
   rfl
  ·have b:=yin b (ysf (g:=fun w c=>w * c) d)
   have W:=f _ _ X
   have B:=f _ _ z
   have p1:=e.pos S
   have p2:=e.small U
   rfl'
   refine ⟨D,_,rfl,SqL.of b,?_⟩
   rfl'
   refine ⟨l,_,rfl,SqL.of B,?_⟩
   rfl'
   exact k _ f
theorem ydn:yk ["self","chances","bit","shares","whole","own","grown","dropped"] ["self","chances","bit"] (yg yxg):=wx (by right)
theorem vbv (T:Txt K mg a):wc P w K mg base (CXe P w) 5 a.f_q33 a.d_q33 ["self","chances","bit"] (ymd K a a.C_NB):=by
 refine T.y_q33.F.okE ydn (fun vs H Q E h=>?_) (fun a8 A a6 s H vs Q E hr h=>?_)
 ·obtain ⟨p,dx,l,c,J,I,n,x,m,rfl,_⟩:=h
  rfl
 ·obtain ⟨p,dx,l,c,J,I,n,x,m,rfl,n1,n6,hw,hc,⟨hp,hl⟩,hq,ty,k1,k2⟩:=h
  refine yo (yu (vw (yct T) (hr.mono (by decide)) rfl T.y_q10.m T.y_q10.F.kp T.y_q10.B .nil yx (yb (pv 2) ye (yc rfl)))) ?_
  refine yo (ypo (i:=3) (js:=[2]) (ys:=["bit"]) (xs:=["weight","chance"]) (g:=yx2 K 2 (ja (w4 0) (ja (w4 1) yqn))) ydn.nd rfl rfl rfl (yrs rfl T.z_zip (yb (yq (pv 0) rfl) (yb (pv 1) ye (yc rfl)) (yc rfl))) (fun C s2 L fp=>(yr wv (pv 0) (vw (va5 T) (hr.mono (by decide)) rfl T.y_q11.m T.y_q11.F.kp T.y_q11.B .nil wj (yb (pv 1) (yb (pv 2) ye (yc rfl)) (yc rfl))))) rfl (fun C s2 L fp=>yoa rfl (zz (xc (i:=0) (show List.Nodup ((["weight","chance"]:List Str)++(["bit"]:List Str)) by right) rfl (Or.inl rfl)) (zz (xc (i:=1) (show List.Nodup ((["weight","chance"]:List Str)++(["bit"]:List Str)) by right) rfl (Or.inl rfl)) yh1))) rfl (hyc:=(all_cons rfl vd)) (hrel:=(all_cons rfl vd))) ?_
  refine yo (yy (i:=4) ydn.nd rfl (Or.inr rfl) (yt (j6 rfl) rfl T.z_sum (by right) (yb (pv 3) ye (yc rfl)))) ?_
  refine yo (yy (i:=5) ydn.nd rfl (Or.inr rfl) (yr wv (vo rfl T.c_OWN_PARTS) (yt yz rfl T.z_len (by right) (yb (pv 3) ye (yc rfl))))) ?_
  refine yo (yip (i:=6) (js:=[4,5]) (ys:=["whole","own"]) ydn.nd rfl rfl rfl (xx (pv 3)) (fun C s2 L fp=>(yr we (yr wv (pv 2) (pv 0)) (pv 1))) rfl rfl (hyc:=(all_cons rfl (all_cons rfl vd))) (hrel:=(all_cons rfl (all_cons rfl vd)))) ?_
  refine yo (yy (i:=7) ydn.nd rfl (Or.inr rfl) (yt (ygc rfl) rfl T.z_max (by right) (yb (yr ur (yjc PySem.F.plainAttrs_int PySem.F.slot_int_bit_length PySem.F.type_int_bit_length ys6 (yt (j6 rfl) rfl T.z_sum (by right) (yb (pv 6) ye (yc rfl)))) (vo rfl T.c_MOST_FIGURES)) (yb yi ye (yc rfl)) (yc rfl)))) ?_
  refine ⟨_,(yf (y9 (pv 0) (w9 (js:=[7]) (ys:=["dropped"]) rfl (xx (pv 6)) (fun C s2 L fp=>(yr yrl (pv 0) (pv 1))) rfl rfl (hyc:=(all_cons rfl vd)) (hrel:=(all_cons rfl vd))) rfl)),?_⟩
  try dsimp only [vz]
  refine yn (σ':=[some _,some _,some _,none,none,none,none,none]) rfl ?_
  have j:I.length=J.length:=by rw [hw.len,hc.len]
  rfl'
  refine ⟨x,m,rfl,ty,fun hx=>?_,k2⟩
  obtain ⟨b,rfl,b0,b1⟩:=yjr hx
  have k:=k1 b rfl b0 b1
  rfl'
  refine ⟨l,c,rfl,⟨_,_,SqL.of hl,hq⟩,fun D hD=>?_⟩
  refine ydc (fun i=>V.int ((J[i]?).getD 0 * giv ((I[i]?).getD 0) b)) (SqL.of hl) hq (by rw [List.length_map,List.length_map,j]) hD (fun i x y L tt a9 hx R S d a0 a1=>?_) (fun L S d=>?_)
  ·obtain ⟨v1,v2,rfl⟩:=yn5 a1
   obtain ⟨w,rfl,wm,wi,il⟩:=yag hx
   obtain ⟨u,rfl,um,ui,_⟩:=yag R
   have w1:=hw.one w wm
   have w2:=hw.top w wm
   have a4:=yjt (yz9 hc um)
   have a7:=yhx b0 b1
   have M:=S.trans (vv (o:=HO.tup [V.int w,V.int u]) a0)
   have Y:=zq (o':=HO.tup [V.int w,V.int u]) a0 d
   have a2:upd L tt (HO.tup [V.int w,V.int u]) tt=some (.tup [V.int w,V.int u]):=ya
   generalize upd L tt (HO.tup [V.int w,V.int u])=H3 at M Y a2
   refine yn1 (SqT.of a2) rfl ?_
   show ja (w4 0) (ja (w4 1) yqn) [V.int w,V.int u] (v1 :: v2 :: w5 [2] [some (V.ref p),some (V.ref c),some (V.int b),none,none,none,none,none]) H3 _
   rfl'
   refine ⟨⟨[some (.int w),some (.int u)],rfl,rfl⟩,?_⟩
   rfl'
   refine ⟨.int u,_,.int b,_,rfl,.int u,.int b,fun z=>(by rw [a4] at z; cases z),fun _ z=>(by rw [a7] at z; cases z),fun c' b' ec eb _ _=>?_⟩
   cases ec
   cases eb
   rfl'
   refine Mp.doneR hD (vx (by rw [List.length_map,hw.len]; omega)) (by rw [List.length_map]; exact il) M Y ?_
   rw [wi,ui]
   rfl
  ·have d:L D=some (.lst ((shL J I b).map V.int)):=yin d (ysf (g:=fun w c=>w * giv c b) j)
   have q:(shL J I b).length=n:=by rw [yhv j.symm,hw.len]
   have a3:=S _ _ hp
   have ek:lrn J I b=(grL (shL J I b)).map fun v=>v / 2 ^ tOf (grL (shL J I b)).sum:=rfl
   rw [ek] at k
   generalize shL J I b=N at d q k
   have eg:grL N=N.map fun s=>31 * (n:Int) * s+N.sum:=by rw [<- q]; rfl
   rfl'
   refine ⟨D,_,rfl,SqL.of d,?_⟩
   rfl'
   refine zw (SqL.of d) ?_
   rw [List.length_map,q]
   rfl'
   refine ⟨D,rfl,⟨_,SqL.of d⟩,fun G hG=>?_⟩
   refine ycd (onI fun s=>31 * (n:Int) * s+N.sum) (SqL.of d) hG (fun i y H3 R M f=>?_) (fun H3 M f=>?_)
   ·obtain ⟨s',rfl,_,_,il⟩:=yag R
    show tOp _ _ _ (some (V.int s') :: w5 [4,5] [some (V.ref p),some (V.ref c),some (V.int b),some (V.ref D),some (V.int N.sum),some (V.int (31 * (n:Int))),none,none]) H3 _
    rfl'
    exact Mp.done hG (vx (by rw [List.length_map,q]; omega)) R M f rfl
   ·rw [ynk,<- eg] at f
    have W:(grL N).length=n:=by rw [ym8,q]
    generalize grL N=O at f k W
    have X:=M _ _ a3
    rfl'
    refine ⟨G,_,rfl,SqL.of f,?_⟩
    rfl'
    refine ⟨_,_,rfl,?_⟩
    have et:(if (0:Int) > ((Builtin.Int.intBits O.sum:Nat):Int) - 48 then (0:Int) else ((Builtin.Int.intBits O.sum:Nat):Int) - 48)=((tOf O.sum:Nat):Int):=by
     show _=(((yqg O.sum) - 48:Nat):Int)
     have e:Builtin.Int.intBits O.sum=yqg O.sum:=rfl
     rw [e]
     split <;> omega
    rw [et]
    generalize tOf O.sum=t at k
    rfl'
    refine ⟨G,rfl,⟨_,SqL.of f⟩,fun Z U=>?_⟩
    refine ycd (onI fun v=>v / 2 ^ t) (SqL.of f) U (fun i y H4 R S4 r=>?_) (fun H4 S4 r=>?_)
    ·obtain ⟨s',rfl,_,_,il⟩:=yag R
     show tOp _ _ _ (some (V.int s') :: w5 [7] [some (V.ref p),some (V.ref c),some (V.int b),some (V.ref D),some (V.int N.sum),some (V.int (31 * (n:Int))),some (V.ref G),some (V.int (t:Int))]) H4 _
     rfl'
     refine i_I (Int.natCast_nonneg t) ?_
     exact Mp.done U (vx (by rw [List.length_map,W]; omega)) R S4 r rfl
    ·rw [ynk] at r
     have aa:=S4 _ _ X
     rfl'
     have nz:Z≠p:=fun z=>by rw [z,X] at U; cases U
     have a5:=S.trans (M.trans S4)
     exact k Z _ ((S.trans M).free U) ⟨ya,yj nz r⟩ ((But.of a5).trans But.upd)
theorem vcl:yk ["self"] ["self"] (yg ywv):=wx (by right)
theorem ybm.sqt {K:W.Frag} {a:Ads} {H H':Hp} {p dx lk d:Addr} {kd:Fin 3} {f:List Int->Option Slt} {O:Addr->Prop} {m:Nat} (h:ybm a H p dx lk d kd f O m) (B:yqq O H H') {t:Addr} {xs:List V} (e:SqT K H t xs):SqT K H' t xs:=by
 have i:∀ o:HO,H t=some o->vdz o=false->H' t=some o:=fun o g j=>B _ _ g fun z=>by
  obtain ⟨k,c,b⟩:=h.own t z
  rw [g] at c
  cases c
  rw [j] at b
  cases b
 rcases e with (e | ⟨o,e⟩) | e
 ·exact .inl (.inl (i _ e rfl))
 ·exact .inl (.inr ⟨o,i _ e rfl⟩)
 ·exact .inr e
theorem ybm.up {a:Ads} {H:Hp} {p dx lk d:Addr} {kd:Fin 3} {f:List Int->Option Slt} {O:Addr->Prop} {m m':Nat} (h:ybm a H p dx lk d kd f O m) (hm:m <= m'):ybm a H p dx lk d kd f O m':=by
 obtain ⟨c,b,g,i,e⟩:=h.tb
 exact ⟨h.me,h.own,h.np,h.dO,h.ky,c,b,g,Nat.le_trans i hm,e⟩
theorem zg.mvT {K:W.Frag} {H H':Hp} {k:Addr} {x:V} {ps:List Int} (h:zg K H k x ps) (h1:∀ t xs,SqT K H t xs->SqT K H' t xs):zg K H' k x ps:=by
 obtain ⟨t,c,a,b,d⟩:=h
 exact ⟨t,h1 _ _ c,h1 _ _ a,b,d⟩
def refs (g:Nat->Addr) (n:Nat):List V:=(List.range n).map fun i=>V.ref (g i)
theorem wa (g:Nat->Addr) (n:Nat):(refs g n).length=n:=by unfold refs; rw [List.length_map,List.length_range]
theorem j8 {g:Nat->Addr} {n i:Nat} {x:V} (h:(refs g n)[i]?=some x):x=.ref (g i)/\i < n:=by
 have a:i < n:=by
  have:=(List.getElem?_eq_some_iff.mp h).1
  rw [wa] at this
  exact this
 unfold refs at h
 rw [List.getElem?_map,List.getElem?_range a] at h
 exact ⟨(Option.some.inj h).symm,a⟩
theorem u4 (g:Nat->Addr) (n:Nat):refs g (n+1)=refs g n++[.ref (g n)]:=by
 unfold refs
 rw [List.range_succ,List.map_append]
 rfl
theorem uz {g h:Nat->Addr} {n:Nat} (e:∀ i,i < n->g i=h i):refs g n=refs h n:=by
 unfold refs
 exact List.map_congr_left fun i a=>by rw [e i (List.mem_range.mp a)]
structure Bks (K:W.Frag) (a:Ads) (H:Hp) (n:Nat) (bk dx lk dd:Nat->Addr) (kd:Nat->Fin 3) (ps:Nat->List Int) (f:Nat->List Int->Option Slt) (O:Nat->Addr->Prop) (m:Nat):Prop where
 look:∀ i,i < n->zg K H (lk i) (.str (kdS (kd i))) (ps i)
 b:∀ i,i < n->ybm a H (bk i) (dx i) (lk i) (dd i) (kd i) (f i) (O i) m
 dj:∀ i j c,i < n->j < n->i≠j->O i c->¬ O j c
 nb:∀ i j,i < n->j < n->¬ O i (bk j)
def AtS (H:Hp) (d:Addr) (k:List Int) (q:Addr):Prop:=∀ kvs,H d=some (.dT kvs)->zd kvs (kI k)=some (.ref q)
theorem ybm.slot {a:Ads} {H:Hp} {p dx lk d q:Addr} {kd:Fin 3} {f:List Int->Option Slt} {O:Addr->Prop} {m:Nat} {k:List Int} {s:Slt} (h:ybm a H p dx lk d kd f O m) (hf:f k=some s) (hq:AtS H d k q):∃ dq,H q=some (oS a dq s)/\s.ok/\s.kind=kd/\O q:=by
 obtain ⟨b,i,c,v,u,r,t⟩:=h.tb
 obtain ⟨n,l,j,o,g⟩:=r k s hf
 have e:=hq b c
 rw [n] at e
 injection e with e
 injection e with e
 subst e
 exact ⟨_,l,j,o,g⟩
theorem ybm.told {a:Ads} {H H':Hp} {p dx lk d q dq:Addr} {kd:Fin 3} {f:List Int->Option Slt} {O:Addr->Prop} {m:Nat} {k:List Int} {s:Slt} {b:Int} (h:ybm a H p dx lk d kd f O m) (hf:f k=some s) (hq:AtS H d k q) (b0:0 <= b) (b1:b <= 1)
  (h3:H' q=some (oS a dq (s.see b))) (B:But q H H'):ybm a H' p dx lk d kd (ye9 f k (s.see b)) O m:=by
 have A:=h.me
 obtain ⟨r,l,v,R,x,K,G⟩:=id h.tb
 obtain ⟨J,L,T,Y,I⟩:=K k s hf
 have e:=hq r v
 rw [J] at e
 injection e with e
 injection e with e
 have D:p≠q:=fun z=>h.np (by rw [z,<- e]; exact I)
 have u:d≠q:=fun z=>by
  obtain ⟨C,fs,F⟩:=ydl a (l k).2 s
  rw [e,<- z,v,F] at L
  cases L
 refine ⟨B _ _ A D,fun c M=>?_,h.np,h.dO,h.ky.mv v (B _ _ v u),r,fun j=>if j=k then (q,dq) else l j,B _ _ v u,R,fun j i=>?_,fun j n i=>?_,fun y E s1 s2 Z Q el=>?_⟩
 ·obtain ⟨o,ho,hi⟩:=h.own c M
  by_cases z:c=q
  ·rw [z]
   obtain ⟨C,fs,F⟩:=ydl a dq (s.see b)
   exact ⟨_,h3,by rw [F]; rfl⟩
  ·exact ⟨o,B _ _ ho z,hi⟩
 ·refine x j ?_
  unfold ye9 at i
  split at i
  ·cases i
  ·exact i
 ·unfold ye9 at i
  by_cases z:j=k
  ·rw [if_pos z] at i
   cases i
   subst z
   dsimp only
   rw [if_pos rfl]
   exact ⟨by rw [J,e],h3,Slt.see_ok T b0 b1,(ypv s b).trans Y,e ▸ I⟩
  ·rw [if_neg z] at i
   obtain ⟨p1,P,p3,W,X⟩:=K j n i
   dsimp only
   rw [if_neg z]
   exact ⟨p1,B _ _ P (fun w=>z (G j k n s i hf (w.trans e.symm))),p3,W,X⟩
 ·have g:∀ j n,ye9 f k (s.see b) j=some n->∃ t,f j=some t:=fun j n h=>by
   unfold ye9 at h
   by_cases z:j=k
   ·exact ⟨s,by rw [z]; exact hf⟩
   ·rw [if_neg z] at h
    exact ⟨n,h⟩
  obtain ⟨t1,U⟩:=g y s1 Z
  obtain ⟨N,S⟩:=g E s2 Q
  refine G y E t1 N U S ?_
  have ys2:∀ j,(if j=k then ((q,dq):Addr × Addr) else l j).1=(l j).1:=fun j=>by
   by_cases z:j=k
   ·rw [if_pos z,z]
    exact e.symm
   ·rw [if_neg z]
  rw [<- ys2 y,<- ys2 E]
  exact el
theorem AtS.told {a:Ads} {H H':Hp} {p dx lk d q:Addr} {kd:Fin 3} {f:List Int->Option Slt} {O:Addr->Prop} {m:Nat} {k:List Int} (h:ybm a H p dx lk d kd f O m) {r:Addr} (hd:d≠r) (B:But r H H') (hq:AtS H d k q):AtS H' d k q:=fun i e=>by
 obtain ⟨c,g,b,_⟩:=h.tb
 rw [B _ _ b hd] at e
 cases e
 exact hq _ b
section
variable {K:W.Frag} {a:Ads} {H H':Hp} {n m:Nat} {bk dx lk dd:Nat->Addr} {kd:Nat->Fin 3} {ps:Nat->List Int} {f:Nat->List Int->Option Slt} {O:Nat->Addr->Prop}
theorem Bks.frame (h:Bks K a H n bk dx lk dd kd ps f O m) {O2:Addr->Prop} (B:yqq O2 H H') (dj:∀ i b,i < n->O i b->¬ O2 b) (hp:∀ i,i < n->¬ O2 (bk i)) (ht:∀ t xs,SqT K H t xs->SqT K H' t xs):Bks K a H' n bk dx lk dd kd ps f O m :=
 ⟨fun i c=>(h.look i c).mvT ht,fun i c=>(h.b i c).frame B (fun b d=>dj i b c d) (hp i c),h.dj,h.nb⟩
theorem Bks.same (h:Bks K a H n bk dx lk dd kd ps f O m) (S:y0 H H'):Bks K a H' n bk dx lk dd kd ps f O m :=
 h.frame (O2:=fun _=>False) (fun b o e _=>S b o e) (fun _ _ _ _ z=>z) (fun _ _ z=>z) fun _ _ e=>S.tup e
theorem Bks.move (h:Bks K a H n bk dx lk dd kd ps f O m) {j m':Nat} (hj:j < n) {f':List Int->Option Slt} {O':Addr->Prop} (hm:m <= m') (hb:ybm a H' (bk j) (dx j) (lk j) (dd j) (kd j) f' O' m') (hO:∀ c,O' c->O j c\/H c=none) (B:yqq (O j) H H') :
  Bks K a H' n bk dx lk dd kd ps (fun i=>if i=j then f' else f i) (fun i=>if i=j then O' else O i) m':=by
 have y:=h.b j hj
 have g:∀ q c,q < n->q≠j->O q c->¬ O' c:=fun q c C A w E=>by
  rcases hO c E with v | v
  ·exact h.dj q j c C hj A w v
  ·obtain ⟨o,D,_⟩:=(h.b q C).own c w
   rw [v] at D
   cases D
 refine ⟨fun i d=>(h.look i d).mvT fun t F e=>y.sqt B e,fun i d=>?_,fun i l c d r u p k=>?_,fun i l d r e=>?_⟩
 ·try dsimp only
  by_cases z:i=j
  ·subst z
   rw [if_pos rfl,if_pos rfl]
   exact hb
  ·rw [if_neg z,if_neg z]
   exact ((h.b i d).frame B (fun b x=>h.dj i j b d hj z x) (h.nb j i hj d)).up hm
 ·try dsimp only at p k
  by_cases z1:i=j
  ·rw [if_pos z1] at p
   have s:l≠j:=fun w=>u (z1.trans w.symm)
   rw [if_neg s] at k
   exact g l c r s k p
  ·rw [if_neg z1] at p
   by_cases s:l=j
   ·rw [if_pos s] at k
    exact g i c d z1 p k
   ·rw [if_neg s] at k
    exact h.dj i l c d r u p k
 ·try dsimp only at e
  by_cases z:i=j
  ·rw [if_pos z] at e
   rcases hO _ e with v | v
   ·exact h.nb j l hj r v
   ·rw [(h.b l r).me] at v
    cases v
  ·rw [if_neg z] at e
   exact h.nb i l d r e
theorem AtS.move (h:Bks K a H n bk dx lk dd kd ps f O m) {i j:Nat} (hi:i < n) (hj:j < n) (hij:i≠j) (B:yqq (O j) H H') {k:List Int} {q:Addr} (hq:AtS H (dd i) k q):AtS H' (dd i) k q:=fun l e=>by
 obtain ⟨d,g,c,_⟩:=(h.b i hi).tb
 rw [B _ _ c (h.dj i j _ hi hj hij (h.b i hi).dO)] at e
 cases e
 exact hq _ c
theorem Bks.nlst (h:Bks K a H n bk dx lk dd kd ps f O m) {l:Addr} {xs:List V} (hl:H l=some (.lst xs)):∀ i,i < n->¬ O i l:=fun i e z=>by
 obtain ⟨o,d,c⟩:=(h.b i e).own l z
 rw [hl] at d
 cases d
 cases c
end
def yqk (n:Nat) (kd:Nat->Fin 3) (f:Nat->List Int->Option Slt) (g:Nat->List Int->Slt):Prop:=∀ i,i < n->∀ k,(f i k).getD (kd0 (kd i))=g i k
theorem yqk.put {n:Nat} {kd:Nat->Fin 3} {f:Nat->List Int->Option Slt} {g:Nat->List Int->Slt} (h:yqk n kd f g) (j:Nat) (hj:j < n) (k:List Int):yqk n kd (fun i=>if i=j then ye9 (f j) k ((f j k).getD (kd0 (kd j))) else f i) g:=fun i b a=>by
 dsimp only
 by_cases z:i=j
 ·subst z
  rw [if_pos rfl]
  unfold ye9
  by_cases w:a=k
  ·rw [if_pos w,w]
   exact h i b k
  ·rw [if_neg w]
   exact h i b a
 ·rw [if_neg z]
  exact h i b a
def yj9 (K:W.Frag) (a:Ads):Sp:=fun vs H Q _=>∃ (p dp ll bl mp el pl0:Addr) (nd:Int) (sg:List Int) (n m:Nat) (bk dx lk dd:Nat->Addr) (kd:Nat->Fin 3) (ps:Nat->List Int) (f:Nat->List Int->Option Slt) (O:Nat->Addr->Prop) (g:Nat->List Int->Slt),vs=[.ref p] /\
 H p=some (.ins a.C_Ft dp (uh (.ref ll) (.ref bl) (.ref mp) (.ref el) (.int nd) (.ref pl0)))/\H bl=some (.lst (refs bk n))/\H el=some (.lst (sg.map V.int))/\Bks K a H n bk dx lk dd kd ps f O m/\yqk n kd f g/\n <= 6/\m+10 < 1000000/\(∀ i,i < n->¬ O i p) /\
 ∀ (pl:Addr) (sl:Nat->Addr) (f':Nat->List Int->Option Slt) (O':Nat->Addr->Prop) (H':Hp),H' p=some (.ins a.C_Ft dp (uh (.ref ll) (.ref bl) (.ref mp) (.ref el) (.int nd) (.ref pl)))->H' pl=some (.lst (refs sl n))->H pl=none ->
  Bks K a H' n bk dx lk dd kd ps f' O' (m+n)->yqk n kd f' g->(∀ j,j < n->(∃ s,f' j (ctx (ps j) sg nd)=some s)/\AtS H' (dd j) (ctx (ps j) sg nd) (sl j))->(∀ j c,j < n->O' j c->O j c\/H c=none) ->
  (∀ c o,H c=some o->c≠p->(∀ j,j < n->¬ O j c)->H' c=some o)->(∀ c o,H c=some o->∃ o',H' c=some o')->Q .non H'
theorem yr5 (T:Txt K mg a):wc P w K mg base CX0 5 a.f_q35 a.d_q35 ["self"] (yj9 K a):=by
 refine T.y_q35.F.ok vcl (fun vs H Q E h=>?_) (fun ah A ag s H vs Q E hr h=>?_)
 ·obtain ⟨p,dp,ll,bl,mp,el,ab,N,S,n,m,Y,dx,lk,dd,kd,M,f,O,g,rfl,_⟩:=h
  rfl
 ·obtain ⟨p,dp,ll,bl,mp,el,ab,N,S,n,m,Y,dx,lk,dd,kd,M,f,O,g,rfl,hp,W,a3,hB,hA,n6,hm,np,k⟩:=h
  refine ⟨_,(yf (y9 (pv 0) (w9 (js:=[0]) (ys:=["self"]) rfl (xx (yq (pv 0) rfl)) (fun C s2 H2 fp=>(xo (pv 0) T.cl_Book T.y_q30.m (vbp T) (hr.mono (by decide)) T.y_q30.B .nil vj (yb (yhq (K:=K) rfl (pv 1) rfl) (yb (yhq (K:=K) rfl (pv 1) rfl) ye (yc rfl)) (yc rfl)))) rfl rfl (hyc:=(all_cons rfl vd)) (hrel:=(all_cons rfl vd))) rfl)),?_⟩
  try dsimp only [vz]
  refine yn (σ':=[some _]) rfl ?_
  rfl'
  refine ⟨bl,rfl,⟨_,SqL.of W⟩,fun D R=>?_⟩
  have aa:=hB.nlst W
  have a8:=hB.nlst a3
  refine ydd (K:=K) (xs:=refs Y n) (fun i G=>∃ (y:Nat->Addr) (L:Nat->List Int->Option Slt) (J:Nat->Addr->Prop),G D=some (.lst (refs y i))/\Bks K a G n Y dx lk dd kd M L J (m+i)/\yqk n kd L g/\(∀ j,j < i->(∃ s,L j (ctx (M j) S N)=some s)/\AtS G (dd j) (ctx (M j) S N) (y j)) /\
   (∀ j c,j < n->J j c->O j c\/H c=none)/\(∀ c o,H c=some o->(∀ j,j < n->¬ O j c)->G c=some o)/\(∀ c o,H c=some o->∃ o',G c=some o'))
   ⟨fun _=>0,f,O,ya,hB.same (vv R),hA,fun j d=>absurd d (Nat.not_lt_zero j),fun j c _ z=>.inl z,fun c o e _=>zq R e,fun c o e=>⟨o,zq R e⟩⟩ (fun i G _ z=>?_) (fun i x G hx hi z=>?_) (fun G z=>?_)
  ·obtain ⟨_,_,_,_,_,_,_,_,w,_⟩:=z
   exact SqL.of (w _ _ W aa)
  ·obtain ⟨y,L,J,gD,r,gA,gS,gO,Z,gL⟩:=z
   obtain ⟨rfl,l⟩:=j8 hx
   have I:=Z _ _ hp np
   have a1:=Z _ _ a3 a8
   have ai:=(r.b i l).me
   show yh7 _ _ _ _ _ _ _ (some (V.ref (Y i)) :: w5 [0] [some (V.ref p)]) G _
   rfl'
   refine ⟨Y i,dx i,lk i,dd i,el,kd i,L i,J i,m+i,M i,S,N,rfl,r.b i l,by omega,r.look i l,SqL.of a1,fun q O2 G2 a6 hv a5 a9 B2=>?_⟩
   have nD:=r.nlst gD
   have u:G2 D=some (.lst (refs y i)):=B2 _ _ gD (nD i l)
   refine ua (n:=(refs Y n).length) u (vx (by rw [wa]; omega)) hi ?_
   have M2:=r.move l (Nat.le_succ (m+i)) a6 a5 B2
   have a4:=M2.nlst u
   have X:∀ c o,G2 c=some o->c≠D->upd G2 D (.lst (refs y i++[V.ref q])) c=some o:=fun c o e U=>yj U e
   have M3:=M2.frame (O2:=fun c=>c=D) (fun c o e U=>X c o e U) (fun j c d w z=>a4 j d (z ▸ w)) (fun j d z=>by
    have:=(M2.b j d).me
    rw [z,u] at this
    cases this) (fun t xs e=>by
    rcases e with (e | ⟨o,e⟩) | e
    ·exact .inl (.inl (X _ _ e (fun z=>by rw [z,u] at e; cases e)))
    ·exact .inl (.inr ⟨o,X _ _ e (fun z=>by rw [z,u] at e; cases e)⟩)
    ·exact .inr e)
   have up:∀ j,j < n->AtS G2 (dd j) (ctx (M j) S N) (if j=i then q else y j)->AtS (upd G2 D (.lst (refs y i++[V.ref q]))) (dd j) (ctx (M j) S N) (if j=i then q else y j):=fun j d h =>
    h.told (M2.b j d) (fun z=>a4 j d (by rw [<- z]; exact (M2.b j d).dO)) (fun c o e U=>X c o e U)
   refine ⟨fun j=>if j=i then q else y j,_,_,?_,M3,gA.put i l _,fun j d=>?_,fun j c d w=>?_,fun c o e no=>?_,fun c o e=>?_⟩
   ·rw [ya,u4,if_pos rfl]
    congr 3
    exact uz fun j d=>(if_neg (by omega)).symm
   ·by_cases z:j=i
    ·subst z
     refine ⟨⟨(L j (ctx (M j) S N)).getD (kd0 (kd j)),?_⟩,up j l ?_⟩
     ·try dsimp only
      rw [if_pos rfl]
      unfold ye9
      rw [if_pos rfl]
     ·rw [if_pos rfl]
      exact hv
    ·have a2:j < n:=by omega
     obtain ⟨⟨s',ae⟩,ac⟩:=gS j (by omega)
     refine ⟨⟨s',?_⟩,up j a2 ?_⟩
     ·try dsimp only
      rw [if_neg z]
      exact ae
     ·rw [if_neg z]
      exact ac.move r a2 l z B2
   ·try dsimp only at w
    by_cases z:j=i
    ·subst z
     rw [if_pos rfl] at w
     rcases a5 c w with v | v
     ·exact gO j c d v
     ·refine .inr ?_
      cases e:H c with
      | none=>rfl
      | some o =>
       obtain ⟨o',w'⟩:=gL c o e
       rw [w'] at v
       cases v
    ·rw [if_neg z] at w
     exact gO j c d w
   ·have hG:=Z c o e no
    have nc:¬ J i c:=fun w=>by
     rcases gO i c l w with v | v
     ·exact no i l v
     ·rw [e] at v
      cases v
    refine X _ _ (B2 _ _ hG nc) (fun z=>?_)
    rw [z,R] at e
    cases e
   ·obtain ⟨o1,w1⟩:=gL c o e
    have a0:c≠D:=fun z=>by rw [z,R] at e; cases e
    by_cases w2:J i c
    ·obtain ⟨o2,af,_⟩:=a6.own c (a9 c w2)
     exact ⟨o2,X _ _ af a0⟩
    ·exact ⟨o1,X _ _ (B2 _ _ w1 w2) a0⟩
  ·obtain ⟨y,L,J,gD,r,gA,gS,gO,Z,gL⟩:=z
   rw [wa] at gD r gS
   have I:=Z _ _ hp np
   rfl'
   have ad:D≠p:=fun z=>by rw [z,hp] at R; cases R
   have BP:But p G (upd G p (.ins a.C_Ft dp (uh (.ref ll) (.ref bl) (.ref mp) (.ref el) (.int N) (.ref D)))):=But.upd
   have a7:∀ i,i < n->¬ J i p:=fun i hi w=>by
    rcases gO i p hi w with v | v
    ·exact np i hi v
    ·rw [hp] at v; cases v
   have M3:=r.frame (O2:=fun c=>c=p) (fun c o e U=>BP c o e U) (fun j c d w z=>a7 j d (z ▸ w)) (fun j d z=>by
    have:=(r.b j d).me
    rw [z,I] at this
    injection this with this
    injection this with _ _ e
    exact absurd (congrArg List.length e) (show ¬ (6=2) by decide)) (fun t xs e=>by
    rcases e with (e | ⟨o,e⟩) | e
    ·exact .inl (.inl (BP _ _ e (fun z=>by rw [z,I] at e; cases e)))
    ·exact .inl (.inr ⟨o,BP _ _ e (fun z=>by rw [z,I] at e; cases e)⟩)
    ·exact .inr e)
   refine k D y L J _ ya (yj ad gD) R M3 gA (fun j d=>⟨(gS j d).1,(gS j d).2.told (r.b j d) (fun z=>a7 j d (by rw [<- z]; exact (r.b j d).dO)) BP⟩) gO (fun c o e nc no=>BP _ _ (Z c o e no) nc) fun c o e=>?_
   by_cases zc:c=p
   ·rw [zc]
    exact ⟨_,ya⟩
   ·obtain ⟨o1,w1⟩:=gL c o e
    exact ⟨o1,BP _ _ w1 zc⟩
structure FA where
 dp:Addr
 ll:Addr
 bl:Addr
 mp:Addr
 mx:Addr
 ml:Addr
 el:Addr
 pl:Addr
 n:Nat
 bk:Nat->Addr
 dx:Nat->Addr
 lk:Nat->Addr
 dd:Nat->Addr
 sl:Nat->Addr
 kd:Nat->Fin 3
 ps:Nat->List Int
structure FX where
 g:Nat->List Int->Slt
 ws:List Int
 sg:List Int
 nd:Int
def FX.key (X:FX) (A:FA) (i:Nat):List Int:=ctx (A.ps i) X.sg X.nd
def FX.cs (X:FX) (A:FA):List Int:=(List.range A.n).map fun i=>(X.g i (X.key A i)).due
def ndN (nd b:Int):Int:=if 0 < nd then (if 256 <= 2 * nd+b then 0 else 2 * nd+b) else if b=1 then 1 else nd
def sgN (sg:List Int) (nd b:Int):List Int:=if 0 < nd then (if 256 <= 2 * nd+b then sg++[2 * nd+b - 256] else sg) else if b=1 then sg else []
def FX.see (X:FX) (A:FA) (b:Int):FX:={ g:=fun i k=>if k=X.key A i then (X.g i k).see b else X.g i k,ws:=lrn X.ws (X.cs A) b,sg:=sgN X.sg X.nd b,nd:=ndN X.nd b }
structure zh (K:W.Frag) (a:Ads) (H:Hp) (p:Addr) (A:FA) (X:FX) (f:Nat->List Int->Option Slt) (O:Nat->Addr->Prop) (m:Nat):Prop where
 me:H p=some (.ins a.C_Ft A.dp (uh (.ref A.ll) (.ref A.bl) (.ref A.mp) (.ref A.el) (.int X.nd) (.ref A.pl)))
 bl:H A.bl=some (.lst (refs A.bk A.n))
 el:H A.el=some (.lst (X.sg.map V.int))
 mx:yqp a A.mp A.mx A.ml X.ws H
 wok:WOk A.n X.ws
 pl:H A.pl=some (.lst (refs A.sl A.n))
 B:Bks K a H A.n A.bk A.dx A.lk A.dd A.kd A.ps f O m
 ag:yqk A.n A.kd f X.g
 at':∀ j,j < A.n->(∃ s,f j (X.key A j)=some s)/\AtS H (A.dd j) (X.key A j) (A.sl j)
 np:∀ i,i < A.n->¬ O i p
 nm:∀ i,i < A.n->¬ O i A.mp
 n1:1 <= A.n
 n6:A.n <= 6
theorem zh.same {K:W.Frag} {a:Ads} {H H':Hp} {p:Addr} {A:FA} {X:FX} {f:Nat->List Int->Option Slt} {O:Nat->Addr->Prop} {m:Nat} (h:zh K a H p A X f O m) (S:y0 H H'):zh K a H' p A X f O m :=
 ⟨S _ _ h.me,S _ _ h.bl,S _ _ h.el,h.mx.same S,h.wok,S _ _ h.pl,h.B.same S,h.ag,fun j c=>⟨(h.at' j c).1,fun k e=>by
  obtain ⟨d,i,g,_⟩:=(h.B.b j c).tb
  rw [S _ _ g] at e
  cases e
  exact (h.at' j c).2 _ g⟩,h.np,h.nm,h.n1,h.n6⟩
theorem zh.slot {K:W.Frag} {a:Ads} {H:Hp} {p:Addr} {A:FA} {X:FX} {f:Nat->List Int->Option Slt} {O:Nat->Addr->Prop} {m:Nat} (h:zh K a H p A X f O m) {j:Nat} (hj:j < A.n) :
  f j (X.key A j)=some (X.g j (X.key A j))/\(∃ dq,H (A.sl j)=some (oS a dq (X.g j (X.key A j))))/\(X.g j (X.key A j)).ok/\O j (A.sl j):=by
 obtain ⟨⟨s,d⟩,c⟩:=h.at' j hj
 have e:=h.ag j hj (X.key A j)
 rw [d] at e
 have e:s=X.g j (X.key A j):=e
 rw [<- e]
 obtain ⟨dq,i,l,o,k⟩:=(h.B.b j hj).slot d c
 exact ⟨d,⟨dq,i⟩,l,k⟩
theorem zh.cok {K:W.Frag} {a:Ads} {H:Hp} {p:Addr} {A:FA} {X:FX} {f:Nat->List Int->Option Slt} {O:Nat->Addr->Prop} {m:Nat} (h:zh K a H p A X f O m):COk A.n (X.cs A):=by
 refine ⟨by unfold FX.cs; rw [List.length_map,List.length_range],fun c d=>?_,fun c d=>?_⟩
 ·obtain ⟨j,b,rfl⟩:=List.mem_map.mp d
  exact (yjj (h.slot (List.mem_range.mp b)).2.2.1).1
 ·obtain ⟨j,b,rfl⟩:=List.mem_map.mp d
  exact (yjj (h.slot (List.mem_range.mp b)).2.2.1).2
theorem LkG.at' {K:W.Frag} {H:Hp} {lk tp:Addr} {kd:Fin 3} {ps:List Int} (h:LkG H (.ref lk) kd tp ps):zg K H lk (.str (kdS kd)) ps:=by
 obtain ⟨c,e,d,f,a⟩:=h
 cases e
 have a:=a
 unfold zn at a
 rw [Bool.and_eq_true,Bool.and_eq_true,List.all_eq_true] at a
 refine ⟨tp,SqT.of d,SqT.of f,fun p b=>?_,by have:=of_decide_eq_true a.1.1; rw [List.length_map] at this; exact this⟩
 have w:=a.1.2 (.int p) (List.mem_map.mpr ⟨p,b,rfl⟩)
 have w:(decide (1 <= p) && decide (p <= 8))=true:=w
 rw [Bool.and_eq_true] at w
 exact ⟨of_decide_eq_true w.1,of_decide_eq_true w.2⟩
theorem Bks.snoc {K:W.Frag} {a:Ads} {H:Hp} {n m:Nat} {bk dx lk dd:Nat->Addr} {kd:Nat->Fin 3} {ps:Nat->List Int} {f:Nat->List Int->Option Slt} {O:Nat->Addr->Prop} (h:Bks K a H n bk dx lk dd kd ps f O m)
  (hl:zg K H (lk n) (.str (kdS (kd n))) (ps n)) {q dq d:Addr} {f':List Int->Option Slt} {O':Addr->Prop} (hb:ybm a H q dq (lk n) d (kd n) f' O' m) (dj:∀ j c,j < n->O j c->¬ O' c) (n1:∀ j,j < n->¬ O j q) (n2:∀ j,j < n->¬ O' (bk j)) :
  Bks K a H (n+1) (upN bk n q) (upN dx n dq) lk (upN dd n d) kd ps (upN f n f') (upN O n O') m:=by
 refine ⟨fun i p=>?_,fun i p=>?_,fun i j c p s r o l=>?_,fun i j p s e=>?_⟩
 ·by_cases z:i=n
  ·rw [z]
   exact hl
  ·exact h.look i (by omega)
 ·by_cases z:i=n
  ·subst z
   rw [xg,xg,xg,xg,xg]
   exact hb
  ·have g:i < n:=by omega
   rw [xb g,xb g,xb g,xb g,xb g]
   exact h.b i g
 ·by_cases z:i=n
  ·subst z
   have k:j < i:=by omega
   rw [xg] at o
   rw [xb k] at l
   exact dj j c k l o
  ·have g:i < n:=by omega
   rw [xb g] at o
   by_cases w:j=n
   ·subst w
    rw [xg] at l
    exact dj i c g o l
   ·have k:j < n:=by omega
    rw [xb k] at l
    exact h.dj i j c g k r o l
 ·by_cases z:i=n
  ·subst z
   rw [xg] at e
   by_cases w:j=i
   ·subst w
    rw [xg] at e
    exact hb.np e
   ·have k:j < i:=by omega
    rw [xb k] at e
    exact n2 j k e
  ·have g:i < n:=by omega
   rw [xb g] at e
   by_cases w:j=n
   ·subst w
    rw [xg] at e
    exact n1 i g e
   ·have k:j < n:=by omega
    rw [xb k] at e
    exact h.nb i j g k e
def yqj (K:W.Frag) (a:Ads) (H G:Hp) (n:Nat) (bk dx lk dd:Nat->Addr) (kd:Nat->Fin 3) (ps:Nat->List Int) (f:Nat->List Int->Option Slt) (O:Nat->Addr->Prop):Prop :=
 Bks K a G n bk dx lk dd kd ps f O 0/\(∀ j k,j < n->f j k=none)/\(∀ j c,j < n->O j c->H c=none)/\(∀ j,j < n->H (bk j)=none)
theorem yqj.zero {K:W.Frag} {a:Ads} {H G:Hp} {bk dx lk dd:Nat->Addr} {kd:Nat->Fin 3} {ps:Nat->List Int} {f:Nat->List Int->Option Slt} {O:Nat->Addr->Prop}:yqj K a H G 0 bk dx lk dd kd ps f O :=
 ⟨⟨fun i b=>absurd b (Nat.not_lt_zero i),fun i b=>absurd b (Nat.not_lt_zero i),fun i _ _ b=>absurd b (Nat.not_lt_zero i),fun i _ b=>absurd b (Nat.not_lt_zero i)⟩,fun i _ b=>absurd b (Nat.not_lt_zero i),fun i _ b=>absurd b (Nat.not_lt_zero i),fun i b=>absurd b (Nat.not_lt_zero i)⟩
theorem yqj.next {K:W.Frag} {a:Ads} {H G G2:Hp} {n:Nat} {bk dx lk dd:Nat->Addr} {kd:Nat->Fin 3} {ps:Nat->List Int} {f:Nat->List Int->Option Slt} {O:Nat->Addr->Prop} (h:yqj K a H G n bk dx lk dd kd ps f O) (hl:zg K G (lk n) (.str (kdS (kd n))) (ps n))
  (S:y0 H G) {q dq d D:Addr} {xs ys:List V} (hq:G q=none) (hd:G d=none) (S2:y0 G G2) (hb:ybm a G2 q dq (lk n) d (kd n) (fun _=>none) (fun b=>b=d) 0) (hD:G D=some (.lst xs)) :
  yqj K a H (upd G2 D (.lst ys)) (n+1) (upN bk n q) (upN dx n dq) lk (upN dd n d) kd ps (upN f n fun _=>none) (upN O n fun b=>b=d):=by
 obtain ⟨p,x,y,v⟩:=h
 have l:∀ j c,j < n->O j c->∃ o,G c=some o:=fun j c g w=>let ⟨o,m,_⟩:=(p.b j g).own c w; ⟨o,m⟩
 have M:=(p.same S2).snoc (hl.same S2) hb (fun j c g w z=>by
  obtain ⟨o,m⟩:=l j c g w
  rw [show c=d from z,hd] at m
  cases m) (fun j g w=>by
  obtain ⟨o,m⟩:=l j q g w
  rw [hq] at m
  cases m) (fun j g z=>by
  have e:=(p.b j g).me
  rw [show bk j=d from z,hd] at e
  cases e)
 have i:=S2 _ _ hD
 have u:=M.nlst i
 have r:∀ c o,G2 c=some o->c≠D->upd G2 D (.lst ys) c=some o:=fun c o e s=>yj s e
 refine ⟨M.frame (O2:=fun c=>c=D) (fun c o e s=>r c o e s) (fun j c g w z=>u j g (z ▸ w)) (fun j g z=>?_) (fun t xs e=>?_),fun j k g=>?_,fun j c g w=>?_,fun j g=>?_⟩
 ·have e:=(M.b j g).me
  rw [z,i] at e
  cases e
 ·rcases e with (e | ⟨o,e⟩) | e
  ·exact .inl (.inl (r _ _ e (fun z=>by rw [z,i] at e; cases e)))
  ·exact .inl (.inr ⟨o,r _ _ e (fun z=>by rw [z,i] at e; cases e)⟩)
  ·exact .inr e
 ·by_cases z:j=n
  ·rw [z,xg]
  ·rw [xb (by omega)]
   exact x j k (by omega)
 ·by_cases z:j=n
  ·rw [z,xg] at w
   rw [show c=d from w]
   exact S.free hd
  ·rw [xb (by omega)] at w
   exact y j c (by omega) w
 ·by_cases z:j=n
  ·rw [z,xg]
   exact S.free hq
  ·rw [xb (by omega)]
   exact v j (by omega)
theorem yqj.ag {K:W.Frag} {a:Ads} {H G:Hp} {n:Nat} {bk dx lk dd:Nat->Addr} {kd:Nat->Fin 3} {ps:Nat->List Int} {f:Nat->List Int->Option Slt} {O:Nat->Addr->Prop} (h:yqj K a H G n bk dx lk dd kd ps f O):yqk n kd f (fun i _=>kd0 (kd i)):=fun i b k=>by
 rw [h.2.1 i k b]
 rfl
def FX0 (n:Nat) (kd:Nat->Fin 3):FX:={ g:=fun i _=>kd0 (kd i),ws:=List.replicate n 1099511627776,sg:=[],nd:=0 }
theorem ypt {g:Nat->Addr} {n:Nat} {x:V} (h:x∈refs g n):∃ i,i < n/\x=.ref (g i):=by
 unfold refs at h
 obtain ⟨i,a,e⟩:=List.mem_map.mp h
 exact ⟨i,List.mem_range.mp a,e.symm⟩
theorem ug.lks {H:Hp} {n:Nat} {lk:Nat->Addr} {kd:Nat->Fin 3} {tp:Nat->Addr} {ps:Nat->List Int} (h:ug H n lk kd tp ps):Lks H (refs lk n):=fun y a=>by
 obtain ⟨i,b,rfl⟩:=ypt a
 exact ⟨_,_,_,h i b⟩
theorem zh.frame {K:W.Frag} {a:Ads} {H H':Hp} {p:Addr} {A:FA} {X:FX} {f:Nat->List Int->Option Slt} {O:Nat->Addr->Prop} {m:Nat} (h:zh K a H p A X f O m) {O2:Addr->Prop} (B:yqq O2 H H') (hp:¬ O2 p) (hm:¬ O2 A.mp) (hb:∀ i,i < A.n->¬ O2 (A.bk i))
  (dj:∀ i c,i < A.n->O i c->¬ O2 c) (hl:∀ l xs,(l=A.bl\/l=A.el\/l=A.ml\/l=A.pl)->H l=some (.lst xs)->H' l=some (.lst xs)) (ht:∀ t xs,SqT K H t xs->SqT K H' t xs):zh K a H' p A X f O m :=
 ⟨B _ _ h.me hp,hl _ _ (.inl rfl) h.bl,hl _ _ (.inr (.inl rfl)) h.el,⟨B _ _ h.mx.o hm,hl _ _ (.inr (.inr (.inl rfl))) h.mx.l⟩,h.wok,hl _ _ (.inr (.inr (.inr rfl))) h.pl,h.B.frame B (fun i c q w=>dj i c q w) hb ht,h.ag,fun j d=>⟨(h.at' j d).1,fun s e=>by
  obtain ⟨g,r,k,_⟩:=(h.B.b j d).tb
  rw [B _ _ k (dj j _ d (h.B.b j d).dO)] at e
  cases e
  exact (h.at' j d).2 _ k⟩,h.np,h.nm,h.n1,h.n6⟩
theorem yua {K:W.Frag} {G:Hp} {t c:Addr} {xs ys zs:List V} (hc:G c=some (.lst ys)) (e:SqT K G t xs):SqT K (upd G c (.lst zs)) t xs:=by
 rcases e with (e | ⟨o,e⟩) | e
 ·exact .inl (.inl (yj (xi e hc (by intro z; cases z)) e))
 ·exact .inl (.inr ⟨o,yj (xi e hc (by intro z; cases z)) e⟩)
 ·exact .inr e
theorem zh.app {K:W.Frag} {a:Ads} {H:Hp} {p R:Addr} {A:FA} {X:FX} {f:Nat->List Int->Option Slt} {O:Nat->Addr->Prop} {m:Nat} {xs ys:List V} (h:zh K a H p A X f O m) (hR:H R=some (.lst xs)) (hq:∀ q,(q=A.bl\/q=A.el\/q=A.ml\/q=A.pl)->q≠R):zh K a (upd H R (.lst ys)) p A X f O m:=by
 refine h.frame (O2:=fun c=>c=R) (fun c o e g=>yj g e) (fun z=>?_) (fun z=>?_) (fun i d z=>?_) (fun i c d w z=>h.B.nlst hR i d (z ▸ w)) (fun l xs w e=>yj (hq l w) e) (fun t xs e=>yua hR e)
 ·have e:=h.me
  rw [z,hR] at e
  cases e
 ·have e:=h.mx.o
  rw [z,hR] at e
  cases e
 ·have e:=(h.B.b i d).me
  rw [z,hR] at e
  cases e
theorem vc7 (n:Nat) (n1:1 <= n) (n6:n <= 6):WOk n (List.replicate n 1099511627776):=by
 refine ⟨List.length_replicate,fun w h=>?_,fun w h=>?_⟩ <;> (rw [List.eq_of_mem_replicate h]; decide)
theorem vbk:yk ["self","looks"] ["self","looks"] (yg yw6):=wx (by right)
structure vgt (K:W.Frag) (a:Ads) (H H':Hp) (p:Addr) (n:Nat) (lk:Nat->Addr) (kd:Nat->Fin 3) (ps:Nat->List Int) (A:FA) (f:Nat->List Int->Option Slt) (O:Nat->Addr->Prop):Prop where
 ft:zh K a H' p A (FX0 n kd) f O 6
 en:A.n=n
 elk:A.lk=lk
 ekd:A.kd=kd
 eps:A.ps=ps
 oO:∀ j c,j < n->O j c->H c=none
 oB:∀ j,j < n->H (A.bk j)=none
 oM:H A.mp=none
 oL:∀ l,(l=A.bl\/l=A.el\/l=A.ml\/l=A.pl)->H l=none
 lo:H' A.ll=some (.lst (refs lk n))/\A.ll≠A.el/\H A.ll=none
def yiu (K:W.Frag) (a:Ads):Sp:=fun vs H Q E=>∃ (p dp:Addr) (x:V),vs=[.ref p,x]/\H p=some (.ins a.C_Ft dp []) /\
 ((vg3 K H x/\∀ H',y0 H H'->E (.ref a.C_NL) none H')\/∃ (l:Addr) (n:Nat) (lk:Nat->Addr) (kd:Nat->Fin 3) (tp:Nat->Addr) (ps:Nat->List Int),x=.ref l/\H l=some (.lst (refs lk n))/\1 <= n/\n <= 6/\ug H n lk kd tp ps /\
  ∀ A f O H',vgt K a H H' p n lk kd ps A f O->But p H H'->Q .non H')
theorem yy1 (T:Txt K mg a):wc P w K mg base (CXe P w) 6 a.f_q34 a.d_q34 ["self","looks"] (yiu K a):=by
 refine T.y_q34.F.okE vbk (fun vs H Q E h=>?_) (fun aZ A aQ s H vs Q E hr h=>?_)
 ·obtain ⟨p,f,x,rfl,_⟩:=h
  rfl
 ·obtain ⟨p,f,x,rfl,hp,h⟩:=h
  refine yo (y9 (pv 0) (vw (yrc T) (hr.mono (by decide)) rfl T.y_q26.m T.y_q26.F.kp T.y_q26.B .nil yx (yb (pv 1) ye (yc rfl))) rfl) ?_
  refine yo (y9 (pv 0) (w9 (js:=[]) (ys:=[]) rfl (xx (yq (pv 0) rfl)) (fun C s2 H2 fp=>(yh0 T.k_Book (vba T) (hr.mono (by decide)) rfl T.m_Book T.y_q29.B .nil vj (yb (pv 0) ye (yc rfl)))) rfl rfl (hyc:=vd) (hrel:=vd)) rfl) ?_
  refine yo (y9 (pv 0) (yh0 T.k_Mx (vct T) (hr.mono (by decide)) rfl T.m_Mx T.y_q31.B .nil vj (yb (yt yz rfl T.z_len (by right) (yb (yq (pv 0) rfl) ye (yc rfl))) ye (yc rfl))) rfl) ?_
  refine yo (y9 (pv 0) (xj ye) rfl) ?_
  refine yo (y9 (pv 0) yi rfl) ?_
  refine yo (y9 (pv 0) (xj ye) rfl) ?_
  refine ⟨_,(yf (yu (w8 (pv 0) T.cl_Ft T.y_q35.m (yr5 T) (hr.mono (by decide)) T.y_q35.B .nil vj))),?_⟩
  try dsimp only [vz]
  refine yn (σ':=[some _,some _]) rfl ?_
  rfl'
  rcases h with ⟨hb,k⟩ | ⟨l,n,lk,kd,tp,ps,rfl,hl,n1,n6,am,k⟩
  ·rcases hb with ⟨nm,ty,hn⟩ | ⟨l,xs,bs,rfl,hl,hz,aL,no⟩
   ·exact .inl ⟨x,nm,rfl,ty,hn,k _ (y0.refl _)⟩
   ·exact .inr ⟨l,xs,bs,rfl,hl,hz,aL,fun z=>absurd z no,fun _ H' S=>k _ S⟩
  ·refine .inr ⟨l,refs lk n,List.replicate (refs lk n).length true,rfl,hl,by rw [wa]; omega,am.lks.bs,fun _ g H1 ai az S1=>?_,fun no=>absurd ⟨by rw [wa]; exact n1,by rw [wa]; exact n6,ym5 _⟩ no⟩
   have b1:=S1 _ _ hp
   have aW:=am.same S1
   rfl'
   have X:upd H1 p (HO.ins a.C_Ft f ([("looks",V.ref g)]:List (Str × V))) p=some (HO.ins a.C_Ft f ([("looks",V.ref g)]:List (Str × V))):=ya
   have BA:But p H1 (upd H1 p (HO.ins a.C_Ft f ([("looks",V.ref g)]:List (Str × V)))):=But.upd
   have a3:g≠p:=(yd hp ai).symm
   have I:upd H1 p (HO.ins a.C_Ft f ([("looks",V.ref g)]:List (Str × V))) g=some (.lst (refs lk n)):=yj a3 az
   generalize upd H1 p (HO.ins a.C_Ft f ([("looks",V.ref g)]:List (Str × V)))=HA at X BA I ⊢
   have a5:But p H HA:=(But.of S1).trans BA
   have aU:ug HA n lk kd tp ps:=fun i hi=>by
    obtain ⟨q,e,h1,h2,h3⟩:=am i hi
    exact ⟨q,e,a5 _ _ h1 (xi h1 hp (by intro z; cases z)),a5 _ _ h2 (xi h2 hp (by intro z; cases z)),h3⟩
   refine ⟨p,_,f,_,_,rfl,X,T.cl_Ft,T.n_Ft_looks,rfl,?_⟩
   refine ⟨g,rfl,⟨_,SqL.of I⟩,fun u Y=>?_⟩
   refine zk (K:=K) (xs:=refs lk n) (fun i G=>∃ (bk dx dd:Nat->Addr) (f2:Nat->List Int->Option Slt) (O2:Nat->Addr->Prop),G u=some (.lst (refs bk i))/\yqj K a HA G i bk dx lk dd kd ps f2 O2/\y0 HA G)
    ⟨fun _=>0,fun _=>0,fun _=>0,fun _ _=>none,fun _ _=>False,ya,yqj.zero,vv Y⟩ (fun i G _ z=>?_) (fun i y G hy hi z=>?_) (fun G z=>?_)
   ·obtain ⟨_,_,_,_,_,_,_,SG⟩:=z
    exact SqL.of (SG _ _ I)
   ·obtain ⟨bk,dx,dd,f2,O2,ab,gN,SG⟩:=z
    obtain ⟨rfl,aR⟩:=j8 hy
    rfl'
    intro q dq nq aJ aY
    have SQ:y0 G (upd (upd G dq (.own q)) q (.ins a.C_Book dq [])):=fun b o e=>by rw [ym (yd e nq),ym (yd e aJ)]; exact e
    refine ⟨q,dq,lk i,kd i,rfl,ya,fun d G2 aV aM B2=>⟨rfl,?_⟩⟩
    have as:y0 G G2:=fun b o e=>B2 b o (SQ b o e) (yd e nq)
    refine ua (n:=(refs lk n).length) (as _ _ ab) (vx (by rw [wa]; omega)) hi ?_
    refine ⟨_,_,_,_,_,?_,gN.next ((aU i aR).same SG).at' SG nq (SQ.free aV) as aM ab,fun b o e=>yj (yd e Y) (as _ _ (SG b o e))⟩
    rw [ya,u4,xg]
    congr 3
    exact uz fun j r=>(xb r).symm
   obtain ⟨bk,dx,dd,f2,O2,ab,gN,SG⟩:=z
   rw [wa] at ab gN
   have av:=SG _ _ X
   rfl'
   have aB:∀ c o,HA c=some o->c≠p->upd G p (HO.ins a.C_Ft f ([("looks",V.ref g),("books",V.ref u)]:List (Str × V))) c=some o:=fun c o e J=>yj J (SG _ _ e)
   have a4:upd G p (HO.ins a.C_Ft f ([("looks",V.ref g),("books",V.ref u)]:List (Str × V))) p=some (HO.ins a.C_Ft f ([("looks",V.ref g),("books",V.ref u)]:List (Str × V))):=ya
   have af:u≠p:=(yd X Y).symm
   have al:upd G p (HO.ins a.C_Ft f ([("looks",V.ref g),("books",V.ref u)]:List (Str × V))) u=some (.lst (refs bk n)):=yj af ab
   have BP:∀ {fs:List (Str × V)},But p G (upd G p (HO.ins a.C_Ft f fs)):=But.upd
   have ad:∀ j,j < n->¬ O2 j p:=fun j r w=>by
    have e:=gN.2.2.1 j p r w
    rw [X] at e
    cases e
   have aw:∀ {G':Hp},But p G G'->Bks K a G' n bk dx lk dd kd ps f2 O2 0:=fun {G'} B=>gN.1.frame (O2:=fun c=>c=p) (fun c o e J=>B c o e J) (fun j c r w z=>ad j r (z ▸ w)) (fun j r z=>by
    have e:=gN.2.2.2 j r
    rw [z,X] at e
    cases e) (fun t xs e=>by
    rcases e with (e | ⟨o,e⟩) | e
    ·exact .inl (.inl (B _ _ e (fun z=>by rw [z,av] at e; cases e)))
    ·exact .inl (.inr ⟨o,B _ _ e (fun z=>by rw [z,av] at e; cases e)⟩)
    ·exact .inr e)
   have BB:But p G (upd G p (HO.ins a.C_Ft f ([("looks",V.ref g),("books",V.ref u)]:List (Str × V)))):=But.upd
   generalize upd G p (HO.ins a.C_Ft f ([("looks",V.ref g),("books",V.ref u)]:List (Str × V)))=HB at aB a4 al BB ⊢
   refine ⟨p,_,f,_,_,rfl,a4,T.cl_Ft,T.n_Ft_looks,rfl,?_⟩
   refine zw (SqL.of (aB _ _ I a3)) ?_
   rw [wa]
   rfl'
   intro D mx aa aH aX
   have SM:y0 HB (upd (upd HB mx (.own D)) D (.ins a.C_Mx mx [])):=fun b o e=>by rw [ym (yd e aa),ym (yd e aH)]; exact e
   refine ⟨D,mx,n,rfl,n1,n6,ya,fun ml HC aD MC BC=>⟨rfl,?_⟩⟩
   have SC:y0 HB HC:=fun b o e=>BC b o (SM b o e) (yd e aa)
   have b0:=SC _ _ a4
   have aE:=SC _ _ al
   have a6:HB ml=none:=SM.free aD
   have R:D≠p:=(yd a4 aa).symm
   have a1:ml≠p:=(yd a4 a6).symm
   rfl'
   refine ⟨by walk_at "len",fun M Z=>?_⟩
   have U:M≠p:=fun z=>by rw [z,ya] at Z; cases Z
   have W:HC M=none:=by rw [ym U] at Z; exact Z
   have aS:upd (upd HC p (HO.ins a.C_Ft f ([("looks",V.ref g),("books",V.ref u),("mixer",V.ref D)]:List (Str × V)))) M (.lst []) p=some (HO.ins a.C_Ft f ([("looks",V.ref g),("books",V.ref u),("mixer",V.ref D)]:List (Str × V))):=yj U.symm ya
   have ak:upd (upd HC p (HO.ins a.C_Ft f ([("looks",V.ref g),("books",V.ref u),("mixer",V.ref D)]:List (Str × V)))) M (.lst []) M=some (.lst []):=ya
   have BD:But p HC (upd (upd HC p (HO.ins a.C_Ft f ([("looks",V.ref g),("books",V.ref u),("mixer",V.ref D)]:List (Str × V)))) M (.lst [])):=fun b o e J=>yj (yd e W) (yj J e)
   generalize upd (upd HC p (HO.ins a.C_Ft f ([("looks",V.ref g),("books",V.ref u),("mixer",V.ref D)]:List (Str × V)))) M (.lst [])=HD at aS ak BD ⊢
   rfl'
   refine ⟨by walk_at "len",fun L a0=>?_⟩
   have aq:L≠p:=fun z=>by rw [z,ya] at a0; cases a0
   have ao:HD L=none:=by rw [ym aq,ym aq] at a0; exact a0
   have aN:upd (upd (upd HD p (HO.ins a.C_Ft f ([("looks",V.ref g),("books",V.ref u),("mixer",V.ref D),("ended",V.ref M)]:List (Str × V)))) p (HO.ins a.C_Ft f ([("looks",V.ref g),("books",V.ref u),("mixer",V.ref D),("ended",V.ref M),("place",V.int 0)]:List (Str × V)))) L (.lst []) p=some (HO.ins a.C_Ft f ([("looks",V.ref g),("books",V.ref u),("mixer",V.ref D),("ended",V.ref M),("place",V.int 0)]:List (Str × V))):=yj aq.symm ya
   have BE:But p HD (upd (upd (upd HD p (HO.ins a.C_Ft f ([("looks",V.ref g),("books",V.ref u),("mixer",V.ref D),("ended",V.ref M)]:List (Str × V)))) p (HO.ins a.C_Ft f ([("looks",V.ref g),("books",V.ref u),("mixer",V.ref D),("ended",V.ref M),("place",V.int 0)]:List (Str × V)))) L (.lst [])):=fun b o e J=>yj (yd e ao) (yj J (yj J e))
   generalize upd (upd (upd HD p (HO.ins a.C_Ft f ([("looks",V.ref g),("books",V.ref u),("mixer",V.ref D),("ended",V.ref M)]:List (Str × V)))) p (HO.ins a.C_Ft f ([("looks",V.ref g),("books",V.ref u),("mixer",V.ref D),("ended",V.ref M),("place",V.int 0)]:List (Str × V)))) L (.lst [])=HE at aN BE ⊢
   rfl'
   have BF:But p HE (upd HE p (.ins a.C_Ft f (uh (.ref g) (.ref u) (.ref D) (.ref M) (.int 0) (.ref L)))):=But.upd
   have a9:upd HE p (.ins a.C_Ft f (uh (.ref g) (.ref u) (.ref D) (.ref M) (.int 0) (.ref L))) p=some (.ins a.C_Ft f (uh (.ref g) (.ref u) (.ref D) (.ref M) (.int 0) (.ref L))):=ya
   generalize upd HE p (.ins a.C_Ft f (uh (.ref g) (.ref u) (.ref D) (.ref M) (.int 0) (.ref L)))=HF at a9 BF ⊢
   have ac:But p HC HF:=(BD.trans BE).trans BF
   have a2:But p G HF:=fun b o e J=>ac b o (SC _ _ (BB b o e J)) J
   have aA:=ac _ _ MC.o R
   have aG:=ac _ _ MC.l a1
   have ar:=ac _ _ aE af
   have au:=BF _ _ (BE _ _ ak U) U
   refine ⟨p,f,g,u,D,M,L,0,[],n,0,bk,dx,lk,dd,kd,ps,f2,O2,fun i _=>kd0 (kd i),rfl,a9,ar,au,aw a2,gN.ag,n6,by omega,ad,fun pl sl f' O' H' aK aT aj B' aI aO ae F' L'=>?_⟩
   have a7:∀ {c:Addr},c≠p->HF c=none->G c=none:=fun {c} J h=>by
    cases e:G c with
    | none=>rfl
    | some o=>rw [a2 _ _ e J] at h; cases h
   have an:∀ j c,j < n->O2 j c->∃ o,G c=some o:=fun j c r w=>let ⟨o,ho,_⟩:=(gN.1.b j r).own c w; ⟨o,ho⟩
   have nO:∀ {c:Addr} {o:HO},HF c=some o->vdz o=false->∀ j,j < n->¬ O2 j c:=fun {c o} e hi j r w=>by
    obtain ⟨o',ax,aC⟩:=((aw a2).b j r).own c w
    rw [e] at ax
    cases ax
    rw [hi] at aC
    cases aC
   have aF:∀ j,j < n->¬ O2 j D:=fun j r w=>by
    obtain ⟨o,ho⟩:=an j D r w
    have e:=BB _ _ ho R
    rw [aa] at e
    cases e
   have N:∀ {c:Addr},c≠p->HA c=none->H c=none:=fun {c} J h=>by
    cases e:H c with
    | none=>rfl
    | some o=>rw [a5 _ _ e J] at h; cases h
   have O:∀ {c:Addr},G c=none->HA c=none:=fun {c} h=>SG.free h
   have a8:∀ {c:Addr},c≠p->HB c=none->G c=none:=fun {c} J h=>by
    cases e:G c with
    | none=>rfl
    | some o=>rw [BB _ _ e J] at h; cases h
   have ay:∀ {c:Addr},HC c=none->HB c=none:=fun {c} h=>SC.free h
   refine k ⟨f,g,u,D,mx,ml,M,pl,n,bk,dx,lk,dd,sl,kd,ps⟩ f' O' H' ⟨⟨aK,F' _ _ ar af (nO ar rfl),F' _ _ au U (nO au rfl),⟨F' _ _ aA R aF,F' _ _ aG a1 (nO aG rfl)⟩,?_,aT,⟨B'.look,fun i hi=>(B'.b i hi).up (by omega),B'.dj,B'.nb⟩,aI,aO,fun j r w=>?_,fun j r w=>?_,n1,n6⟩,rfl,rfl,rfl,rfl,fun j c r w=>?_,fun j r=>?_,?_,fun c hc=>?_,F' _ _ (a2 _ _ (SG _ _ I) a3) a3 (nO (a2 _ _ (SG _ _ I) a3) rfl),yd (SC _ _ (BB _ _ (SG _ _ I) a3)) W,ai⟩ ?_
   ·exact vc7 n n1 n6
   ·rcases ae j p r w with v | v
    ·exact ad j r v
    ·rw [a9] at v; cases v
   ·rcases ae j D r w with v | v
    ·exact aF j r v
    ·rw [aA] at v; cases v
   ·have ap:c≠p:=fun z=>by
     rw [z] at w
     rcases ae j p r w with v | v
     ·exact ad j r v
     ·rw [a9] at v; cases v
    rcases ae j c r w with v | v
    ·exact N ap (gN.2.2.1 j c r v)
    ·exact N ap (O (a7 ap v))
   ·have aP:bk j≠p:=fun z=>by
     have e:=gN.2.2.2 j r
     rw [z,X] at e
     cases e
    exact N aP (gN.2.2.2 j r)
   ·exact N R (O (a8 R aa))
   ·rcases hc with z | z | z | z
    ·rw [z]
     exact N af Y
    ·rw [z]
     exact N U (O (a8 U (ay W)))
    ·rw [z]
     exact N a1 (O (a8 a1 a6))
    ·rw [z]
     have ah:pl≠p:=(yd a9 aj).symm
     exact N ah (O (a7 ah aj))
   ·intro c o e J
    refine F' c o (a2 _ _ (SG _ _ (a5 c o e J)) J) J fun j r w=>?_
    have e2:=gN.2.2.1 j c r w
    rw [a5 c o e J] at e2
    cases e2
theorem yh2:∀ (ts:List Int) (q j:Nat) (s:Int),ts[q]?=some s->j <= 8->(dec ts)[9 * q+j]?=(1 :: b8 s)[j]?
 | [],_,_,_,h,_=>by simp at h
 | t :: r,0,j,s,h,hj=>by
  have e:t=s:=by simpa using h
  subst e
  show ((1 :: b8 t)++dec r)[9 * 0+j]?=_
  rw [Nat.mul_zero,Nat.zero_add,List.getElem?_append_left (by rw [List.length_cons,yrv]; omega)]
 | t :: r,q+1,j,s,h,hj=>by
  have b:r[q]?=some s:=by simpa using h
  show ((1 :: b8 t)++dec r)[9 * (q+1)+j]?=_
  have a:(1 :: b8 t).length=9:=rfl
  rw [List.getElem?_append_right (by rw [a]; omega),a,show 9 * (q+1)+j - 9=9 * q+j by omega]
  exact yh2 r q j s b hj
theorem yvg (ts:List Int):(dec ts)[9 * ts.length]?=some 0:=by
 rw [yqi,List.getElem?_append_right (by rw [z6]; exact Nat.le_refl _),z6,Nat.sub_self]
 rfl
def yh9 (ts:List Int) (k:Nat) (sg:List Int) (nd:Int):Prop:=∃ q j:Nat,k=9 * q+j/\j <= 8/\sg=ts.take q/\((j=0/\nd=0/\q <= ts.length)\/(1 <= j/\∃ s,ts[q]?=some s/\nd=(256+s) / 2 ^ (9 - j)))
theorem ven {s P c:Int} (h:0 <= s/\s <= 255) (hP:2 <= P) (hc:P * (2 * c)=256) (c1:1 <= c/\c <= 64):0 < (256+s) / (2 * P)/\2 * ((256+s) / (2 * P))+s / P % 2 < 256/\2 * ((256+s) / (2 * P))+s / P % 2=(256+s) / P:=by
 have a:(256+s) / P=s / P+2 * c:=by rw [<- hc,Int.add_comm,Int.add_mul_ediv_left _ _ (by omega)]
 have b:(256+s) / (2 * P)=(s / P+2 * c) / 2:=by rw [<- a,Int.ediv_ediv_of_nonneg (show 0 <= P by omega),Int.mul_comm]
 have d:=Int.ediv_nonneg h.1 (show 0 <= P by omega)
 have e:=Int.ediv_lt_of_lt_mul (show 0 < P by omega) (show s < 128 * P by omega)
 rw [a,b]
 generalize s / P=y at d e
 clear hc a b hP h
 omega
theorem nd9 {s:Int} (h:0 <= s/\s <= 255) {j:Nat} (h1:1 <= j) (hj:j <= 8):0 < (256+s) / 2 ^ (9 - j)/\(256+s) / 2 ^ (9 - j) < 256:=by
 have a:∀ j,j < 9->1 <= j->(2:Int) <= 2 ^ (9 - j)/\(2:Int) ^ (9 - j) <= 256:=by decide
 obtain ⟨b,c⟩:=a j (Nat.lt_succ_of_le hj) h1
 generalize (2:Int) ^ (9 - j)=K at b c
 exact ⟨Int.le_ediv_of_mul_le (by omega) (by omega),Int.ediv_lt_of_lt_mul (by omega) (by omega)⟩
theorem yh9.zero (ts:List Int):yh9 ts 0 [] 0:=⟨0,0,rfl,by omega,by simp,.inl ⟨rfl,rfl,Nat.zero_le _⟩⟩
theorem yh9.nd {ts:List Int} {k:Nat} {sg:List Int} {nd:Int} (h:yh9 ts k sg nd) (hs:Sgs ts):0 <= nd/\nd < 256:=by
 obtain ⟨q,j,_,e,_,h⟩:=h
 rcases h with ⟨_,h,_⟩ | ⟨d,s,c,h⟩
 ·omega
 ·obtain ⟨a,b⟩:=nd9 (hs s (List.mem_of_getElem? c)) d e
  rw [h]
  exact ⟨Int.le_of_lt a,b⟩
theorem yh9.len {ts:List Int} {k:Nat} {sg:List Int} {nd:Int} (h:yh9 ts k sg nd):sg.length <= ts.length:=by
 obtain ⟨q,j,_,_,a,_⟩:=h
 rw [a,List.length_take]
 omega
theorem yh9.next {ts:List Int} {k:Nat} {sg:List Int} {nd b:Int} (h:yh9 ts k sg nd) (hs:Sgs ts) (hb:(dec ts)[k]?=some b) :
  (k < 9 * ts.length/\yh9 ts (k+1) (sgN sg nd b) (ndN nd b))\/(k=9 * ts.length/\sgN sg nd b=[]/\ndN nd b=0):=by
 obtain ⟨q,j,p,w,g,h⟩:=h
 rcases h with ⟨u,d,B⟩ | ⟨D,s,a,d⟩
 ·subst u
  rcases Nat.lt_or_ge q ts.length with m | m
  ·refine .inl ⟨by omega,?_⟩
   have e:=yh2 ts q 0 ts[q] (List.getElem?_eq_getElem m) (by omega)
   rw [<- p,hb] at e
   have e:b=1:=by simpa using e
   have:=hs ts[q] (List.getElem_mem m)
   unfold sgN ndN
   rw [if_neg (by omega),if_pos e,if_neg (by omega),if_pos e]
   refine ⟨q,1,by omega,by omega,g,.inr ⟨by omega,ts[q],List.getElem?_eq_getElem m,?_⟩⟩
   simp only [Nat.reduceSub,Int.reducePow]
   omega
  ·have r:q=ts.length:=by omega
   have e:=yvg ts
   rw [<- r,show 9 * q=k by omega,hb] at e
   have e:b=0:=by simpa using e
   refine .inr ⟨by omega,?_,?_⟩
   ·unfold sgN
    rw [if_neg (by omega),if_neg (by omega)]
   ·unfold ndN
    rw [if_neg (by omega),if_neg (by omega)]
    exact d
 ·have o:=hs s (List.mem_of_getElem? a)
  have m:q < ts.length:=(List.getElem?_eq_some_iff.mp a).1
  have e:=yh2 ts q j s a w
  rw [<- p,hb] at e
  have l:some b=(b8 s)[j - 1]?:=by
   obtain ⟨i,rfl⟩:∃ i,j=i+1:=⟨j - 1,by omega⟩
   simpa using e
  refine .inl ⟨by omega,?_⟩
  by_cases h8:j=8
  ·subst h8
   have l:b=s / 1 % 2:=Option.some.inj l
   simp only [Nat.reduceSub,Int.reducePow] at d
   have A:2 * nd+b=256+s:=by omega
   unfold sgN ndN
   rw [if_pos (by omega),if_pos (by omega),if_pos (by omega),if_pos (by omega)]
   refine ⟨q+1,0,by omega,by omega,?_,.inl ⟨rfl,rfl,by omega⟩⟩
   rw [g,show 2 * nd+b - 256=s by omega,yaw a]
  ·have n:0 < nd/\2 * nd+b < 256/\2 * nd+b=(256+s) / 2 ^ (9 - (j+1)):=by
    have k:∀ P c:Int,2 <= P->P * (2 * c)=256->1 <= c/\c <= 64->nd=(256+s) / (2 * P)->b=s / P % 2->0 < nd/\2 * nd+b < 256/\2 * nd+b=(256+s) / P:=fun P c x y z e f=>by
     rw [e,f]
     exact ven o x y z
    clear p hb e g m hs
    obtain rfl | rfl | rfl | rfl | rfl | rfl | rfl:j=1\/j=2\/j=3\/j=4\/j=5\/j=6\/j=7:=by omega
    ·exact k 128 1 (by decide) rfl (by decide) d (Option.some.inj l)
    ·exact k 64 2 (by decide) rfl (by decide) d (Option.some.inj l)
    ·exact k 32 4 (by decide) rfl (by decide) d (Option.some.inj l)
    ·exact k 16 8 (by decide) rfl (by decide) d (Option.some.inj l)
    ·exact k 8 16 (by decide) rfl (by decide) d (Option.some.inj l)
    ·exact k 4 32 (by decide) rfl (by decide) d (Option.some.inj l)
    ·exact k 2 64 (by decide) rfl (by decide) d (Option.some.inj l)
   obtain ⟨t,C,v⟩:=n
   unfold sgN ndN
   rw [if_pos t,if_neg (by omega),if_pos t,if_neg (by omega)]
   exact ⟨q,j+1,by omega,by omega,g,.inr ⟨by omega,s,a,v⟩⟩
theorem zh.up {K:W.Frag} {a:Ads} {H:Hp} {p:Addr} {A:FA} {X:FX} {f:Nat->List Int->Option Slt} {O:Nat->Addr->Prop} {m m':Nat} (h:zh K a H p A X f O m) (hm:m <= m'):zh K a H p A X f O m' :=
 ⟨h.me,h.bl,h.el,h.mx,h.wok,h.pl,⟨h.B.look,fun i c=>(h.B.b i c).up hm,h.B.dj,h.B.nb⟩,h.ag,h.at',h.np,h.nm,h.n1,h.n6⟩
structure Lw (K:W.Frag) (a:Ads) (H:Hp) (p:Addr) (A:FA) (X:FX) (f:Nat->List Int->Option Slt) (O:Nat->Addr->Prop) (m:Nat) (bk dx dd:Nat->Addr) (f2:Nat->List Int->Option Slt) (O2:Nat->Addr->Prop) (mp mx ml:Addr) (ws:List Int):Prop where
 ft:zh K a H p A X f O m
 bs:Bks K a H A.n bk dx A.lk dd A.kd A.ps f2 O2 m
 mx:yqp a mp mx ml ws H
 dj:∀ i j c,i < A.n->j < A.n->O i c->¬ O2 j c
 n1:∀ i j,i < A.n->j < A.n->¬ O i (bk j)
 n2:∀ i j,i < A.n->j < A.n->¬ O2 i (A.bk j)
 n3:∀ i,i < A.n->¬ O2 i p/\¬ O2 i A.mp/\¬ O2 i mp/\¬ O i mp
 n4:mp≠A.mp
 n5:ml≠A.el
section
variable {K:W.Frag} {a:Ads} {H H':Hp} {p:Addr} {A:FA} {X:FX} {f:Nat->List Int->Option Slt} {O:Nat->Addr->Prop} {m:Nat} {bk dx dd:Nat->Addr} {f2:Nat->List Int->Option Slt} {O2:Nat->Addr->Prop} {mp mx ml:Addr} {ws:List Int}
theorem ud {C D d e p q:Addr} {fs gs:List (Str × V)} (hp:H p=some (.ins C d fs)) (hq:H q=some (.ins D e gs)) (hl:fs.length≠gs.length):p≠q:=fun z=>by
 rw [z,hq] at hp
 injection hp with hp
 injection hp with _ _ e
 exact hl (congrArg List.length e).symm
end
def KpA (B G:Hp) (e0 e:Addr):Prop:=∀ c o,B c=some o->vdz o=false->c≠e0->c≠e/\G c=some o
theorem KpA.lst {B G:Hp} {e0 e c:Addr} {xs:List V} (h:KpA B G e0 e) (hc:B c=some (.lst xs)) (ne:c≠e0):G c=some (.lst xs):=(h c _ hc rfl ne).2
def TxE (ts:List Int) (k:Nat) (sg:List Int) (nd:Int):Prop:=(k <= 9 * ts.length/\yh9 ts k sg nd)\/(k=9 * ts.length+1/\sg=[]/\nd=0)
theorem TxE.next {ts:List Int} {k:Nat} {sg:List Int} {nd b:Int} (h:TxE ts k sg nd) (hs:Sgs ts) (hb:(dec ts)[k]?=some b):yh9 ts k sg nd/\TxE ts (k+1) (sgN sg nd b) (ndN nd b):=by
 rcases h with ⟨c,h⟩ | ⟨c,_⟩
 ·refine ⟨h,?_⟩
  rcases h.next hs hb with ⟨d,a⟩ | ⟨d,a,e⟩
  ·exact .inl ⟨by omega,a⟩
  ·exact .inr ⟨by omega,a,e⟩
 ·rw [c,List.getElem?_eq_none (by rw [uv]; exact Nat.le_refl _)] at hb
  cases hb
theorem vam:yk ["self"] ["self"] (yg yws):=wx (by right)
def yhk (K:W.Frag) (a:Ads):Sp:=fun vs H Q _=>∃ (p:Addr) (A:FA) (X:FX) (f:Nat->List Int->Option Slt) (O:Nat->Addr->Prop) (m:Nat),vs=[.ref p]/\zh K a H p A X f O m/\∀ r H',H r=none->H' r=some (.lst ((X.cs A).map V.int))->y0 H H'->Q (.ref r) H'
theorem yr4 (T:Txt K mg a):wc P w K mg base CX0 2 a.f_q36 a.d_q36 ["self"] (yhk K a):=by
 refine T.y_q36.F.ok vam (fun v H Q E h=>?_) (fun u A j s H v Q E e h=>?_)
 ·obtain ⟨p,A,X,f,O,m,rfl,_⟩:=h
  rfl
 ·obtain ⟨p,d,X,f,O,m,rfl,h,k⟩:=h
  have J:=h.me
  have I:=h.n6
  refine ⟨_,(yf (y7 (w9 (js:=[]) (ys:=[]) rfl (xx (yq (pv 0) rfl)) (fun C N r R=>(yjb (w8 (pv 0) T.cl_Even T.y_q13.m (yx8 T) (e.mono (by decide)) T.y_q13.B .nil vj) (yjb (w8 (pv 0) T.cl_Quick T.y_q16.m (vah T) (e.mono (by decide)) T.y_q16.B .nil vj) (w8 (pv 0) T.cl_Run T.y_q19.m (vaw T) (e.mono (by decide)) T.y_q19.B .nil vj)))) rfl rfl (hyc:=vd) (hrel:=vd)))),?_⟩
  try dsimp only [vz]
  refine yn (σ':=[some _]) rfl ?_
  rfl'
  refine ⟨d.pl,rfl,⟨_,SqL.of h.pl⟩,fun D l=>?_⟩
  refine zk (K:=K) (xs:=refs d.sl d.n) (Mp H D (fun i=>V.int (X.g i (X.key d i)).due)) (Mp.zero l) (fun _ _ _ q=>q.1.seq (SqL.of h.pl)) (fun i y r x z q=>?_) (fun r q=>?_)
  ·obtain ⟨c,b⟩:=q
   obtain ⟨rfl,o⟩:=j8 x
   obtain ⟨_,⟨M,G⟩,t,_⟩:=h.slot o
   refine yla (fun L h=>vcx rfl h) (c _ _ G) t ?_
   exact Mp.doneR l (vx (by rw [wa]; omega)) z c b rfl
  ·obtain ⟨c,b⟩:=q
   rw [wa] at b
   refine k D _ l ?_ c
   rw [b]
   unfold FX.cs
   rw [List.map_map]
   rfl
theorem yyp:yk ["self"] ["self"] (yg yvq):=wx (by right)
def yjy (K:W.Frag) (a:Ads):Sp:=fun vs H Q _=>∃ (p:Addr) (A:FA) (X:FX) (f:Nat->List Int->Option Slt) (O:Nat->Addr->Prop) (m:Nat),vs=[.ref p]/\zh K a H p A X f O m/\∀ H',y0 H H'->Q (.int (ysz X.ws (X.cs A))) H'
theorem yqv (T:Txt K mg a):wc P w K mg base CX0 3 a.f_q37 a.d_q37 ["self"] (yjy K a):=by
 refine T.y_q37.F.ok yyp (fun l H Q E h=>?_) (fun i A c s H l Q E e h=>?_)
 ·obtain ⟨p,A,X,f,O,m,rfl,_⟩:=h
  rfl
 ·obtain ⟨p,b,X,f,O,m,rfl,h,k⟩:=h
  have x:=h.me
  have q:=h.mx.o
  refine ⟨_,(yf (y7 (xo (yq (pv 0) rfl) T.cl_Mx T.y_q32.m (vch T) (e.mono (by decide)) T.y_q32.B .nil vj (yb (w8 (pv 0) T.cl_Ft T.y_q36.m (yr4 T) (e.mono (by decide)) T.y_q36.B .nil vj) ye (yc rfl))))),?_⟩
  try dsimp only [vz]
  refine yn (σ':=[some _]) rfl ?_
  rfl'
  refine ⟨p,b,X,f,O,m,rfl,h,fun r v t d g=>?_⟩
  rfl'
  exact ⟨b.mp,b.mx,b.ml,r,X.ws,X.cs b,b.n,rfl,h.n1,h.n6,h.wok,h.cok,h.mx.same g,SqL.of d,fun u j=>k _ (g.trans j)⟩
theorem vad:yk ["self","bit"] ["self","bit"] (yg ywz):=wx (by right)
def yu6 (a:Ads):Sp:=fun vs H Q _=>∃ (p dp ll bl mp el pl:Addr) (nd b:Int) (sg:List Int),vs=[.ref p,.int b]/\H p=some (.ins a.C_Ft dp (uh (.ref ll) (.ref bl) (.ref mp) (.ref el) (.int nd) (.ref pl)))/\H el=some (.lst (sg.map V.int))/\sg.length <= 100000/\0 < nd /\
 ∀ H',H' p=some (.ins a.C_Ft dp (uh (.ref ll) (.ref bl) (.ref mp) (.ref el) (.int (ndN nd b)) (.ref pl)))->H' el=some (.lst ((sgN sg nd b).map V.int))->(∀ c o,H c=some o->c≠p->c≠el->H' c=some o)->Q .non H'
theorem vbw (T:Txt K mg a):wc P w K mg base CX0 1 a.f_q40 a.d_q40 ["self","bit"] (yu6 a):=by
 refine T.y_q40.F.ok vad (fun L H Q E h=>?_) (fun J A x s H L Q E O h=>?_)
 ·obtain ⟨p,r,n,q,m,i,l,g,b,C,rfl,_⟩:=h
  rfl
 ·obtain ⟨p,r,n,q,m,i,l,g,b,C,rfl,I,y,N,B,k⟩:=h
  refine ⟨_,(yh (y9 (pv 0) (yr we (yr wv yi (yq (pv 0) rfl)) (pv 1)) rfl) (yf (ww (y8 vef (yq (pv 0) rfl) (vo rfl T.c_NODES_END) (vg _)) (yh (yu (ybh PySem.F.plainAttrs_list PySem.F.slot_list_append PySem.F.type_list_append wu (yq (pv 0) rfl) (yb (yr ur (yq (pv 0) rfl) (vo rfl T.c_NODES_END)) ye (yc rfl)))) (yf (y9 (pv 0) yi rfl))) vk))),?_⟩
  try dsimp only [vz]
  refine yn (σ':=[some _,some _]) rfl ?_
  unfold ndN sgN at k
  rw [if_pos B,if_pos B] at k
  have f:i≠p:=xi y I (by intro z; cases z)
  rfl'
  have j:upd H p (.ins a.C_Ft r (uh (.ref n) (.ref q) (.ref m) (.ref i) (.int (2 * g+b)) (.ref l))) p=some (.ins a.C_Ft r (uh (.ref n) (.ref q) (.ref m) (.ref i) (.int (2 * g+b)) (.ref l))):=ya
  have d:=yj (o':=HO.ins a.C_Ft r (uh (.ref n) (.ref q) (.ref m) (.ref i) (.int (2 * g+b)) (.ref l))) f y
  have v:But p H (upd H p (.ins a.C_Ft r (uh (.ref n) (.ref q) (.ref m) (.ref i) (.int (2 * g+b)) (.ref l)))):=But.upd
  generalize upd H p (.ins a.C_Ft r (uh (.ref n) (.ref q) (.ref m) (.ref i) (.int (2 * g+b)) (.ref l)))=M at j d v ⊢
  rfl'
  refine u6 (fun t=>?_) (fun t=>?_)
  ·rw [if_pos t,if_pos t] at k
   rfl'
   refine jr d ?_
   rfl'
   refine xv d (vx (by rw [List.length_map]; omega)) ?_
   have G:=yj (o':=HO.lst (List.map V.int C++[V.int (2 * g+b - 256)])) (Ne.symm f) j
   rfl'
   refine k _ ya ?_ fun c o e u D=>yj u (yj D (v _ _ e u))
   rw [ym f,ya,List.map_append]
   rfl
  ·rw [if_neg t,if_neg t] at k
   rfl'
   exact k _ j d fun c o e u D=>v _ _ e u
theorem vcj:yk ["self","bit"] ["self","bit"] (yg yv0):=wx (by right)
def ypz (a:Ads):Sp:=fun vs H Q _=>∃ (p dp ll bl mp el pl:Addr) (nd b:Int) (sg:List Int),vs=[.ref p,.int b]/\H p=some (.ins a.C_Ft dp (uh (.ref ll) (.ref bl) (.ref mp) (.ref el) (.int nd) (.ref pl)))/\H el=some (.lst (sg.map V.int))/\sg.length <= 100000/\0 <= nd /\
 ∀ (el':Addr) H',(el'=el\/H el'=none)->H' p=some (.ins a.C_Ft dp (uh (.ref ll) (.ref bl) (.ref mp) (.ref el') (.int (ndN nd b)) (.ref pl)))->H' el'=some (.lst ((sgN sg nd b).map V.int))->(∀ c o,H c=some o->c≠p->c≠el->H' c=some o)->(∃ o,H' el=some o)->Q .non H'
theorem vck (T:Txt K mg a):wc P w K mg base CX0 2 a.f_q39 a.d_q39 ["self","bit"] (ypz a):=by
 refine T.y_q39.F.ok vcj (fun R H Q E h=>?_) (fun L A t s H R Q E O h=>?_)
 ·obtain ⟨p,I,x,G,v,i,u,D,b,C,rfl,_⟩:=h
  rfl
 ·obtain ⟨p,I,x,G,v,i,u,D,b,C,rfl,j,f,N,W,k⟩:=h
  refine ⟨_,(yf (ww (y8 yh5 (yq (pv 0) rfl) yi (vg _)) (yf (yu (xo (pv 0) T.cl_Ft T.y_q40.m (vbw T) (O.mono (by decide)) T.y_q40.B .nil vj (yb (pv 1) ye (yc rfl))))) (yf (ww (y8 uw (pv 1) yi (vg _)) (yf (y9 (pv 0) yi rfl)) (yf (y9 (pv 0) (xj ye) rfl)))))),?_⟩
  try dsimp only [vz]
  refine yn (σ':=[some _,some _]) rfl ?_
  have d:i≠p:=xi f j (by intro z; cases z)
  rfl'
  refine u6 (fun l=>?_) (fun l=>?_)
  ·rfl'
   exact ⟨p,I,x,G,v,i,u,D,b,C,rfl,j,f,N,l,fun J U y M=>k i J (.inl rfl) U y M ⟨_,y⟩⟩
  ·unfold ndN sgN at k
   rw [if_neg l,if_neg l] at k
   rfl'
   refine u6 (fun g=>?_) (fun g=>?_)
   ·rw [if_pos g,if_pos g] at k
    rfl'
    exact k i _ (.inl rfl) ya (yj d f) (fun c o e n _=>yj n e) ⟨_,yj d f⟩
   ·rw [if_neg g,if_neg g] at k
    rfl'
    refine ⟨by walk_at "len",fun r hr0=>?_⟩
    with_reducible first | refine yw hr0 fun H1 S1 e1=>?_ | refine ve hr0 fun H1 S1 e1=>?_
    have S:=S1 _ _ j
    rfl'
    have q:r≠p:=fun z=>by rw [z,j] at hr0; cases hr0
    exact k r _ (.inr hr0) ya (yj q e1) (fun c o e n _=>yj n (S1 _ _ e)) ⟨_,yj d (S1 _ _ f)⟩
abbrev FA.re (A:FA) (ml el pl:Addr) (sl:Nat->Addr):FA:={ A with ml:=ml,el:=el,pl:=pl,sl:=sl }
def FX.run (A:FA) (X:FX):List Int->FX
 | []=>X
 | b :: r=>FX.run A (X.see A b) r
theorem ya2 (A:FA):∀ (bs cs:List Int) (X:FX),X.run A (bs++cs)=(X.run A bs).run A cs
 | [],_,_=>rfl
 | b :: r,cs,X=>ya2 A r cs (X.see A b)
theorem yp1 (A:FA) (bs:List Int) (b:Int) (X:FX):X.run A (bs++[b])=(X.run A bs).see A b:=ya2 A bs [b] X
def fa0 (n:Nat) (ps:Nat->List Int):FA:={ dp:=0,ll:=0,bl:=0,mp:=0,mx:=0,ml:=0,el:=0,pl:=0,n:=n,bk:=fun _=>0,dx:=fun _=>0,lk:=fun _=>0,dd:=fun _=>0,sl:=fun _=>0,kd:=fun _=>0,ps:=ps }
theorem yhu (A:FA):∀ (bs:List Int) (X:FX),X.run A bs=X.run (fa0 A.n A.ps) bs
 | [],_=>rfl
 | b :: r,X=>yhu A r (X.see A b)
def vdy (H:Hp) (A:FA):Prop:=H A.ll=some (.lst (refs A.lk A.n))/\A.ll≠A.el/\∃ tp,ug H A.n A.lk A.kd tp A.ps
theorem vdy.same {H H':Hp} {A:FA} (h:vdy H A) (S:y0 H H'):vdy H' A:=⟨S _ _ h.1,h.2.1,let ⟨tp,r⟩:=h.2.2; ⟨tp,r.same S⟩⟩
structure Go (W:Addr->Prop) (H H':Hp) (W':Addr->Prop):Prop where
 fr:∀ c o,H c=some o->¬ W c->H' c=some o
 nw:∀ c,W' c->W c\/H c=none
 lv:∀ c o,H c=some o->∃ o',H' c=some o'
theorem Go.free {W W':Addr->Prop} {H H':Hp} (h:Go W H H' W') {c:Addr} (e:H' c=none):H c=none:=by
 cases z:H c with
 | none=>rfl
 | some o =>
  obtain ⟨a,w⟩:=h.lv c o z
  rw [e] at w
  cases w
theorem Go.refl {W:Addr->Prop} {H:Hp}:Go W H H W:=⟨fun _ _ e _=>e,fun _ w=>.inl w,fun _ o e=>⟨o,e⟩⟩
theorem Go.trans {W W1 W2:Addr->Prop} {H H1 H2:Hp} (h:Go W H H1 W1) (k:Go W1 H1 H2 W2):Go W H H2 W2:=by
 refine ⟨fun c o e a=>k.fr c o (h.fr c o e a) fun w=>?_,fun c w=>?_,fun c o e=>?_⟩
 ·rcases h.nw c w with v | v
  ·exact a v
  ·rw [e] at v
   cases v
 ·rcases k.nw c w with v | v
  ·exact h.nw c v
  ·exact .inr (h.free v)
 ·obtain ⟨d,b⟩:=h.lv c o e
  exact k.lv c d b
theorem Go.same {W W':Addr->Prop} {H H1 H2:Hp} (h:Go W H H1 W') (S:y0 H1 H2):Go W H H2 W':=⟨fun c o e a=>S _ _ (h.fr c o e a),h.nw,fun c o e=>let ⟨o',w⟩:=h.lv c o e; ⟨o',S _ _ w⟩⟩
theorem Go.ahead {W W':Addr->Prop} {H H1 H2:Hp} (S:y0 H H1) (h:Go W H1 H2 W'):Go W H H2 W':=⟨fun c o e=>h.fr c o (S _ _ e),fun c w=>(h.nw c w).imp id S.free,fun c o e=>h.lv c o (S _ _ e)⟩
theorem Go.apart {W W' U:Addr->Prop} {H H':Hp} (h:Go W H H' W') (hU:∀ c,U c->∃ o,H c=some o) (dj:∀ c,U c->¬ W c):∀ c,U c->¬ W' c:=fun c u w=>by
 rcases h.nw c w with v | v
 ·exact dj c u v
 ·obtain ⟨o,e⟩:=hU c u
  rw [v] at e
  cases e
section
variable {K:W.Frag} {a:Ads} {H H':Hp} {p:Addr} {n:Nat} {kd:Nat->Fin 3} {ps:Nat->List Int} {X:FX} {M:Nat} {W:Addr->Prop}
theorem yun {g:Nat->Addr} {n:Nat} (h:1 <= n):(refs g n)[0]?=some (.ref (g 0)):=by
 unfold refs
 rw [List.getElem?_map,List.getElem?_range h]
 rfl
end
theorem ysc:yk ["self","bit","slot"] ["self","bit"] (yg yxt):=wx (by right)
def yuk (K:W.Frag) (a:Ads):Sp:=fun vs H Q _=>∃ (p:Addr) (A:FA) (X:FX) (f:Nat->List Int->Option Slt) (O:Nat->Addr->Prop) (m:Nat) (b:Int),vs=[.ref p,.int b]/\zh K a H p A X f O m/\0 <= b/\b <= 1/\m+20 < 1000000/\0 <= X.nd/\X.sg.length <= 100000 /\
 ∀ (ml el pl:Addr) (sl:Nat->Addr) (f':Nat->List Int->Option Slt) (O':Nat->Addr->Prop) (H':Hp),(el=A.el\/H el=none)->zh K a H' p { A with ml:=ml,el:=el,pl:=pl,sl:=sl } (X.see A b) f' O' (m+A.n)->(∀ j c,j < A.n->O' j c->O j c\/H c=none) ->
  (∀ c o,H c=some o->c≠p->c≠A.mp->c≠A.el->(∀ j,j < A.n->¬ O j c)->H' c=some o)->(∀ c o,H c=some o->∃ o',H' c=some o')->H ml=none->Q .non H'
theorem ysl (T:Txt K mg a):wc P w K mg base CX0 6 a.f_q38 a.d_q38 ["self","bit"] (yuk K a):=by
 refine T.y_q38.F.ok ysc (fun vs H Q E h=>?_) (fun aI A ay s H vs Q E hr h=>?_)
 ·obtain ⟨p,A,X,f,O,m,b,rfl,_⟩:=h
  rfl
 ·obtain ⟨p,d,X,f,O,m,b,rfl,h,b0,b1,hm,ax,am,k⟩:=h
  have hp:=h.me
  have a9:=h.mx.o
  have n6:=h.n6
  have I:=va1 b0 b1
  refine yo (yu (vw (yct T) (hr.mono (by decide)) rfl T.y_q10.m T.y_q10.F.kp T.y_q10.B .nil wj (yb (pv 1) ye (yc rfl)))) ?_
  refine yo (yu (vt (yq (pv 0) rfl) T.cl_Mx T.y_q33.m (vbv T) (hr.mono (by decide)) T.y_q33.B .nil wj (yb (w8 (pv 0) T.cl_Ft T.y_q36.m (yr4 T) (hr.mono (by decide)) T.y_q36.B .nil vj) (yb (pv 1) ye (yc rfl)) (yc rfl)))) ?_
  refine yo (jd PassesOwn.never rfl (xx (yq (pv 0) rfl)) (xc (i:=2) ysc.nd rfl (Or.inl rfl)) (yf (yu (yjb (vt (pv 2) T.cl_Even T.y_q14.m (vb8 T) (hr.mono (by decide)) T.y_q14.B .nil wj (yb (pv 1) ye (yc rfl))) (yjb (vt (pv 2) T.cl_Quick T.y_q17.m (yz0 T) (hr.mono (by decide)) T.y_q17.B .nil wj (yb (pv 1) ye (yc rfl))) (vt (pv 2) T.cl_Run T.y_q20.m (vce T) (hr.mono (by decide)) T.y_q20.B .nil wj (yb (pv 1) ye (yc rfl)))))))) ?_
  refine yo (yu (xo (pv 0) T.cl_Ft T.y_q39.m (vck T) (hr.mono (by decide)) T.y_q39.B .nil vj (yb (pv 1) ye (yc rfl)))) ?_
  refine ⟨_,(yf (yu (w8 (pv 0) T.cl_Ft T.y_q35.m (yr5 T) (hr.mono (by decide)) T.y_q35.B .nil vj))),?_⟩
  try dsimp only [vz]
  refine yn (σ':=[some _,some _,none]) rfl ?_
  rfl'
  refine ⟨.int b,_,rfl,.int b,fun _=>?_,fun z=>(by rw [I] at z; cases z)⟩
  rfl'
  refine ⟨p,d,X,f,O,m,rfl,h,fun r H1 aH aq S1=>?_⟩
  have N:=S1 _ _ a9
  rfl'
  refine ⟨d.mp,d.mx,d.ml,r,X.ws,X.cs d,d.n,.int b,_,rfl,h.n1,n6,h.wok,h.cok,h.mx.same S1,SqL.of aq,.int b,fun b' e _ _ ml H2 a7 M2 W=>?_,fun z=>(by rw [I] at z; cases z)⟩
  cases e
  have M:=h.same S1
  have ae:p≠d.mp:=fun z=>by
   have:=h.me
   rw [z,a9] at this
   injection this with this
   injection this with _ _ e
   exact absurd (congrArg List.length e) (show ¬ (1=6) by decide)
  have aw:=W _ _ M.me ae
  have ac:∀ {l:Addr} {xs:List V},H1 l=some (.lst xs)->l≠d.mp:=fun {l xs} e z=>by rw [z,N] at e; cases e
  have a5:=W _ _ M.bl (ac M.bl)
  have a6:=W _ _ M.el (ac M.el)
  have a1:=W _ _ M.pl (ac M.pl)
  have a0:=M.B.frame (O2:=fun c=>c=d.mp) (fun c o e ne=>W c o e ne) (fun j c q w z=>h.nm j q (z ▸ w)) (fun j q z=>by
   have:=(M.B.b j q).me
   rw [z,N] at this
   injection this with this
   injection this with _ _ e
   exact absurd (congrArg List.length e) (show ¬ (1=2) by decide)) (fun t xs e=>by
   rcases e with (e | ⟨o,e⟩) | e
   ·exact .inl (.inl (W _ _ e (fun z=>by rw [z,N] at e; cases e)))
   ·exact .inl (.inr ⟨o,W _ _ e (fun z=>by rw [z,N] at e; cases e)⟩)
   ·exact .inr e)
  have av:∀ j,j < d.n->(∃ s,f j (X.key d j)=some s)/\AtS H2 (d.dd j) (X.key d j) (d.sl j):=fun j q=>⟨(M.at' j q).1,(M.at' j q).2.told (M.B.b j q) (fun z=>h.nm j q (by rw [<- z]; exact (M.B.b j q).dO)) W⟩
  rfl'
  refine ⟨d.pl,rfl,⟨_,SqL.of a1⟩,yab (K:=K) (a:=d.pl) (xs:=refs d.sl d.n) (fun i σ2 G=>∃ (v:Option V) (f':Nat->List Int->Option Slt),σ2=[some (.ref p),some (.int b),v]/\Bks K a G d.n d.bk d.dx d.lk d.dd d.kd d.ps f' O m /\
    (∀ j,j < d.n->∀ k,(f' j k).getD (kd0 (d.kd j))=if j < i/\k=X.key d j then (X.g j k).see b else X.g j k)/\(∀ j,j < d.n->(∃ s,f' j (X.key d j)=some s)/\AtS G (d.dd j) (X.key d j) (d.sl j))/\(∀ c o,H2 c=some o->(∀ j,j < d.n->¬ O j c)->G c=some o))
   ⟨_,f,rfl,a0,fun j q L=>by rw [if_neg (fun z=>absurd z.1 (Nat.not_lt_zero j))]; exact h.ag j q L,av,fun c o e _=>e⟩ (by rintro i σ2 G _ ⟨_,_,_,_,_,_,w⟩; exact SqL.of (w _ _ a1 (a0.nlst a1))) ?_ ?_⟩
  ·rintro i y σ2 G hy ⟨v,f',rfl,S,gA,gS,gF⟩
   obtain ⟨rfl,D⟩:=j8 hy
   obtain ⟨⟨s',ad⟩,aa⟩:=gS i D
   have es:s'=X.g i (X.key d i):=by
    have:=gA i D (X.key d i)
    rw [ad,if_neg (fun z=>absurd z.1 (Nat.lt_irrefl i))] at this
    exact this
   obtain ⟨dq,hq,ok,aK,au⟩:=(S.b i D).slot ad aa
   rfl'
   refine yuh (x:=.int b) (fun Q' h=>?_) (fun Q' h=>?_) hq ok (.int b) (fun b' e _ _ G3 h3 B3=>?_) (fun z=>by rw [I] at z; cases z) (fun z=>by rw [I] at z; cases z) (fun z=>by rw [I] at z; cases z)
   ·rfl'
    exact h
   ·rfl'
    exact h
   cases e
   have ar:=(S.b i D).told ad aa b0 b1 h3 B3
   have BO:yqq (O i) G G3:=fun c o e no=>B3 _ _ e fun z=>no (by rw [z]; exact au)
   have M3:=S.move D (Nat.le_refl m) ar (fun c w=>.inl w) BO
   have eO:(fun j=>if j=i then O i else O j)=O:=by
    funext j
    by_cases z:j=i
    ·rw [if_pos z,z]
    ·rw [if_neg z]
   rw [eO] at M3
   have ao:d.dd i≠d.sl i:=fun z=>by
    obtain ⟨aG,aJ,w1,_⟩:=(S.b i D).tb
    obtain ⟨C,fs,eo⟩:=ydl a dq s'
    rw [z,hq,eo] at w1
    cases w1
   rfl'
   refine ⟨_,_,rfl,M3,fun j q L=>?_,fun j q=>?_,fun c o e no=>?_⟩
   ·try dsimp only
    by_cases z:j=i
    ·subst z
     rw [if_pos rfl]
     unfold ye9
     by_cases w:L=X.key d j
     ·rw [if_pos w,if_pos ⟨Nat.lt_succ_self j,w⟩,w,<- es]
      rfl
     ·rw [if_neg w,if_neg (fun z=>w z.2)]
      have:=gA j q L
      rw [if_neg (fun z=>w z.2)] at this
      exact this
    ·rw [if_neg z,gA j q L]
     have:(j < i/\L=X.key d j) ↔ (j < i+1/\L=X.key d j):=by constructor <;> (rintro ⟨u,v⟩; exact ⟨by omega,v⟩)
     by_cases w:j < i/\L=X.key d j
     ·rw [if_pos w,if_pos (this.mp w)]
     ·rw [if_neg w,if_neg (fun z=>w (this.mpr z))]
   ·try dsimp only
    by_cases z:j=i
    ·subst z
     rw [if_pos rfl]
     refine ⟨⟨s'.see b,?_⟩,aa.told (S.b j D) ao B3⟩
     unfold ye9
     rw [if_pos rfl]
    ·rw [if_neg z]
     exact ⟨(gS j q).1,(gS j q).2.move S q D z BO⟩
   ·exact BO _ _ (gF c o e no) (no i D)
  ·rintro σ2 G ⟨v,f',rfl,S,gA,gS,gF⟩
   rw [wa] at gA
   have gp:=gF _ _ aw h.np
   have R:=gF _ _ a6 (a0.nlst a6)
   have aj:=gF _ _ a5 (a0.nlst a5)
   have Y:=gF _ _ M2.o h.nm
   have ak:=gF _ _ M2.l (a0.nlst M2.l)
   rfl'
   refine ⟨p,d.dp,d.ll,d.bl,d.mp,d.el,d.pl,X.nd,b,X.sg,rfl,gp,R,am,ax,fun el H4 af a8 a3 F4 L4=>?_⟩
   have ah:∀ {l:Addr} {xs:List V},G l=some (.lst xs)->l≠p:=fun {l xs} e z=>by rw [z,gp] at e; cases e
   have ap:∀ j,j < d.n->¬ O j p:=h.np
   have ai:=S.nlst R
   have a4:=S.frame (O2:=fun c=>c=p\/c=d.el) (fun c o e ne=>F4 c o e (fun z=>ne (.inl z)) (fun z=>ne (.inr z))) (fun j c q w z=>by
    rcases z with z | z
    ·exact ap j q (z ▸ w)
    ·exact ai j q (z ▸ w)) (fun j q z=>by
    have:=(S.b j q).me
    rcases z with z | z
    ·rw [z,gp] at this
     injection this with this
     injection this with _ _ e
     exact absurd (congrArg List.length e) (show ¬ (6=2) by decide)
    ·rw [z,R] at this
     cases this) (fun t xs e=>by
    rcases e with (e | ⟨o,e⟩) | e
    ·exact .inl (.inl (F4 _ _ e (fun z=>by rw [z,gp] at e; cases e) (fun z=>by rw [z,R] at e; cases e)))
    ·exact .inl (.inr ⟨o,F4 _ _ e (fun z=>by rw [z,gp] at e; cases e) (fun z=>by rw [z,R] at e; cases e)⟩)
    ·exact .inr e)
   have al:d.bl≠d.el:=fun z=>by
    have e:=h.bl
    rw [z,h.el] at e
    injection e with e
    injection e with e
    have e0:=congrArg (fun l:List V=>l[0]?) e
    have r0:(refs d.bk d.n)[0]?=some (.ref (d.bk 0)):=by
     unfold refs
     rw [List.getElem?_map,List.getElem?_range h.n1]
     rfl
    try dsimp only at e0
    rw [r0,List.getElem?_map] at e0
    cases hs:X.sg[0]? with
    | none=>rw [hs] at e0; cases e0
    | some c=>rw [hs] at e0; cases e0
   have aD:ml≠d.el:=(yd M.el a7).symm
   have a2:=F4 _ _ aj (ah aj) al
   have aC:=F4 _ _ Y (Ne.symm ae) (fun z=>by rw [z,R] at Y; cases Y)
   have ab:=F4 _ _ ak (ah ak) aD
   have Z:∀ c o,H c=some o->∃ o',H4 c=some o':=fun c o e=>by
    by_cases zp:c=p
    ·exact ⟨_,zp ▸ a8⟩
    by_cases ze:c=d.el
    ·rw [ze]
     exact L4
    have gc:∃ o',G c=some o':=by
     by_cases zm:c=d.mp
     ·exact ⟨_,zm ▸ Y⟩
     by_cases zo:∀ j,j < d.n->¬ O j c
     ·exact ⟨o,gF _ _ (W _ _ (S1 _ _ e) zm) zo⟩
     ·have:∃ j,j < d.n/\O j c:=Classical.byContradiction fun w=>zo fun j q w'=>w ⟨j,q,w'⟩
      obtain ⟨j,q,w⟩:=this
      obtain ⟨o',J,_⟩:=(S.b j q).own c w
      exact ⟨o',J⟩
    obtain ⟨o',J⟩:=gc
    exact ⟨o',F4 _ _ J zp ze⟩
   have as:yqk d.n d.kd f' (X.see d b).g:=fun j q L=>by
    rw [gA j q L]
    show _=if L=X.key d j then (X.g j L).see b else X.g j L
    by_cases w:L=X.key d j
    ·rw [if_pos ⟨q,w⟩,if_pos w]
    ·rw [if_neg (fun z=>w z.2),if_neg w]
   rfl'
   refine ⟨p,d.dp,d.ll,d.bl,d.mp,el,d.pl,ndN X.nd b,sgN X.sg X.nd b,d.n,m,d.bk,d.dx,d.lk,d.dd,d.kd,d.ps,f',O,(X.see d b).g,rfl,a8,a2,a3,a4,as,n6,by omega,h.np,fun pl sl f2 O2 H5 az aE aF B5 an aB aA F5 L5=>?_⟩
   have U:∀ {l:Addr} {xs:List V},H4 l=some (.lst xs)->l≠p:=fun {l xs} e z=>by rw [z,a8] at e; cases e
   have n2:∀ j c,j < d.n->O2 j c->O j c\/H c=none:=fun j c q w=>by
    rcases aA j c q w with v | v
    ·exact .inl v
    ·refine .inr ?_
     cases e:H c with
     | none=>rfl
     | some o =>
      obtain ⟨o',J⟩:=Z c o e
      rw [J] at v
      cases v
   refine k ml el pl sl f2 O2 H5 ?_ ⟨az,F5 _ _ a2 (U a2) (a4.nlst a2),F5 _ _ a3 (U a3) (a4.nlst a3),⟨F5 _ _ aC (Ne.symm ae) h.nm,F5 _ _ ab (U ab) (a4.nlst ab)⟩,yq4 h.n1 n6 h.wok h.cok,aE,B5,an,aB,fun j q w=>?_,fun j q w=>?_,h.n1,n6⟩ n2 (fun c o e c1 c2 c3 no=>F5 _ _ (F4 _ _ (gF _ _ (W _ _ (S1 _ _ e) c2) no) c1 c3) c1 no) (fun c o e=>let ⟨o',w⟩:=Z c o e; L5 c o' w) (S1.free a7)
   ·rcases af with z | z
    ·exact .inl z
    ·refine .inr ?_
     cases e:H el with
     | none=>rfl
     | some o =>
      exfalso
      by_cases zp:el=p
      ·rw [zp,gp] at z; cases z
      by_cases zm:el=d.mp
      ·rw [zm,Y] at z; cases z
      by_cases zo:∀ j,j < d.n->¬ O j el
      ·rw [gF _ _ (W _ _ (S1 _ _ e) zm) zo] at z; cases z
      ·have:∃ j,j < d.n/\O j el:=Classical.byContradiction fun w=>zo fun j q w'=>w ⟨j,q,w'⟩
       obtain ⟨j,q,w⟩:=this
       obtain ⟨o',J,_⟩:=(S.b j q).own el w
       rw [J] at z
       cases z
   ·rcases n2 j p q w with v | v
    ·exact h.np j q v
    ·rw [hp] at v; cases v
   ·rcases n2 j d.mp q w with v | v
    ·exact h.nm j q v
    ·rw [a9] at v; cases v
theorem Go.bs {W W':Addr->Prop} {B H H':Hp} (g:Go W H H' W') (S:y0 B H) (hW:∀ c,W c->B c=none):y0 B H'/\∀ c,W' c->B c=none:=by
 refine ⟨fun c o e=>g.fr c o (S _ _ e) fun w=>?_,fun c w=>?_⟩
 ·rw [hW c w] at e
  cases e
 ·rcases g.nw c w with z | z
  ·exact hW c z
  ·exact S.free z
theorem ybt {A:FA} {X:FX} {bs:List Int} {k:Nat} {b:Int} (h:bs[k]?=some b):X.run A (bs.take (k+1))=(X.run A (bs.take k)).see A b:=by
 rw [yaw h,yp1]
structure FGo (p:Addr) (A:FA) (O:Nat->Addr->Prop) (H H':Hp) (el:Addr) (O':Nat->Addr->Prop):Prop where
 he:el=A.el\/H el=none
 hO:∀ j c,j < A.n->O' j c->O j c\/H c=none
 fr:∀ c o,H c=some o->c≠p->c≠A.mp->c≠A.el->(∀ j,j < A.n->¬ O j c)->H' c=some o
 live:∀ c o,H c=some o->∃ o',H' c=some o'
theorem FGo.free {p:Addr} {A:FA} {O O':Nat->Addr->Prop} {H H':Hp} {el c:Addr} (h:FGo p A O H H' el O') (hc:H' c=none):H c=none:=by
 cases e:H c with
 | none=>rfl
 | some o =>
  obtain ⟨a,w⟩:=h.live c o e
  rw [hc] at w
  cases w
theorem FGo.refl {p:Addr} {A:FA} {O:Nat->Addr->Prop} {H:Hp}:FGo p A O H H A.el O:=⟨.inl rfl,fun _ _ _ w=>.inl w,fun _ _ e _ _ _ _=>e,fun _ o e=>⟨o,e⟩⟩
theorem FGo.trans {p:Addr} {A:FA} {O O1 O2:Nat->Addr->Prop} {H H1 H2:Hp} {ml el pl el2:Addr} {sl:Nat->Addr} (h:FGo p A O H H1 el O1) (k:FGo p (A.re ml el pl sl) O1 H1 H2 el2 O2):FGo p A O H H2 el2 O2:=by
 refine ⟨?_,fun j c a w=>?_,fun c o e g b d f=>?_,fun c o e=>?_⟩
 ·rcases k.he with z | z
  ·rcases h.he with y | y
   ·exact .inl (z.trans y)
   ·exact .inr (by rw [show el2=el from z]; exact y)
  ·exact .inr (h.free z)
 ·rcases k.hO j c a w with v | v
  ·exact h.hO j c a v
  ·exact .inr (h.free v)
 ·refine k.fr c o (h.fr c o e g b d f) g b (fun z=>?_) (fun j a w=>?_)
  ·rcases h.he with y | y
   ·exact d (z.trans y)
   ·rw [show c=el from z,y] at e
    cases e
  ·rcases h.hO j c a w with v | v
   ·exact f j a v
   ·rw [e] at v
    cases v
 ·obtain ⟨l,i⟩:=h.live c o e
  exact k.live c l i
theorem FGo.same {p:Addr} {A:FA} {O O':Nat->Addr->Prop} {H H1 H2:Hp} {el:Addr} (h:FGo p A O H H1 el O') (S:y0 H1 H2):FGo p A O H H2 el O' :=
 ⟨h.he,h.hO,fun c o e f a b d=>S _ _ (h.fr c o e f a b d),fun c o e=>let ⟨o',w⟩:=h.live c o e; ⟨o',S _ _ w⟩⟩
theorem FGo.kpa {K:W.Frag} {a:Ads} {p:Addr} {A:FA} {X:FX} {f:Nat->List Int->Option Slt} {O O':Nat->Addr->Prop} {m:Nat} {H H':Hp} {el:Addr} (hf:zh K a H p A X f O m) (h:FGo p A O H H' el O'):KpA H H' A.el el:=fun c o e i k=>by
 refine ⟨?_,h.fr c o e (fun z=>by rw [z,hf.me] at e; cases e; cases i) (fun z=>by rw [z,hf.mx.o] at e; cases e; cases i) k fun j l w=>?_⟩
 ·rcases h.he with z | z
  ·rw [z]
   exact k
  ·exact yd e z
 ·obtain ⟨n,g,d⟩:=(hf.B.b j l).own c w
  rw [e] at g
  cases g
  rw [i] at d
  cases d
theorem yzc {g:Nat->Addr} {n:Nat} (h:1 <= n):(refs g n)[0]?=some (.ref (g 0)):=by
 unfold refs
 rw [List.getElem?_map,List.getElem?_range h]
 rfl
structure ye6 (H:Hp) (t:Addr) (ts:List Int) (w:Nat):Prop where
 l:H t=some (.lst (ts.map V.int))
 s:Sgs ts
 z:ts.length <= w
theorem ye6.same {H H':Hp} {t:Addr} {ts:List Int} {w:Nat} (h:ye6 H t ts w) (S:y0 H H'):ye6 H' t ts w:=⟨S _ _ h.l,h.s,h.z⟩
def fX (n:Nat) (kd:Nat->Fin 3) (ps:Nat->List Int) (pre:List Int) (ts:List Int) (k:Nat):FX:=((FX0 n kd).run (fa0 n ps) pre).run (fa0 n ps) ((dec ts).take k)
def ju (n:Nat) (kd:Nat->Fin 3) (ps:Nat->List Int) (pre:List Int) (ts:List Int) (k:Nat):Int:=ysz (fX n kd ps pre ts k).ws ((fX n kd ps pre ts k).cs (fa0 n ps))
def wg (ts:List Int) (k:Nat):Int:=((dec ts)[k]?).getD 0
theorem yo4 (ts:List Int) (k:Nat) (h:k < (dec ts).length):0 <= wg ts k/\wg ts k <= 1:=by
 unfold wg
 rw [List.getElem?_eq_getElem h]
 exact yaa ts _ (List.getElem_mem h)
def vgc (H:Hp) (lx:V) (N w:Nat) (lt:Nat->Addr) (tt:Nat->List Int):Prop:=((lx=.non/\N=0)\/∃ ll,lx=.ref ll/\H ll=some (.lst (refs lt N)))/\∀ i,i < N->ye6 H (lt i) (tt i) w
structure vhe (H:Hp) (L tx:Addr) (lx:V) (n:Nat) (lk:Nat->Addr) (kd:Nat->Fin 3) (tp:Nat->Addr) (ps:Nat->List Int) (ts:List Int) (N w:Nat) (lt:Nat->Addr) (tt:Nat->List Int):Prop where
 l:H L=some (.lst (refs lk n))
 n1:1 <= n
 n6:n <= 6
 r:ug H n lk kd tp ps
 t:ye6 H tx ts 1000
 lr:vgc H lx N w lt tt
 w1:w <= 1000
 N1:N <= 1000
 b:6+6 * (N * (9 * w+1))+6 * (9 * ts.length+1)+20 < 1000000
theorem Sds.refs {K:W.Frag} {H:Hp} {k:Nat} {g:Nat->Addr} {d:Nat->PyData}:∀ (n:Nat),(∀ i,i < n->Sd K H (.ref (g i)) (d i) k)->Sds K H (refs g n) ((List.range n).map d) k:=fun n h=>by
 unfold Law.refs
 have a:∀ l:List Nat,(∀ i∈l,i < n)->Sds K H (l.map fun i=>V.ref (g i)) (l.map d) k:=by
  intro l
  induction l with
  | nil=>exact fun _=>.nil
  | cons i r ih=>exact fun b=>.cons (h i (b i (by simp))) (ih fun j c=>b j (by simp [c]))
 exact a (List.range n) fun i e=>List.mem_range.mp e
structure XOk (n:Nat) (X:FX):Prop where
 w:WOk n X.ws
 s:∀ i k,(X.g i k).ok
theorem XOk.cs {n:Nat} {X:FX} (h:XOk n X) (ps:Nat->List Int):COk n (X.cs (fa0 n ps)):=by
 refine ⟨by unfold FX.cs; rw [List.length_map,List.length_range]; rfl,fun c a=>?_,fun c a=>?_⟩
 ·obtain ⟨j,_,rfl⟩:=List.mem_map.mp a
  exact (yjj (h.s _ _)).1
 ·obtain ⟨j,_,rfl⟩:=List.mem_map.mp a
  exact (yjj (h.s _ _)).2
theorem XOk.see {n:Nat} {X:FX} (h:XOk n X) (n1:1 <= n) (n6:n <= 6) (ps:Nat->List Int) {b:Int} (b0:0 <= b) (b1:b <= 1):XOk n (X.see (fa0 n ps) b):=by
 refine ⟨yq4 n1 n6 h.w (h.cs ps),fun i k=>?_⟩
 show (if k=X.key (fa0 n ps) i then (X.g i k).see b else X.g i k).ok
 split
 ·exact Slt.see_ok (h.s i k) b0 b1
 ·exact h.s i k
theorem XOk.run {n:Nat} (n1:1 <= n) (n6:n <= 6) (ps:Nat->List Int):∀ (bs:List Int) {X:FX},XOk n X->ygt bs->XOk n (X.run (fa0 n ps) bs)
 | [],_,h,_=>h
 | b :: r,_,h,hb=>XOk.run n1 n6 ps r (h.see n1 n6 ps (hb b (by simp)).1 (hb b (by simp)).2) fun c a=>hb c (by simp [a])
theorem XOk.zero {n:Nat} (n1:1 <= n) (n6:n <= 6) (kd:Nat->Fin 3):XOk n (FX0 n kd):=⟨vc7 n n1 n6,fun i _=>ysi (kd i)⟩
theorem yl8 {bs:List Int} (h:ygt bs) (k:Nat):ygt (bs.take k):=fun b a=>h b (List.mem_of_mem_take a)
theorem vds {n:Nat} (n1:1 <= n) (n6:n <= 6) {kd:Nat->Fin 3} {ps:Nat->List Int} {pre ts:List Int} (hp:ygt pre) (k:Nat):XOk n (fX n kd ps pre ts k):=by
 unfold fX
 exact ((XOk.zero n1 n6 kd).run n1 n6 ps pre hp).run n1 n6 ps _ (yl8 (yaa ts) k)
theorem ye0 {n:Nat} (n1:1 <= n) (n6:n <= 6) {kd:Nat->Fin 3} {ps:Nat->List Int} {pre ts:List Int} (hp:ygt pre) (k:Nat):Ch (ju n kd ps pre ts k):=yn6 n1 (vds (kd:=kd) (ps:=ps) (ts:=ts) n1 n6 hp k).w ((vds (kd:=kd) (ps:=ps) (ts:=ts) n1 n6 hp k).cs ps)
theorem vbu:yk ["sign"] ["sign"] (yg yvl):=wx (by right)
def yjz (K:W.Frag):Sp:=fun vs H Q _=>∃ s:Int,vs=[.int s]/\∀ r H',H r=none->H' r=some (.lst ((b8 s).map V.int))->y0 H H'->Q (.ref r) H'
theorem yx9 (T:Txt K mg a):wc P w K mg base CX0 1 a.f_q41 a.d_q41 ["sign"] (yjz K):=by
 refine T.y_q41.F.ok vbu (fun p H Q E h=>?_) (fun n A e s H p Q E r h=>?_)
 ·obtain ⟨s,rfl,_⟩:=h
  rfl
 ·obtain ⟨o,rfl,k⟩:=h
  refine ⟨_,(yf (y7 (w9 (js:=[0]) (ys:=["sign"]) rfl (yji (yh3 rfl T.m_WORTHS)) (fun C t d u=>(yr xa (yr vq (pv 1) (pv 0)) yi)) rfl rfl (hyc:=(all_cons rfl vd)) (hrel:=(all_cons rfl vd))))),?_⟩
  try dsimp only [vz]
  refine yn (σ':=[some _]) rfl ?_
  rfl'
  refine ⟨a.W_WORTHS,rfl,⟨_,T.w_WORTHS H⟩,fun D f=>?_⟩
  refine ydi (wV o) (T.w_WORTHS H) f (fun i y d j g b=>?_) (fun d g b=>?_)
  ·obtain ⟨c,m,rfl,q⟩:∃ c,0 < c/\y=V.int c/\c <= 128:=by
    have l:=List.mem_of_getElem? j
    simp only [List.mem_cons,List.not_mem_nil,or_false] at l
    rcases l with rfl | rfl | rfl | rfl | rfl | rfl | rfl | rfl <;> exact ⟨_,by decide,rfl,by decide⟩
   rfl'
   exact Mp.done f (by show 8 < sizeLine; decide) j g b rfl
  ·exact k D d f b g
theorem ynn:yk ["text","bits","sign"] ["text"] (yg ywt):=wx (by right)
def vav (K:W.Frag):Sp:=fun vs H Q _=>∃ (t:Addr) (ns:List Int),vs=[.ref t]/\H t=some (.lst (ns.map V.int))/\Sgs ns/\ns.length <= 1000/\∀ r H',H r=none->H' r=some (.lst ((dec ns).map V.int))->y0 H H'->Q (.ref r) H'
theorem yyh (T:Txt K mg a):wc P w K mg base CX0 5 a.f_q42 a.d_q42 ["text"] (vav K):=by
 refine T.y_q42.F.ok ynn (fun vs H Q E h=>?_) (fun W A O s H vs Q E S h=>?_)
 ·obtain ⟨t,f,rfl,_⟩:=h
  rfl
 ·obtain ⟨t,f,rfl,U,hs,Y,k⟩:=h
  refine ⟨_,(yh (yy (i:=1) ynn.nd rfl (Or.inl rfl) (xj ye)) (yh (jd PassesOwn.never rfl (xx (vw (vc6 T) (S.mono (by decide)) rfl T.y_q6.m T.y_q6.F.kp T.y_q6.B .nil wj (yb (pv 0) ye (yc rfl)))) (xc (i:=2) ynn.nd rfl (Or.inl rfl)) (yh (yu (ybh PySem.F.plainAttrs_list PySem.F.slot_list_append PySem.F.type_list_append wu (pv 1) (yb yi ye (yc rfl)))) (yf (yu (ybh PySem.F.plainAttrs_list PySem.F.slot_list_extend PySem.F.type_list_extend ylq (pv 1) (yb (vn (yx9 T) (S.mono (by decide)) rfl T.y_q41.m T.y_q41.F.kp T.y_q41.B .nil vj (yb (pv 2) ye (yc rfl))) ye (yc rfl))))))) (yh (yu (ybh PySem.F.plainAttrs_list PySem.F.slot_list_append PySem.F.type_list_append wu (pv 1) (yb yi ye (yc rfl)))) (yf (y7 (pv 1)))))),?_⟩
  try dsimp only [vz]
  refine yn (σ':=[some _,none,none]) rfl ?_
  rfl'
  refine ⟨by walk_at "len",fun r hr0=>?_⟩
  with_reducible first | refine yw hr0 fun H1 S1 hr1=>?_ | refine ve hr0 fun H1 S1 hr1=>?_
  rfl'
  refine ⟨.ref t,_,rfl,.lst (S1 _ _ U),.inr ⟨f.map V.int,yi7 (S1 _ _ U) hs Y,fun c H2 j l R=>?_⟩⟩
  have D:=S1.trans R
  refine ⟨c,rfl,⟨_,SqL.of l⟩,yab (K:=K) (a:=c) (xs:=f.map V.int) (fun i σ2 G=>∃ v,σ2=[some (.ref t),some (.ref r),v]/\G r=some (.lst ((ygs (f.take i)).map V.int))/\G c=some (.lst (f.map V.int))/\y0 H G)
   ⟨_,rfl,R _ _ hr1,l,D⟩ (by rintro i σ2 G _ ⟨_,_,_,z,_⟩; exact SqL.of z) ?_ ?_⟩
  ·rintro i y σ2 G hi ⟨v,rfl,d,u,I⟩
   obtain ⟨z,rfl,X,J,Z⟩:=yag hi
   have p:c≠r:=fun e=>by rw [e,hr1] at j; cases j
   have x:(List.map V.int (ygs (f.take i))).length <= 9000:=by rw [List.length_map,z6,List.length_take]; omega
   rfl'
   refine jr d ?_
   rfl'
   refine xv d (vx (by omega)) ?_
   have n:y0 H (upd G r (.lst (List.map V.int (ygs (f.take i))++[V.int 1]))):=fun b o e=>yj (yd e hr0) (I b o e)
   have C:upd G r (.lst (List.map V.int (ygs (f.take i))++[V.int 1])) c=some (.lst (f.map V.int)):=yj p u
   have g:upd G r (.lst (List.map V.int (ygs (f.take i))++[V.int 1])) r=some (.lst (List.map V.int (ygs (f.take i)++[1]))):=by rw [ya,List.map_append]; rfl
   generalize upd G r (.lst (List.map V.int (ygs (f.take i))++[V.int 1]))=G1 at n C g ⊢
   rfl'
   refine jr g ?_
   rfl'
   refine ⟨z,rfl,fun q G2 a0 L N=>?_⟩
   rfl'
   have M:=N _ _ g
   refine ⟨r,q,_,_,rfl,rfl,M,L,yhr (by rw [List.length_map,List.length_map,List.length_append,yrv]; rw [List.length_map] at x; show _+1+8 <= _; omega),?_⟩
   rfl'
   refine ⟨_,rfl,?_,?_,fun b o e=>yj (yd e hr0) (N _ _ (n b o e))⟩
   ·rw [ya,yaw J,yf8,yom,List.append_assoc]
    rfl
   ·exact yj p (N _ _ C)
  ·rintro σ2 G ⟨v,rfl,d,u,I⟩
   rw [List.length_map,List.take_length] at d
   rfl'
   refine jr d ?_
   rfl'
   refine xv d (vx (by rw [List.length_map,z6]; omega)) ?_
   rfl'
   refine k r _ hr0 ?_ fun b o e=>yj (yd e hr0) (I b o e)
   rw [ya,yqi,List.map_append]
   rfl
theorem ynv:yk ["number","size","places"] ["number","size"] (yg ywa):=wx (by right)
def yjw:Sp:=fun vs H Q _=>∃ (n:Int) (k:Nat),vs=[.int n,.int k]/\k <= 100000/\∀ t H',H t=none->H' t=some (.lst ((wr k n).map V.int))->y0 H H'->Q (.ref t) H'
theorem vbc (T:Txt K mg a):wc P w K mg base CX0 1 a.f_q43 a.d_q43 ["number","size"] yjw:=by
 refine T.y_q43.F.ok ynv (fun z H Q E h=>?_) (fun v A q s H z Q E C h=>?_)
 ·obtain ⟨n,d,rfl,_⟩:=h
  rfl
 ·obtain ⟨n,d,rfl,D,k⟩:=h
  refine ⟨_,(yh (yy (i:=2) ynv.nd rfl (Or.inl rfl) (xj ye)) (yh (z8 PassesOwn.never (y8 ygm (yt yz rfl T.z_len (by right) (yb (pv 2) ye (yc rfl))) (pv 1) (vg _)) (yh (yu (ybh PySem.F.plainAttrs_list PySem.F.slot_list_append PySem.F.type_list_append wu (pv 2) (yb (yr xa (pv 0) yi) ye (yc rfl)))) (yf (yy (i:=0) ynv.nd rfl (Or.inl rfl) (yr vq (pv 0) yi))))) (yh (yu (yjc PySem.F.plainAttrs_list PySem.F.slot_list_reverse PySem.F.type_list_reverse yaz (pv 2))) (yf (y7 (pv 2)))))),?_⟩
  try dsimp only [vz]
  refine yn (σ':=[some _,some _,none]) rfl ?_
  rfl'
  refine ⟨by walk_at "len",fun t l=>?_⟩
  rfl'
  refine ⟨fun m σ' r=>∃ (f:Int) (c:List Int),σ'=[some (.int f),some (.int d),some (.ref t)]/\r t=some (.lst (c.map V.int))/\y0 H r/\c++lo (d - c.length) f=lo d n/\c.length <= d/\m=d - c.length,⟨_,n,[],rfl,ya,vv l,rfl,Nat.zero_le _,rfl⟩,?_⟩
  rintro m σ2 B ⟨f,c,rfl,g,u,j,G,rfl⟩
  rfl'
  refine zw (SqL.of g) ?_
  rw [List.length_map]
  rfl'
  refine u6 (fun x=>?_) (fun x=>?_)
  ·refine ygl ?_
   rfl'
   refine jr g ?_
   rfl'
   refine xv g (by rw [List.length_map]; exact vx (by omega)) ?_
   rfl'
   refine ⟨_,?_,f / 256,c++[f % 256],rfl,(ya.trans (by rw [ypg])),fun b o e=>?_,?_,?_,rfl⟩
   ·rw [List.length_append]
    show d - (c.length+1) < d - c.length
    omega
   ·rw [ym (yd e l)]
    exact u b o e
   ·have p:d - c.length=d - (c++[f % 256]).length+1:=by
     rw [List.length_append]
     show d - c.length=d - (c.length+1)+1
     omega
    rw [p] at j
    rw [<- j,List.append_assoc]
    rfl
   ·rw [List.length_append]
    show c.length+1 <= d
    omega
  ·rfl'
   have p:d - c.length=0:=by omega
   rw [p] at j
   have y:c=lo d n:=by rw [<- j]; simp [lo]
   refine jr g ?_
   refine yci g ?_
   rfl'
   refine k t _ l ?_ fun b o e=>?_
   ·rw [ya,yul,y]
    rfl
   ·rw [ym (yd e l)]
    exact u b o e
theorem yy6:yk ["low","unit"] ["low","unit"] (yg yv6):=wx (by right)
def ycu:Sp:=fun vs H Q _=>∃ l e:Int,vs=[.int l,.int e]/\0 < e/\e < 2 ^ 63/\Q (.int (blk l e)) H
theorem ysb (T:Txt K mg a):wc P w K mg base CX0 1 a.f_q44 a.d_q44 ["low","unit"] ycu:=by
 refine T.y_q44.F.ok yy6 (fun d H Q E h=>?_) (fun c A b s H d Q E f h=>?_)
 ·obtain ⟨l,e,rfl,_⟩:=h
  rfl
 ·obtain ⟨l,e,rfl,g,i,k⟩:=h
  refine ⟨_,(yf (y7 (yr vq (yr ur (yr we (pv 0) (pv 1)) yi) (pv 1)))),?_⟩
  try dsimp only [vz]
  refine yn (σ':=[some _,some _]) rfl ?_
  rfl'
  exact k
theorem yz5:yk ["self"] ["self"] (yg ywo):=wx (by right)
def ytd (C:Addr):Sp:=fun vs H Q _=>∃ (p dx:Addr),vs=[.ref p]/\H p=some (.ins C dx [])/\∀ H',H' p=some (.ins C dx (zx s0))->But p H H'->Q .non H'
theorem ysj (T:Txt K mg a):wc P w K mg base CX0 1 a.f_q45 a.d_q45 ["self"] (ytd a.C_Span):=by
 refine T.y_q45.F.ok yz5 (fun i H Q E h=>?_) (fun f A d s H i Q E j h=>?_)
 ·obtain ⟨p,c,rfl,_⟩:=h
  rfl
 ·obtain ⟨p,c,rfl,g,k⟩:=h
  refine ⟨_,(yh (y9 (pv 0) yi rfl) (yh (y9 (pv 0) (vo rfl T.c_FIRST_WIDTH) rfl) (yf (y9 (pv 0) (vo rfl T.c_FIRST_SIZE) rfl)))),?_⟩
  try dsimp only [vz]
  refine yn (σ':=[some _]) rfl ?_
  rfl'
  refine ⟨p,_,c,_,rfl,g,T.cl_Span,T.n_Span_low,by show 0 < 1000; decide,?_⟩
  rfl'
  refine ⟨p,_,c,_,rfl,ya,T.cl_Span,T.n_Span_width,by show 1 < 1000; decide,?_⟩
  rfl'
  refine ⟨p,_,c,_,rfl,ya,T.cl_Span,T.n_Span_size,by show 2 < 1000; decide,?_⟩
  have e:z9 "size" (.int 5) (z9 "width" (.int 1099511627776) (z9 "low" (.int 0) []))=zx s0:=by
   rw [wk,vh nLW wk,vh nLS (vh nWS wk)]
   rfl
  refine k _ (ya.trans (congrArg (fun l=>some (HO.ins a.C_Span c l)) e)) fun b o h n=>?_
  rw [ym n,ym n,ym n]
  exact h
theorem vax:yk ["self","chance"] ["self","chance"] (yg ywc):=wx (by right)
def vbm (C:Addr):Sp:=fun vs H Q _=>∃ (p dx:Addr) (x:Sn) (c:Int),vs=[.ref p,.int c]/\H p=some (.ins C dx (zx x))/\Ch c/\Q (.int (cut x.2.1 c)) H
theorem ysv (T:Txt K mg a):wc P w K mg base CX0 1 a.f_q46 a.d_q46 ["self","chance"] (vbm a.C_Span):=by
 refine T.y_q46.F.ok vax (fun f H Q E h=>?_) (fun d A b s H f Q E j h=>?_)
 ·obtain ⟨p,e,x,c,rfl,_⟩:=h
  rfl
 ·obtain ⟨p,e,x,c,rfl,i,⟨l,g⟩,k⟩:=h
  refine ⟨_,(yf (y7 (yr vq (yr wv (yq (pv 0) rfl) (pv 1)) (vo rfl T.c_ONE)))),?_⟩
  try dsimp only [vz]
  refine yn (σ':=[some _,some _]) rfl ?_
  rfl'
  exact k
theorem yri:yk ["self","chance","bit","cut"] ["self","chance","bit"] (yg yvz):=wx (by right)
def ylu (K:W.Frag) (C Nc Nb:Addr):Sp:=fun vs H Q E=>∃ (p dx:Addr) (x:Sn) (vc vb:V) (n m:String),vs=[.ref p,vc,vb]/\H p=some (.ins C dx (zx x))/\Ok x/\xz K H vc (.type n)/\xz K H vb (.type m) /\
 (chV vc=false->E (.ref Nc) none H)/\(chV vc=true->ybp vb=false->E (.ref Nb) none H) /\
 ∀ c b:Int,vc=.int c->vb=.int b->Ch c->0 <= b->b <= 1->∀ H',H' p=some (.ins C dx (zx (nar x c b)))->But p H H'->Q .non H'
theorem yrn (T:Txt K mg a):wc P w K mg base (CXe P w) 4 a.f_q47 a.d_q47 ["self","chance","bit"] (ylu K a.C_Span a.C_NC a.C_NB):=by
 refine T.y_q47.F.okE yri (fun vs H Q E h=>?_) (fun O A t s H vs Q E r h=>?_)
 ·obtain ⟨p,f,x,C,J,n,m,rfl,_⟩:=h
  rfl
 ·obtain ⟨p,f,x,C,J,n,m,rfl,G,D,tc,N,Y,L,k⟩:=h
  refine ⟨_,(yh (yu (vw (yxq T) (r.mono (by decide)) rfl T.y_q9.m T.y_q9.F.kp T.y_q9.B .nil yx (yb (pv 1) ye (yc rfl)))) (yh (yu (vw (yct T) (r.mono (by decide)) rfl T.y_q10.m T.y_q10.F.kp T.y_q10.B .nil yx (yb (pv 2) ye (yc rfl)))) (yh (yy (i:=3) yri.nd rfl (Or.inl rfl) (xo (pv 0) T.cl_Span T.y_q46.m (ysv T) (r.mono (by decide)) T.y_q46.B .nil vj (yb (pv 1) ye (yc rfl)))) (yh (ut (ww (y8 uw (pv 2) yi (vg _)) (yf (y9 (pv 0) (pv 3) rfl)) (yh (y9 (pv 0) (yr we (yq (pv 0) rfl) (pv 3)) rfl) (yf (y9 (pv 0) (yr ur (yq (pv 0) rfl) (pv 3)) rfl))))) (yf (PS.nox (z8 PassesOwn.never (y8 ygm (yq (pv 0) rfl) (vo rfl T.c_LEAST_WIDTH) (vg _)) (yh (y9 (pv 0) (yr wv (yq (pv 0) rfl) yi) rfl) (yh (y9 (pv 0) (yr wv (yq (pv 0) rfl) yi) rfl) (yf (y9 (pv 0) (yr we (yq (pv 0) rfl) yi) rfl))))))))))),?_⟩
  try dsimp only [vz]
  refine yn (σ':=[some _,some _,some _,none]) rfl ?_
  have o:=D.w0
  have u:=D.w1
  rfl'
  refine ⟨C,n,rfl,tc,fun g=>?_,Y⟩
  rfl'
  refine ⟨J,m,rfl,N,fun l=>?_,L g⟩
  obtain ⟨c,rfl,X,c2⟩:=yhp g
  obtain ⟨b,rfl,b0,M⟩:=yim l
  have j:Ch c:=⟨X,c2⟩
  have k:=k c b rfl rfl j b0 M
  rfl'
  refine ⟨p,f,_,rfl,G,lkN _ (by right) (by right) (by right),?_⟩
  rfl'
  refine ⟨p,f,x,c,rfl,G,j,?_⟩
  rfl'
  obtain ⟨a1,R,a3⟩:=ygi o u j
  refine yog (fun σ' e=>∃ y:Sn,σ'=[some (.ref p),some (.int c),some (.int b),some (.int (cut x.2.1 c))]/\e p=some (.ins a.C_Span f (zx y))/\8388608 <= y.2.1/\y.2.1 <= 1099511627776/\ren y.1 y.2.1 y.2.2=nar x c b/\But p H e) ?_ ?_
  ·rfl'
   refine u6 (fun d=>?_) (fun d=>?_)
   ·rfl'
    refine ⟨_,rfl,ya,a1,Int.le_of_lt a3,?_,But.upd⟩
    unfold nar
    (rw [if_pos d]) <;> rfl
   ·rfl'
    refine ⟨_,rfl,ya,R,?_,?_,But.upd.trans But.upd⟩
    ·show x.2.1 - cut x.2.1 c <= _
     omega
    ·unfold nar
     (rw [if_neg d]) <;> rfl
  ·rintro σ' e ⟨y,rfl,v,y1,Z,U,W⟩
   refine ⟨fun m σ' e=>∃ y:Sn,σ'=[some (.ref p),some (.int c),some (.int b),some (.int (cut x.2.1 c))]/\e p=some (.ins a.C_Span f (zx y))/\8388608 <= y.2.1/\y.2.1 <= 1099511627776/\ren y.1 y.2.1 y.2.2=nar x c b/\But p H e/\m=(4294967296 - y.2.1).toNat,⟨_,y,rfl,v,y1,Z,U,W,rfl⟩,?_⟩
   rintro m σ2 H2 ⟨z,rfl,hz,S,z2,q,I,rfl⟩
   rfl'
   refine u6 (fun d=>?_) (fun d=>?_)
   ·refine ygl ?_
    rfl'
    refine ⟨_,?_,(z.1 * 256,z.2.1 * 256,z.2.2+1),rfl,ya,?_,?_,(ypr d S).trans q,((I.trans But.upd).trans But.upd).trans But.upd,rfl⟩
    ·show (4294967296 - z.2.1 * 256).toNat < (4294967296 - z.2.1).toNat
     omega
    ·show 8388608 <= z.2.1 * 256
     omega
    ·show z.2.1 * 256 <= 1099511627776
     omega
   ·rw [ytr d] at q
    refine k _ ?_ I
    rw [<- q]
    exact hz
theorem yzw:yk ["self","unit"] ["self","unit"] (yg yxm):=wx (by right)
def ypq (C:Addr):Sp:=fun vs H Q _=>∃ (p dx:Addr) (x:Sn) (j:Nat),vs=[.ref p,.int (pw j)]/\H p=some (.ins C dx (zx x))/\j <= 6/\Q (.bl (decide (yk6 x.1 x.2.1 j))) H
theorem yyr (T:Txt K mg a):wc P w K mg base CX0 2 a.f_q48 a.d_q48 ["self","unit"] (ypq a.C_Span):=by
 refine T.y_q48.F.ok yzw (fun f H Q E h=>?_) (fun c A b s H f Q E e h=>?_)
 ·obtain ⟨p,d,x,j,rfl,_⟩:=h
  rfl
 ·obtain ⟨p,d,x,j,rfl,l,i,k⟩:=h
  refine ⟨_,(yf (y7 (uc zb (yr wv (yr we (vn (ysb T) (e.mono (by decide)) rfl T.y_q44.m T.y_q44.F.kp T.y_q44.B .nil vj (yb (yq (pv 0) rfl) (yb (pv 1) ye (yc rfl)) (yc rfl))) yi) (pv 1)) (yr we (yq (pv 0) rfl) (yq (pv 0) rfl)) (vg _)))),?_⟩
  try dsimp only [vz]
  refine yn (σ':=[some _,some _]) rfl ?_
  have n:=yiw i
  have g:=uq j
  rfl'
  refine ⟨_,_,rfl,g,by omega,?_⟩
  rfl'
  exact k
theorem ygg:yk ["self","unit","size"] ["self"] (yg yv4):=wx (by right)
def yuy (C:Addr):Sp:=fun vs H Q _=>∃ (p dx:Addr) (x:Sn),vs=[.ref p]/\H p=some (.ins C dx (zx x))/\OkS x/\sz x <= 100000/\∀ t H',H t=none->H' t=some (.lst ((tL x).map V.int))->y0 H H'->Q (.ref t) H'
theorem yrm (T:Txt K mg a):wc P w K mg base CX0 3 a.f_q49 a.d_q49 ["self"] (yuy a.C_Span):=by
 refine T.y_q49.F.ok ygg (fun u H Q E h=>?_) (fun q A l s H u Q E g h=>?_)
 ·obtain ⟨p,d,x,rfl,_⟩:=h
  rfl
 ·obtain ⟨p,d,x,rfl,n,c,C,k⟩:=h
  refine ⟨_,(yh (yy (i:=1) ygg.nd rfl (Or.inl rfl) yi) (yh (yy (i:=2) ygg.nd rfl (Or.inl rfl) (yq (pv 0) rfl)) (yh (z8 PassesOwn.never (ue (xo (pv 0) T.cl_Span T.y_q48.m (yyr T) (g.mono (by decide)) T.y_q48.B .nil vj (yb (yr wv (pv 1) yi) ye (yc rfl)))) (yh (yy (i:=1) ygg.nd rfl (Or.inl rfl) (yr wv (pv 1) yi)) (yf (yy (i:=2) ygg.nd rfl (Or.inl rfl) (yr ur (pv 2) yi))))) (yf (y7 (vn (vbc T) (g.mono (by decide)) rfl T.y_q43.m T.y_q43.F.kp T.y_q43.B .nil vj (yb (vn (ysb T) (g.mono (by decide)) rfl T.y_q44.m T.y_q44.F.kp T.y_q44.B .nil vj (yb (yq (pv 0) rfl) (yb (pv 1) ye (yc rfl)) (yc rfl))) (yb (pv 2) ye (yc rfl)) (yc rfl)))))))),?_⟩
  try dsimp only [vz]
  refine yn (σ':=[some _,none,none]) rfl ?_
  rfl'
  refine ⟨fun m σ' r=>r=H/\∃ j:Nat,σ'=[some (.ref p),some (.int (pw j)),some (.int (x.2.2 - j))]/\j <= 5/\tel x.1 x.2.1 (5 - j) j=tK x/\m=6 - j,⟨_,rfl,0,by simp [pw],by decide,rfl,rfl⟩,?_⟩
  rintro m σ2 y ⟨rfl,j,rfl,D,o,rfl⟩
  have z:=yiw (show j <= 6 by omega)
  have v:=uq j
  rfl'
  refine ⟨p,d,_,rfl,n,lkN _ (by right) (by right) (by right),?_⟩
  rfl'
  refine ⟨p,d,x,j+1,rfl,n,by omega,?_⟩
  rfl'
  refine u6 (fun b=>?_) (fun b=>?_)
  ·refine ygl ?_
   rfl'
   have t:=ysw c.ok.w1 b
   refine ⟨_,?_,rfl,j+1,?_,t,?_,rfl⟩
   ·show 6 - (j+1) < 6 - j
    omega
   ·have f:x.2.2 - (j:Int) - 1=x.2.2 - ((j+1:Nat):Int):=by omega
    rw [f]
    rfl
   ·rw [ypj b,<- o]
    congr 1
    omega
  ·have e:j=tK x:=by rw [<- o,yth b]
   subst e
   rfl'
   refine ⟨_,_,rfl,v,by omega,?_⟩
   rfl'
   have I:=c.sz
   have G:=(yv8 c).2
   have f:x.2.2 - (tK x:Int)=((sz x - tK x:Nat):Int):=by omega
   rw [f]
   exact ⟨_,_,rfl,by omega,k⟩
theorem yx7:yk ["self","place"] ["self","place"] (yg ywi):=wx (by right)
def yj4 (C:Addr):Sp:=fun vs H Q _=>∃ (p dx pd:Addr) (v1 v2 v3:V) (d:List Int) (k:Nat),vs=[.ref p,.int k]/\H p=some (.ins C dx (ybl (.ref pd) v1 v2 v3))/\H pd=some (.lst (d.map V.int))/\Q (.int ((d[k]?).getD 0)) H
theorem yye (T:Txt K mg a):wc P w K mg base CX0 1 a.f_q52 a.d_q52 ["self","place"] (yj4 a.C_Sk):=by
 refine T.y_q52.F.ok yx7 (fun n H Q E h=>?_) (fun g A b s H n Q E t h=>?_)
 ·obtain ⟨p,j,q,m,f,l,d,k,rfl,_⟩:=h
  rfl
 ·obtain ⟨p,j,q,m,f,l,d,o,rfl,r,e,k⟩:=h
  refine ⟨_,(yf (y7 (j9 (y8 ygm (pv 1) (yt yz rfl T.z_len (by right) (yb (yq (pv 0) rfl) ye (yc rfl))) (vg _)) (uf x4 (yq (pv 0) rfl) (pv 1) (fun _ _=>rfl)) yi))),?_⟩
  try dsimp only [vz]
  refine yn (σ':=[some _,some _]) rfl ?_
  rfl'
  refine zw (SqL.of e) ?_
  rw [List.length_map]
  rfl'
  refine u6 (fun i=>?_) (fun i=>?_)
  ·have c:o < d.length:=by omega
   rw [List.getElem?_eq_getElem c] at k
   rfl'
   exact yal (SqL.of e) (xp (by rw [List.getElem?_map,List.getElem?_eq_getElem c]; rfl)) k
  ·rw [List.getElem?_eq_none (by omega)] at k
   rfl'
   exact k
theorem vac:yk ["self"] ["self"] (yg yxn):=wx (by right)
def ymy (C D:Addr):Sp:=fun vs H Q _=>∃ (p dx pd ps ds:Addr) (d:List Int) (x:Sn) (r:Nat),vs=[.ref p]/\H p=some (.ins C dx (ybl (.ref pd) (.ref ps) (.int (rn d r)) (.int r)))/\H pd=some (.lst (d.map V.int))/\H ps=some (.ins D ds (zx x))/\p≠ps/\OkS x/\r <= sz x /\
 ∀ H',H' p=some (.ins C dx (ybl (.ref pd) (.ref ps) (.int (rn d (sz x))) (.int x.2.2)))->But p H H'->Q .non H'
theorem yro (T:Txt K mg a):wc P w K mg base CX0 2 a.f_q51 a.d_q51 ["self"] (ymy a.C_Sk a.C_Span):=by
 refine T.y_q51.F.ok vac (fun L H Q E h=>?_) (fun y A l s H L Q E I h=>?_)
 ·obtain ⟨p,i,n,j,t,d,x,r,rfl,_⟩:=h
  rfl
 ·obtain ⟨p,i,n,j,t,d,x,r,rfl,o,M,N,e,u,f,k⟩:=h
  refine ⟨_,(yf (z8 PassesOwn.never (y8 ygm (yq (pv 0) rfl) (yq (yq (pv 0) rfl) rfl) (vg _)) (yh (y9 (pv 0) (yr we (yr wv (yq (pv 0) rfl) yi) (xo (pv 0) T.cl_Sk T.y_q52.m (yye T) (I.mono (by decide)) T.y_q52.B .nil vj (yb (yq (pv 0) rfl) ye (yc rfl)))) rfl) (yf (y9 (pv 0) (yr we (yq (pv 0) rfl) yi) rfl))))),?_⟩
  try dsimp only [vz]
  refine yn (σ':=[some _]) rfl ?_
  have C:=u.sz
  refine ⟨fun m σ' q=>∃ r:Nat,σ'=[some (.ref p)]/\q p=some (.ins a.C_Sk i (ybl (.ref n) (.ref j) (.int (rn d r)) (.int r)))/\r <= sz x/\But p H q/\m=sz x - r,⟨_,r,rfl,o,f,But.refl,rfl⟩,?_⟩
  rintro m σ2 z ⟨r,rfl,b,J,c,rfl⟩
  have v:z j=some (.ins a.C_Span t (zx x)):=c _ _ N e.symm
  have g:=c.lst o M
  rfl'
  refine u6 (fun D=>?_) (fun D=>?_)
  ·refine ygl ?_
   rfl'
   refine ⟨p,i,n,_,_,_,d,r,rfl,b,g,?_⟩
   rfl'
   refine ⟨_,?_,r+1,rfl,?_,by omega,(c.trans But.upd).trans But.upd,rfl⟩
   ·omega
   ·rw [ya]
    rfl
  ·have G:r=sz x:=by omega
   subst G
   rfl'
   refine k _ ?_ c
   rw [<- C]
   exact b
theorem vap:yk ["self","data"] ["self","data"] (yg yxa):=wx (by right)
def ymx (K:W.Frag) (a:Ads):Sp:=fun vs H Q E=>∃ (p dx:Addr) (v:V) (n:String),vs=[.ref p,v]/\H p=some (.ins a.C_Sk dx [])/\xz K H v (.type n) /\
 ((Bad K H v n 12000/\∀ H',y0 H H'->E (.ref a.C_NY) none H')\/∃ d:List Int,vdu K H v (d.map V.int) 12000/\∀ pd ps ds H',H pd=none->H ps=none->yk7 a H' p dx pd ps ds d s0->But p H H'->Q .non H')
theorem vb9 (T:Txt K mg a):wc P w K mg base (CXe P w) 5 a.f_q50 a.d_q50 ["self","data"] (ymx K a):=by
 refine T.y_q50.F.okE vap (fun vs H Q E h=>?_) (fun Y A L s H vs Q E I h=>?_)
 ·obtain ⟨p,q,v,n,rfl,_⟩:=h
  rfl
 ·obtain ⟨p,q,v,n,rfl,R,ty,h⟩:=h
  refine ⟨_,(yh (y9 (pv 0) (vw (ved T) (I.mono (by decide)) rfl T.y_q7.m T.y_q7.F.kp T.y_q7.B .nil yx (yb (pv 1) ye (yc rfl))) rfl) (yh (y9 (pv 0) (yaf T.k_Span (ysj T) (I.mono (by decide)) rfl T.m_Span T.y_q45.B .nil vj) rfl) (yh (y9 (pv 0) yi rfl) (yh (y9 (pv 0) yi rfl) (yf (yu (w8 (pv 0) T.cl_Sk T.y_q51.m (yro T) (I.mono (by decide)) T.y_q51.B .nil vj))))))),?_⟩
  try dsimp only [vz]
  refine yn (σ':=[some _,some _]) rfl ?_
  rfl'
  refine ⟨v,n,rfl,ty,?_⟩
  rcases h with ⟨hb,k⟩ | ⟨d,hg,k⟩
  ·exact .inl ⟨hb,k⟩
  ·refine .inr ⟨d.map V.int,hg,fun i C r G S=>?_⟩
   have a1:=S _ _ R
   have f:i≠p:=fun z=>by rw [z,R] at r; cases r
   rfl'
   have J:But p H (upd C p (.ins a.C_Sk q ([("data",V.ref i)]:List (Str × V)))):=(But.of S).trans But.upd
   have j:upd C p (.ins a.C_Sk q ([("data",V.ref i)]:List (Str × V))) p=some (.ins a.C_Sk q ([("data",V.ref i)]:List (Str × V))):=ya
   have x:upd C p (.ins a.C_Sk q ([("data",V.ref i)]:List (Str × V))) i=some (.lst (d.map V.int)):=yj f G
   generalize upd C p (.ins a.C_Sk q ([("data",V.ref i)]:List (Str × V)))=Z at J j x ⊢
   intro t M g nds ne
   refine ⟨t,M,rfl,ya,fun W u X=>⟨rfl,?_⟩⟩
   have N:y0 Z W:=fun b o e=>X b o (by rw [ym (yd e g),ym (yd e nds)]; exact e) (yd e g)
   have a0:=N _ _ j
   have y:=N _ _ x
   have c:p≠t:=yd j g
   have D:H t=none:=by
    cases e:H t with
    | none=>rfl
    | some o=>exact absurd (J _ _ e c.symm) (by rw [g]; exact fun z=>nomatch z)
   rfl'
   refine ⟨p,q,i,t,M,d,s0,0,rfl,ya,?_,?_,c,vfr,Nat.zero_le _,fun U O B4=>?_⟩
   ·exact yj f (yj f (yj f y))
   ·exact yj c.symm (yj c.symm (yj c.symm u))
   ·rfl'
    have l:But p W U:=((But.upd.trans But.upd).trans But.upd).trans B4
    exact k i t M U r D ⟨O,l _ _ y f,l _ _ u c.symm,c⟩ ((J.trans (But.of N)).trans l)
theorem ysk:yk ["self","chance","bit"] ["self","chance"] (yg ywe):=wx (by right)
def yqd (K:W.Frag) (a:Ads):Sp:=fun vs H Q E=>∃ (p dx pd ps ds:Addr) (d:List Int) (x:Sn) (v:V) (n:String),vs=[.ref p,v]/\yk7 a H p dx pd ps ds d x/\OkS x/\xz K H v (.type n)/\(chV v=false->E (.ref a.C_NC) none H) /\
 ∀ c:Int,v=.int c->Ch c->∀ H',yk7 a H' p dx pd ps ds d (nar x c (ybn d x c))->yoj p ps H H'->Q (.int (ybn d x c)) H'
theorem vbf {x:Sn} {c b:Int} (h:Ok x) (hc:Ch c):sz x <= sz (nar x c b):=by
 obtain ⟨r,e⟩:=vdo (if b=1 then x.1 else x.1+cut x.2.1 c) (if b=1 then cut x.2.1 c else x.2.1 - cut x.2.1 c) x.2.2
 have a:nar x c b=ren (if b=1 then x.1 else x.1+cut x.2.1 c) (if b=1 then cut x.2.1 c else x.2.1 - cut x.2.1 c) x.2.2:=by
  unfold nar
  split <;> rfl
 rw [a,e]
 unfold sz
 dsimp only
 omega
theorem yzi (T:Txt K mg a):wc P w K mg base (CXe P w) 5 a.f_q53 a.d_q53 ["self","chance"] (yqd K a):=by
 refine T.y_q53.F.okE ysk (fun vs H Q E h=>?_) (fun W A N s H vs Q E C h=>?_)
 ·obtain ⟨p,I,O,o,q,d,x,v,n,rfl,_⟩:=h
  rfl
 ·obtain ⟨p,I,O,o,q,d,x,v,n,rfl,l,u,ty,k1,k⟩:=h
  refine ⟨_,(yh (yu (vw (yxq T) (C.mono (by decide)) rfl T.y_q9.m T.y_q9.F.kp T.y_q9.B .nil yx (yb (pv 1) ye (yc rfl)))) (yh (ut (yy (i:=2) ysk.nd rfl (Or.inl rfl) (j9 (y8 ygm (yq (pv 0) rfl) (yr we (yq (yq (pv 0) rfl) rfl) (xo (yq (pv 0) rfl) T.cl_Span T.y_q46.m (ysv T) (C.mono (by decide)) T.y_q46.B .nil vj (yb (pv 1) ye (yc rfl)))) (vg _)) yi yi))) (yh (yu (vt (yq (pv 0) rfl) T.cl_Span T.y_q47.m (yrn T) (C.mono (by decide)) T.y_q47.B .nil yx (yb (pv 1) (yb (pv 2) ye (yc rfl)) (yc rfl)))) (yh (yu (w8 (pv 0) T.cl_Sk T.y_q51.m (yro T) (C.mono (by decide)) T.y_q51.B .nil vj)) (yf (y7 (pv 2))))))),?_⟩
  try dsimp only [vz]
  refine yn (σ':=[some _,some _,none]) rfl ?_
  rfl'
  refine ⟨v,n,rfl,ty,fun U=>?_,k1⟩
  obtain ⟨c,rfl,Z,c2⟩:=yhp U
  have r:Ch c:=⟨Z,c2⟩
  have k:=k c rfl r
  have J:=l.me
  have e:=l.sp
  rfl'
  refine yog (fun σ' R=>σ'=[some (.ref p),some (.int c),some (.int (ybn d x c))]/\H=R) ?_ ?_
  ·rfl'
   refine ⟨o,q,_,rfl,e,lkN _ (by right) (by right) (by right),?_⟩
   rfl'
   refine ⟨o,q,x,c,rfl,e,r,?_⟩
   rfl'
   unfold ybn
   refine u6 (fun y=>?_) (fun y=>?_)
   ·rw [if_pos y]
    rfl'
    exact ⟨rfl,rfl⟩
   ·rw [if_neg y]
    rfl'
    exact ⟨rfl,rfl⟩
  ·rintro σ' R ⟨rfl,rfl⟩
   have G:=yer d x c
   generalize y:ybn d x c=b at G k ⊢
   rfl'
   refine ⟨o,q,_,rfl,e,lkN _ (by right) (by right) (by right),?_⟩
   rfl'
   refine ⟨o,q,x,.int c,.int b,_,_,rfl,e,u.ok,.int c,.int b,(fun z=>by rw [yjt r] at z; cases z),(fun _ z=>by rw [yhx (by omega) (by omega)] at z; cases z),fun c' b' ec S _ _ _ Y t L=>?_⟩
   obtain rfl:c=c':=V.int.inj ec
   obtain rfl:b=b':=V.int.inj S
   have f:=L _ _ J l.ne
   have g:=L.lst e l.dt
   rfl'
   have j:Y p=some (.ins a.C_Sk I (ybl (.ref O) (.ref o) (.int (rn d (sz x))) (.int ((sz x:Nat):Int)))):=by rw [u.sz]; exact f
   refine ⟨p,I,O,o,q,d,nar x c b,sz x,rfl,j,g,t,l.ne,yh4 u r,vbf u.ok r,fun X D M=>?_⟩
   rfl'
   exact k X ⟨D,M.lst f g,M _ _ t l.ne.symm,l.ne⟩ (L.two'.trans M.two)
theorem vb4:yk ["self"] ["self"] (yg yxc):=wx (by right)
def yly (a:Ads):Sp:=fun vs H Q _=>∃ (p dx pd ps ds:Addr) (d:List Int) (x:Sn),vs=[.ref p]/\yk7 a H p dx pd ps ds d x/\OkS x/\sz x <= tMx/\∀ t H',H t=none->H' t=some (.lst ((tL x).map V.int))->y0 H H'->Q (.ref t) H'
theorem vb6 (T:Txt K mg a):wc P w K mg base CX0 4 a.f_q54 a.d_q54 ["self"] (yly a):=by
 refine T.y_q54.F.ok vb4 (fun r H Q E h=>?_) (fun i A c s H r Q E q h=>?_)
 ·obtain ⟨p,n,t,f,e,d,x,rfl,_⟩:=h
  rfl
 ·obtain ⟨p,n,t,f,e,d,x,rfl,g,l,j,k⟩:=h
  have o:=g.me
  have b:=g.sp
  refine ⟨_,(yf (y7 (w8 (yq (pv 0) rfl) T.cl_Span T.y_q49.m (yrm T) (q.mono (by decide)) T.y_q49.B .nil vj))),?_⟩
  try dsimp only [vz]
  refine yn (σ':=[some _]) rfl ?_
  rfl'
  refine ⟨f,e,_,rfl,b,lkN _ (by right) (by right) (by right),?_⟩
  rfl'
  exact ⟨f,e,x,rfl,b,l,j,k⟩
def snK (mx bt:Nat->Int):Nat->Sn
 | 0=>s0
 | k+1=>nar (snK mx bt k) (mx k) (bt k)
theorem yah {mx bt:Nat->Int}:∀ m,(∀ j,j < m->Ch (mx j))->OkS (snK mx bt m)/\(snK mx bt m).2.2 <= 5+2 * (m:Int)
 | 0,_=>⟨vfr,by show (5:Int) <= 5+2 * ((0:Nat):Int); decide⟩
 | m+1,h=>by
  obtain ⟨a,e⟩:=yah m fun j d=>h j (by omega)
  refine ⟨yh4 a (h m (by omega)),?_⟩
  have:=vb3 (c:=mx m) (b:=bt m) a.ok
  show (nar (snK mx bt m) (mx m) (bt m)).2.2 <= _
  omega
theorem yf4 {mx my bt bu:Nat->Int}:∀ m,(∀ j,j < m->mx j=my j/\bt j=bu j)->snK mx bt m=snK my bu m
 | 0,_=>rfl
 | m+1,h=>by
  show nar (snK mx bt m) (mx m) (bt m)=nar (snK my bu m) (my m) (bu m)
  rw [yf4 m fun j a=>h j (by omega),(h m (by omega)).1,(h m (by omega)).2]
theorem FGo.but {p q:Addr} {A:FA} {O O':Nat->Addr->Prop} {H H1 H2:Hp} {el:Addr} {o':HO} (h:FGo p A O H H1 el O') (hq:H q=none) (B:But q H1 H2) (hq2:H2 q=some o'):FGo p A O H H2 el O' :=
 ⟨h.he,h.hO,fun c o e f a b d=>B _ _ (h.fr c o e f a b d) (yd e hq),fun c o e=>let ⟨o1,w⟩:=h.live c o e; ⟨o1,B _ _ w (yd e hq)⟩⟩
theorem zh.but {K:W.Frag} {a:Ads} {H H':Hp} {p q C dq:Addr} {A:FA} {X:FX} {f:Nat->List Int->Option Slt} {O:Nat->Addr->Prop} {m:Nat} {fs:List (Str × V)} (h:zh K a H p A X f O m) (hq:H q=some (.ins C dq fs)) (hl:fs.length=3) (nO:∀ i,i < A.n->¬ O i q) (B:But q H H'):zh K a H' p A X f O m:=by
 refine h.frame (O2:=fun c=>c=q) (fun c o e g=>B c o e g) (fun z=>ud h.me hq (by rw [hl]; show ¬ (6=3); decide) z) (fun z=>ud h.mx.o hq (by rw [hl]; show ¬ (1=3); decide) z) (fun i d z=>ud (h.B.b i d).me hq (by rw [hl]; show ¬ (2=3); decide) z) (fun i c d w z=>nO i d (z ▸ w)) (fun l j _ e=>B.lst hq e) (fun t j e=>?_)
 rcases e with (e | ⟨o,e⟩) | e
 ·exact .inl (.inl (B _ _ e (fun z=>by rw [z,hq] at e; cases e)))
 ·exact .inl (.inr ⟨o,B _ _ e (fun z=>by rw [z,hq] at e; cases e)⟩)
 ·exact .inr e
def yk8 (A:FA) (X:FX) (ts:List Int) (k:Nat):Int:=ysz (X.run A ((dec ts).take k)).ws ((X.run A ((dec ts).take k)).cs A)
theorem ynw:yk ["foreteller","text","span","bit"] ["foreteller","text"] (yg yxl):=wx (by right)
def yi6 (K:W.Frag) (a:Ads):Sp:=fun vs H Q _=>∃ (p:Addr) (A:FA) (X:FX) (f:Nat->List Int->Option Slt) (O:Nat->Addr->Prop) (m:Nat) (tx:Addr) (ts:List Int),vs=[.ref p,.ref tx]/\zh K a H p A X f O m/\X.sg=[]/\X.nd=0/\ye6 H tx ts 1000/\tx≠A.el/\m+6 * (dec ts).length+20 < 1000000 /\
 ∀ (r ml el pl:Addr) (sl:Nat->Addr) (f':Nat->List Int->Option Slt) (O':Nat->Addr->Prop) (m':Nat) (H':Hp),H r=none->H' r=some (.lst ((tL (snK (yk8 A X ts) (wg ts) (dec ts).length)).map V.int))->zh K a H' p (A.re ml el pl sl) (X.run A (dec ts)) f' O' m'->m' <= m+6 * (dec ts).length->FGo p A O H H' el O'->Q (.ref r) H'
theorem yx4 (T:Txt K mg a):wc P w K mg base CX0 7 a.f_q55 a.d_q55 ["foreteller","text"] (yi6 K a):=by
 refine T.y_q55.F.ok ynw (fun vs H Q E h=>?_) (fun aE A as s H vs Q E hr h=>?_)
 ·obtain ⟨p,A,X,f,O,m,tx,d,rfl,_⟩:=h
  rfl
 ·obtain ⟨p,c,X,f,O,m,tx,d,rfl,hF,ad,aq,Y,aH,hm,k⟩:=h
  have aF:=uv d
  have hz:=Y.z
  have Z:=Y.s
  refine yo (yy (i:=2) ynw.nd rfl (Or.inl rfl) (yaf T.k_Span (ysj T) (hr.mono (by decide)) rfl T.m_Span T.y_q45.B .nil vj)) ?_
  refine yo (jd PassesOwn.never rfl (xx (vn (yyh T) (hr.mono (by decide)) rfl T.y_q42.m T.y_q42.F.kp T.y_q42.B .nil vj (yb (pv 1) ye (yc rfl)))) (xc (i:=3) ynw.nd rfl (Or.inl rfl)) (yh (yu (vt (pv 2) T.cl_Span T.y_q47.m (yrn T) (hr.mono (by decide)) T.y_q47.B .nil wj (yb (w8 (pv 0) T.cl_Ft T.y_q37.m (yqv T) (hr.mono (by decide)) T.y_q37.B .nil vj) (yb (pv 3) ye (yc rfl)) (yc rfl)))) (yf (yu (xo (pv 0) T.cl_Ft T.y_q38.m (ysl T) (hr.mono (by decide)) T.y_q38.B .nil vj (yb (pv 3) ye (yc rfl))))))) ?_
  refine ⟨_,(yf (y7 (w8 (pv 2) T.cl_Span T.y_q49.m (yrm T) (hr.mono (by decide)) T.y_q49.B .nil vj))),?_⟩
  try dsimp only [vz]
  refine yn (σ':=[some _,some _,none,none]) rfl ?_
  rfl'
  intro q U nq ah aC
  have SQ:y0 H (upd (upd H U (.own q)) q (.ins a.C_Span U [])):=fun b o e=>by rw [ym (yd e nq),ym (yd e ah)]; exact e
  refine ⟨q,U,rfl,ya,fun H1 ax B1=>⟨rfl,?_⟩⟩
  have S1:y0 H H1:=fun b o e=>B1 b o (SQ b o e) (yd e nq)
  rfl'
  refine ⟨tx,d,rfl,S1 _ _ Y.l,Z,by omega,fun bt H2 a7 S S2=>?_⟩
  have a3:=S1.trans S2
  have an:=hF.same a3
  have ae:bt≠c.el:=(yd (hF.same S1).el a7).symm
  have al:∀ i,i < c.n->¬ O i q:=fun i hi w=>by
   obtain ⟨o,ho,_⟩:=(hF.B.b i hi).own q w
   rw [nq] at ho
   cases ho
  refine ⟨bt,rfl,⟨_,SqL.of S⟩,yab (K:=K) (a:=bt) (xs:=(dec d).map V.int) (fun j σ2 G=>∃ (v:Option V) (ml el pl:Addr) (sl:Nat->Addr) (f':Nat->List Int->Option Slt) (O':Nat->Addr->Prop),σ2=[some (.ref p),some (.ref tx),some (.ref q),v]/\zh K a G p (c.re ml el pl sl) (X.run c ((dec d).take j)) f' O' (m+6 * j)/\FGo p c O H G el O'/\TxE d j (X.run c ((dec d).take j)).sg (X.run c ((dec d).take j)).nd/\G q=some (.ins a.C_Span U (zx (snK (yk8 c X d) (wg d) j)))/\(∀ i,i < c.n->¬ O' i q)/\(G bt=some (.lst ((dec d).map V.int))/\bt≠el)/\(∀ i,i < j->Ch (yk8 c X d i)))
   ⟨_,c.ml,c.el,c.pl,c.sl,f,O,rfl,an,FGo.refl.same a3,.inl ⟨Nat.zero_le _,by show yh9 _ _ X.sg X.nd; rw [ad,aq]; exact yh9.zero _⟩,S2 _ _ ax,al,⟨S,ae⟩,fun i hi=>absurd hi (Nat.not_lt_zero i)⟩ (by rintro j σ2 G _ ⟨_,_,_,_,_,_,_,_,_,_,_,_,_,z,_⟩; exact SqL.of z.1) ?_ ?_⟩
  ·rintro j y σ2 G hy ⟨v,M,x,I,L,f1,O1,rfl,g,go,hT,u,N,⟨a5,W⟩,J⟩
   obtain ⟨b,rfl,av,hb,hj⟩:=yag hy
   obtain ⟨b0,b1⟩:=yaa _ b av
   obtain ⟨a1,aw⟩:=hT.next Z hb
   obtain ⟨ar,aB⟩:=a1.nd Z
   have aD:=a1.len
   have a4:wg d j=b:=by unfold wg; rw [hb]; rfl
   have aA:=g.me
   have ab:Ch (yk8 c X d j):=yn6 g.n1 g.wok g.cok
   have ao:=yjt ab
   have az:=yhx b0 b1
   obtain ⟨a0,aj⟩:=yah (mx:=yk8 c X d) (bt:=wg d) j J
   rfl'
   refine ⟨q,U,_,rfl,u,lkN _ (by right) (by right) (by right),?_⟩
   rfl'
   refine ⟨p,c.re M x I L,_,f1,O1,_,rfl,g,fun G1 R=>?_⟩
   rfl'
   refine ⟨q,U,_,.int (yk8 c X d j),.int b,_,_,rfl,R _ _ u,a0.ok,.int _,.int _,fun z=>(by rw [ao] at z; cases z),fun _ z=>(by rw [az] at z; cases z),fun c' b' ec eb _ _ _ G2 C B2=>?_⟩
   cases ec
   cases eb
   have t:=(g.same R).but (R _ _ u) rfl N B2
   have ap:FGo p c O H G2 x O1:=(go.same R).but nq B2 C
   have D:G2 bt=some (.lst ((dec d).map V.int)):=B2.lst (R _ _ u) (R _ _ a5)
   have aG:=t.me
   have n6:=g.n6
   rfl'
   refine ⟨p,c.re M x I L,_,f1,O1,m+6 * j,b,rfl,t,b0,b1,by omega,ar,by omega,fun au a6 ay ak f3 O3 G3 am af aa a2 ac _=>?_⟩
   have a9:FGo p (c.re M x I L) O1 G2 G3 a6 O3:=⟨am,aa,a2,ac⟩
   have a8:=a9.kpa t
   rfl'
   refine ⟨_,au,a6,ay,ak,f3,O3,rfl,?_,ap.trans a9,?_,?_,fun i hi w=>?_,⟨(a8 _ _ D rfl W).2,(a8 _ _ D rfl W).1⟩,fun i hi=>?_⟩
   ·rw [ybt hb]
    exact af.up (by show m+6 * j+c.n <= _; have:c.n <= 6:=n6; omega)
   ·rw [ybt hb]
    exact aw
   ·have e:snK (yk8 c X d) (wg d) (j+1)=nar (snK (yk8 c X d) (wg d) j) (yk8 c X d j) b:=by show nar _ _ (wg d j)=_; rw [a4]
    rw [e]
    exact a2 _ _ C (ud C t.me (show ¬ (3=6) by decide)) (ud C t.mx.o (show ¬ (3=1) by decide)) (fun z=>by have e:=t.el; rw [<- z,C] at e; cases e) N
   ·rcases aa i q hi w with v | v
    ·exact N i hi v
    ·rw [C] at v
     cases v
   ·by_cases z:i=j
    ·rw [z]
     exact ab
    ·exact J i (by omega)
  ·rintro σ2 G ⟨v,M,x,I,L,f1,O1,rfl,g,go,hT,u,N,_,J⟩
   rw [List.length_map] at g u J
   rw [List.take_length] at g
   obtain ⟨a0,aj⟩:=yah (mx:=yk8 c X d) (bt:=wg d) (dec d).length J
   rfl'
   refine ⟨q,U,_,rfl,u,lkN _ (by right) (by right) (by right),?_⟩
   rfl'
   refine ⟨q,U,_,rfl,u,a0,by show Int.toNat _ <= 100000; omega,fun r G1 ag ai R=>?_⟩
   exact k r M x I L f1 O1 _ G1 (go.free ag) ai (g.same R) (Nat.le_refl _) (go.same R)
structure RGo (p q s:Addr) (A:FA) (O:Nat->Addr->Prop) (H H':Hp) (ml el:Addr) (O':Nat->Addr->Prop):Prop where
 hm:ml=A.ml\/H ml=none
 he:el=A.el\/H el=none
 hO:∀ j c,j < A.n->O' j c->O j c\/H c=none
 fr:∀ c o,H c=some o->c≠p->c≠A.mp->c≠A.el->c≠q->c≠s->(∀ j,j < A.n->¬ O j c)->H' c=some o
 live:∀ c o,H c=some o->∃ o',H' c=some o'
theorem RGo.free {p q s:Addr} {A:FA} {O O':Nat->Addr->Prop} {H H':Hp} {ml el c:Addr} (h:RGo p q s A O H H' ml el O') (hc:H' c=none):H c=none:=by
 cases e:H c with
 | none=>rfl
 | some o =>
  obtain ⟨a,w⟩:=h.live c o e
  rw [hc] at w
  cases w
theorem RGo.refl {p q s:Addr} {A:FA} {O:Nat->Addr->Prop} {H:Hp}:RGo p q s A O H H A.ml A.el O:=⟨.inl rfl,.inl rfl,fun _ _ _ w=>.inl w,fun _ _ e _ _ _ _ _ _=>e,fun _ o e=>⟨o,e⟩⟩
theorem RGo.trans {p q s:Addr} {A:FA} {O O1 O2:Nat->Addr->Prop} {H H1 H2:Hp} {ml el pl ml2 el2:Addr} {sl:Nat->Addr} (h:RGo p q s A O H H1 ml el O1) (k:RGo p q s (A.re ml el pl sl) O1 H1 H2 ml2 el2 O2):RGo p q s A O H H2 ml2 el2 O2:=by
 refine ⟨?_,?_,fun j c a w=>?_,fun c o e l b d g i f=>?_,fun c o e=>?_⟩
 ·rcases k.hm with z | z
  ·rcases h.hm with y | y
   ·exact .inl (z.trans y)
   ·exact .inr (by rw [show ml2=ml from z]; exact y)
  ·exact .inr (h.free z)
 ·rcases k.he with z | z
  ·rcases h.he with y | y
   ·exact .inl (z.trans y)
   ·exact .inr (by rw [show el2=el from z]; exact y)
  ·exact .inr (h.free z)
 ·rcases k.hO j c a w with v | v
  ·exact h.hO j c a v
  ·exact .inr (h.free v)
 ·refine k.fr c o (h.fr c o e l b d g i f) l b (fun z=>?_) g i (fun j a w=>?_)
  ·rcases h.he with y | y
   ·exact d (z.trans y)
   ·rw [show c=el from z,y] at e
    cases e
  ·rcases h.hO j c a w with v | v
   ·exact f j a v
   ·rw [e] at v
    cases v
 ·obtain ⟨n,m⟩:=h.live c o e
  exact k.live c n m
theorem RGo.same {p q s:Addr} {A:FA} {O O':Nat->Addr->Prop} {H H1 H2:Hp} {ml el:Addr} (h:RGo p q s A O H H1 ml el O') (S:y0 H1 H2):RGo p q s A O H H2 ml el O' :=
 ⟨h.hm,h.he,h.hO,fun c o e i a b f g d=>S _ _ (h.fr c o e i a b f g d),fun c o e=>let ⟨o',w⟩:=h.live c o e; ⟨o',S _ _ w⟩⟩
structure jw (K:W.Frag) (a:Ads) (H:Hp) (p:Addr) (A:FA) (X:FX) (f:Nat->List Int->Option Slt) (O:Nat->Addr->Prop) (m:Nat) (q dx pd s ds:Addr) (d:List Int) (x:Sn):Prop where
 ft:zh K a H p A X f O m
 sk:yk7 a H q dx pd s ds d x
 ok:OkS x
 nO:∀ i,i < A.n->¬ O i q/\¬ O i s
 nd:pd≠A.el
theorem jw.same {K:W.Frag} {a:Ads} {H H':Hp} {p:Addr} {A:FA} {X:FX} {f:Nat->List Int->Option Slt} {O:Nat->Addr->Prop} {m:Nat} {q dx pd s ds:Addr} {d:List Int} {x:Sn} (h:jw K a H p A X f O m q dx pd s ds d x) (S:y0 H H'):jw K a H' p A X f O m q dx pd s ds d x:=⟨h.ft.same S,h.sk.same S,h.ok,h.nO,h.nd⟩
def chX (A:FA) (X:FX):Int:=ysz X.ws (X.cs A)
theorem zh.but2 {K:W.Frag} {a:Ads} {H H':Hp} {p:Addr} {A:FA} {X:FX} {f:Nat->List Int->Option Slt} {O:Nat->Addr->Prop} {m:Nat} {q dx pd s ds:Addr} {d:List Int} {x:Sn} (h:jw K a H p A X f O m q dx pd s ds d x) (B:yoj q s H H'):zh K a H' p A X f O m:=by
 have j:=h.sk.me
 have k:=h.sk.sp
 refine h.ft.frame (O2:=fun c=>c=q\/c=s) (fun c o e n=>B c o e (fun z=>n (.inl z)) (fun z=>n (.inr z))) (fun z=>?_) (fun z=>?_) (fun i g z=>?_) (fun i c g w z=>?_) (fun l r _ e=>h.sk.lst B e) (fun t r e=>?_)
 ·rcases z with z | z
  ·exact ud h.ft.me j (show ¬ (6=4) by decide) z
  ·exact ud h.ft.me k (show ¬ (6=3) by decide) z
 ·rcases z with z | z
  ·exact ud h.ft.mx.o j (show ¬ (1=4) by decide) z
  ·exact ud h.ft.mx.o k (show ¬ (1=3) by decide) z
 ·rcases z with z | z
  ·exact ud (h.ft.B.b i g).me j (show ¬ (2=4) by decide) z
  ·exact ud (h.ft.B.b i g).me k (show ¬ (2=3) by decide) z
 ·rcases z with z | z
  ·exact (h.nO i g).1 (z ▸ w)
  ·exact (h.nO i g).2 (z ▸ w)
 ·rcases e with (e | ⟨o,e⟩) | e
  ·exact .inl (.inl (h.sk.tup B e))
  ·exact .inl (.inr ⟨o,B _ _ e (xi e j (by intro z; cases z)) (xi e k (by intro z; cases z))⟩)
  ·exact .inr e
theorem yrp:yk ["foreteller","seeker","bit"] ["foreteller","seeker"] (yg yvu):=wx (by right)
def yiz (K:W.Frag) (a:Ads):Sp:=fun vs H Q _=>∃ (p:Addr) (A:FA) (X:FX) (f:Nat->List Int->Option Slt) (O:Nat->Addr->Prop) (m:Nat) (q dx pd s ds:Addr) (d:List Int) (x:Sn),vs=[.ref p,.ref q]/\jw K a H p A X f O m q dx pd s ds d x/\m+20 < 1000000/\0 <= X.nd/\X.sg.length <= 100000 /\
 ∀ (ml el pl:Addr) (sl:Nat->Addr) (f':Nat->List Int->Option Slt) (O':Nat->Addr->Prop) (H':Hp),jw K a H' p (A.re ml el pl sl) (X.see A (ybn d x (chX A X))) f' O' (m+A.n) q dx pd s ds d (nar x (chX A X) (ybn d x (chX A X)))->RGo p q s A O H H' ml el O'->Q (.int (ybn d x (chX A X))) H'
theorem yq7 (T:Txt K mg a):wc P w K mg base CX0 7 a.f_q56 a.d_q56 ["foreteller","seeker"] (yiz K a):=by
 refine T.y_q56.F.ok yrp (fun vs H Q E h=>?_) (fun a9 A a6 s H vs Q E hr h=>?_)
 ·obtain ⟨p,A,X,f,O,m,q,dx,pd,u,ds,d,x,rfl,_⟩:=h
  rfl
 ·obtain ⟨p,r,X,f,O,m,q,dx,pd,u,ds,d,x,rfl,n,hm,a4,a1,k⟩:=h
  have hp:=n.ft.me
  have hq:=n.sk.me
  have S:Ch (chX r X):=yn6 n.ft.n1 n.ft.wok n.ft.cok
  have Z:=yjt S
  refine ⟨_,(yh (yy (i:=2) yrp.nd rfl (Or.inl rfl) (vt (pv 1) T.cl_Sk T.y_q53.m (yzi T) (hr.mono (by decide)) T.y_q53.B .nil wj (yb (w8 (pv 0) T.cl_Ft T.y_q37.m (yqv T) (hr.mono (by decide)) T.y_q37.B .nil vj) ye (yc rfl)))) (yh (yu (xo (pv 0) T.cl_Ft T.y_q38.m (ysl T) (hr.mono (by decide)) T.y_q38.B .nil vj (yb (pv 2) ye (yc rfl)))) (yf (y7 (pv 2))))),?_⟩
  try dsimp only [vz]
  refine yn (σ':=[some _,some _,none]) rfl ?_
  rfl'
  refine ⟨p,r,X,f,O,m,rfl,n.ft,fun H1 G=>?_⟩
  have N:=n.same G
  rfl'
  refine ⟨q,dx,pd,u,ds,d,x,.int (chX r X),_,rfl,N.sk,n.ok,.int _,fun z=>(by rw [Z] at z; cases z),fun c' ec _ H2 g D=>?_⟩
  cases ec
  have l:=zh.but2 N D
  have a8:=l.me
  obtain ⟨b0,b1⟩:0 <= ybn d x (chX r X)/\ybn d x (chX r X) <= 1:=by
   rcases yer d x (chX r X) with e | e <;> (rw [e]; decide)
  generalize hb:ybn d x (chX r X)=b at b0 b1 g k
  rfl'
  refine ⟨p,r,X,f,O,m,b,rfl,l,b0,b1,hm,a4,a1,fun J R pl sl f' O' H3 he a3 Y U lv t=>?_⟩
  have a7:q≠p:=ud g.me l.me (show ¬ (4=6) by decide)
  have a5:q≠r.mp:=ud g.me l.mx.o (show ¬ (4=1) by decide)
  have W:u≠p:=ud g.sp l.me (show ¬ (3=6) by decide)
  have a0:u≠r.mp:=ud g.sp l.mx.o (show ¬ (3=1) by decide)
  have M:∀ {c C dc:Addr} {fs:List (Str × V)},H2 c=some (.ins C dc fs)->c≠r.el:=fun e z=>by
   have e2:=l.el
   rw [<- z,e] at e2
   cases e2
  have I:=U _ _ g.me a7 a5 (M g.me) fun i y=>(n.nO i y).1
  have L:=U _ _ g.sp W a0 (M g.sp) fun i y=>(n.nO i y).2
  have a2:H3 pd=some (.lst (d.map V.int)):=U _ _ g.dt (fun z=>by have e:=g.dt; rw [z,l.me] at e; cases e) (fun z=>by have e:=g.dt; rw [z,l.mx.o] at e; cases e) n.nd (l.B.nlst g.dt)
  rfl'
  refine k J R pl sl f' O' H3 ⟨a3,⟨I,a2,L,g.ne⟩,yh4 n.ok S,fun i y=>⟨fun w=>?_,fun w=>?_⟩,?_⟩ ⟨.inr ?_,?_,fun j c hj w=>?_,fun c o e c1 c2 c3 c4 c5 no=>?_,fun c o e=>?_⟩
  ·rcases Y i q y w with v | v
   ·exact (n.nO i y).1 v
   ·rw [g.me] at v
    cases v
  ·rcases Y i u y w with v | v
   ·exact (n.nO i y).2 v
   ·rw [g.sp] at v
    cases v
  ·rcases he with z | z
   ·rw [show (r.re J R pl sl).el=r.el from z]
    exact n.nd
   ·exact yd g.dt z
  ·cases e:H J with
   | none=>rfl
   | some o =>
    by_cases z1:J=q
    ·rw [z1,g.me] at t
     cases t
    by_cases z2:J=u
    ·rw [z2,g.sp] at t
     cases t
    rw [D _ _ (G _ _ e) z1 z2] at t
    cases t
  ·rcases he with z | z
   ·exact .inl z
   ·refine .inr ?_
    cases e:H R with
    | none=>rfl
    | some o =>
     by_cases z1:R=q
     ·rw [z1,g.me] at z
      cases z
     by_cases z2:R=u
     ·rw [z2,g.sp] at z
      cases z
     rw [D _ _ (G _ _ e) z1 z2] at z
     cases z
  ·rcases Y j c hj w with v | v
   ·exact .inl v
   ·refine .inr ?_
    cases e:H c with
    | none=>rfl
    | some o =>
     by_cases z1:c=q
     ·rw [z1,g.me] at v
      cases v
     by_cases z2:c=u
     ·rw [z2,g.sp] at v
      cases v
     rw [D _ _ (G _ _ e) z1 z2] at v
     cases v
  ·exact U c o (D _ _ (G _ _ e) c4 c5) c1 c2 c3 no
  ·by_cases z1:c=q
   ·exact ⟨_,z1 ▸ I⟩
   by_cases z2:c=u
   ·exact ⟨_,z2 ▸ L⟩
   exact lv c o (D _ _ (G _ _ e) z1 z2)
def rnx (A:FA) (d:List Int) (S:FX × Sn):FX × Sn:=(S.1.see A (ybn d S.2 (chX A S.1)),nar S.2 (chX A S.1) (ybn d S.2 (chX A S.1)))
def rst (A:FA) (d:List Int) (S:FX × Sn):Nat->FX × Sn
 | 0=>S
 | n+1=>rnx A d (rst A d S n)
def yam (A:FA) (d:List Int) (S:FX × Sn) (n:Nat):Int:=ybn d (rst A d S n).2 (chX A (rst A d S n).1)
theorem yqt (A:FA) (d:List Int) (S:FX × Sn) (n:Nat):yam A d S n=0\/yam A d S n=1:=yer _ _ _
theorem yhy (A:FA) (d:List Int) (S:FX × Sn) (k:Nat):∀ n,rst A d (rst A d S k) n=rst A d S (k+n)
 | 0=>rfl
 | n+1=>congrArg (rnx A d) (yhy A d S k n)
theorem yn3 (A:FA) (d:List Int) (S:FX × Sn) (ml el pl:Addr) (sl:Nat->Addr):∀ n,rst (A.re ml el pl sl) d S n=rst A d S n
 | 0=>rfl
 | n+1=>by
  show rnx (A.re ml el pl sl) d (rst (A.re ml el pl sl) d S n)=_
  rw [yn3 A d S ml el pl sl n]
  rfl
theorem yzk (A:FA) (X:FX) (b:Int) (h:0 <= X.nd) (hb:0 <= b):0 <= (X.see A b).nd:=by
 show 0 <= ndN X.nd b
 unfold ndN
 split
 ·split <;> omega
 ·split <;> omega
theorem vay (A:FA) (X:FX) (b:Int):(X.see A b).sg.length <= X.sg.length+1:=by
 show (sgN X.sg X.nd b).length <= _
 unfold sgN
 split
 ·split
  ·rw [List.length_append]; exact Nat.le_refl _
  ·omega
 ·split
  ·omega
  ·exact Nat.zero_le _
theorem yjs (A:FA) (d:List Int) (S:FX × Sn) (h:0 <= S.1.nd):∀ n,0 <= (rst A d S n).1.nd
 | 0=>h
 | n+1=>yzk A _ _ (yjs A d S h n) (by rcases yqt A d S n with e | e <;> (unfold yam at e; rw [e]; decide))
theorem yjq (A:FA) (d:List Int) (S:FX × Sn):∀ n,(rst A d S n).1.sg.length <= S.1.sg.length+n
 | 0=>Nat.le_refl _
 | n+1=>Nat.le_trans (vay A _ _) (Nat.succ_le_succ (yjq A d S n))
theorem jw.app {K:W.Frag} {a:Ads} {H:Hp} {p R:Addr} {A:FA} {X:FX} {f:Nat->List Int->Option Slt} {O:Nat->Addr->Prop} {m:Nat} {q dx pd s ds:Addr} {d:List Int} {x:Sn} {xs ys:List V} (h:jw K a H p A X f O m q dx pd s ds d x) (hR:H R=some (.lst xs)) (hq:∀ q,(q=A.bl\/q=A.el\/q=A.ml\/q=A.pl)->q≠R) (np:pd≠R):jw K a (upd H R (.lst ys)) p A X f O m q dx pd s ds d x:=by
 refine ⟨h.ft.app hR hq,⟨yj (fun z=>?_) h.sk.me,yj np h.sk.dt,yj (fun z=>?_) h.sk.sp,h.sk.ne⟩,h.ok,h.nO,h.nd⟩
 ·have e:=h.sk.me
  rw [z,hR] at e
  cases e
 ·have e:=h.sk.sp
  rw [z,hR] at e
  cases e
theorem jw.notN {K:W.Frag} {a:Ads} {H:Hp} {p R:Addr} {A:FA} {X:FX} {f:Nat->List Int->Option Slt} {O:Nat->Addr->Prop} {m:Nat} {q dx pd s ds:Addr} {d:List Int} {x:Sn} {xs:List Int} (h:jw K a H p A X f O m q dx pd s ds d x) (hR:H R=some (.lst (xs.map V.int))) (nm:R≠A.ml) (ne:R≠A.el):∀ q,(q=A.bl\/q=A.el\/q=A.ml\/q=A.pl)->q≠R:=fun q j z=>by
 have i:=h.ft.n1
 have b:∀ (g:Nat->Addr),xs.map V.int=refs g A.n->False:=fun g e=>by
  have c:(refs g A.n)[0]?=some (V.ref (g 0)):=yzc i
  rw [<- e,List.getElem?_map] at c
  cases w:xs[0]? with
  | none=>rw [w] at c; cases c
  | some y=>rw [w] at c; cases c
 rcases j with y | y | y | y
 ·have e:=h.ft.bl
  rw [<- y,z,hR] at e
  exact b _ (HO.lst.inj (Option.some.inj e))
 ·exact ne (z.symm.trans y)
 ·exact nm (z.symm.trans y)
 ·have e:=h.ft.pl
  rw [<- y,z,hR] at e
  exact b _ (HO.lst.inj (Option.some.inj e))
theorem RGo.app {p q s R:Addr} {A:FA} {O O':Nat->Addr->Prop} {H H1:Hp} {ml el:Addr} {o':HO} (h:RGo p q s A O H H1 ml el O') (hR:H R=none):RGo p q s A O H (upd H1 R o') ml el O' :=
 ⟨h.hm,h.he,h.hO,fun c o e i a b f g d=>yj (yd e hR) (h.fr c o e i a b f g d),fun c o e=>let ⟨o1,w⟩:=h.live c o e; ⟨o1,yj (yd e hR) w⟩⟩
def wB (i:Nat):Int:=([128,64,32,16,8,4,2,1]:List Int)[i]?.getD 0
theorem vfd (i:Nat):0 <= wB i/\wB i <= 128:=by
 rcases i with _ | _ | _ | _ | _ | _ | _ | _ | i
 ·exact ⟨by decide,by decide⟩
 ·exact ⟨by decide,by decide⟩
 ·exact ⟨by decide,by decide⟩
 ·exact ⟨by decide,by decide⟩
 ·exact ⟨by decide,by decide⟩
 ·exact ⟨by decide,by decide⟩
 ·exact ⟨by decide,by decide⟩
 ·exact ⟨by decide,by decide⟩
 ·exact ⟨by show (0:Int) <= 0; decide,by show (0:Int) <= 128; decide⟩
def sgB (A:FA) (d:List Int) (S:FX × Sn) (i:Nat):List Int:=(List.range i).map fun j=>wB j * yam A d S j
theorem yov (A:FA) (d:List Int) (S:FX × Sn) (i:Nat):sgB A d S (i+1)=sgB A d S i++[wB i * yam A d S i]:=by
 unfold sgB
 rw [List.range_succ,List.map_append]
 rfl
theorem yx6:yk ["foreteller","seeker"] ["foreteller","seeker"] (yg yw1):=wx (by right)
def yf9 (K:W.Frag) (a:Ads):Sp:=fun vs H Q _=>∃ (p:Addr) (A:FA) (S:FX × Sn) (f:Nat->List Int->Option Slt) (O:Nat->Addr->Prop) (m:Nat) (q dx pd s ds:Addr) (d:List Int),vs=[.ref p,.ref q]/\jw K a H p A S.1 f O m q dx pd s ds d S.2/\m+80 < 1000000/\0 <= S.1.nd/\S.1.sg.length <= 90000 /\
 ∀ (ml el pl:Addr) (sl:Nat->Addr) (f':Nat->List Int->Option Slt) (O':Nat->Addr->Prop) (H':Hp),jw K a H' p (A.re ml el pl sl) (rst A d S 8).1 f' O' (m+8 * A.n) q dx pd s ds d (rst A d S 8).2->RGo p q s A O H H' ml el O'->Q (.int (sgB A d S 8).sum) H'
theorem yzv (T:Txt K mg a):wc P w K mg base CX0 8 a.f_q57 a.d_q57 ["foreteller","seeker"] (yf9 K a):=by
 refine T.y_q57.F.ok yx6 (fun vs H Q E h=>?_) (fun a7 A a3 s H vs Q E hr h=>?_)
 ·obtain ⟨p,A,S,f,O,m,q,dx,pd,Z,ds,d,rfl,_⟩:=h
  rfl
 ·obtain ⟨p,b,S,f,O,m,q,dx,pd,Z,ds,d,rfl,N,hm,a2,a9,k⟩:=h
  have n6:=N.ft.n6
  refine ⟨_,(yf (y7 (yt (j6 rfl) rfl T.z_sum (by right) (yb (w9 (js:=[1,0]) (ys:=["seeker","foreteller"]) rfl (yji (yh3 rfl T.m_WORTHS)) (fun C s2 H2 fp=>(yr wv (pv 0) (vn (yq7 T) (hr.mono (by decide)) rfl T.y_q56.m T.y_q56.F.kp T.y_q56.B .nil vj (yb (pv 2) (yb (pv 1) ye (yc rfl)) (yc rfl))))) rfl rfl (hyc:=(all_cons rfl (all_cons rfl vd))) (hrel:=(all_cons rfl (all_cons rfl vd)))) ye (yc rfl))))),?_⟩
  try dsimp only [vz]
  refine yn (σ':=[some _,some _]) rfl ?_
  rfl'
  refine ⟨a.W_WORTHS,rfl,⟨_,T.w_WORTHS H⟩,fun D X=>?_⟩
  refine yf7 (xs:=[.int 128,.int 64,.int 32,.int 16,.int 8,.int 4,.int 2,.int 1]) (fun i G=>∃ (r v I:Addr) (W:Nat->Addr) (f':Nat->List Int->Option Slt) (O':Nat->Addr->Prop),jw K a G p (b.re r v I W) (rst b d S i).1 f' O' (m+i * b.n) q dx pd Z ds d (rst b d S i).2/\RGo p q Z b O H G r v O'/\G D=some (.lst ((sgB b d S i).map V.int))/\D≠r/\D≠v) ?_ (fun i G _ _=>T.w_WORTHS G) ?_ ?_
  ·have S1:y0 H (upd H D (.lst [])):=vv X
   refine ⟨b.ml,b.el,b.pl,b.sl,f,O,?_,RGo.refl.same S1,ya,(yd N.ft.mx.l X).symm,(yd N.ft.el X).symm⟩
   rw [Nat.zero_mul]
   exact N.same S1
  ·rintro i y G j a5 ⟨r,v,I,W,f1,O1,e,t,c,M,u⟩
   have hi:i < 8:=a5
   obtain rfl:y=V.int (wB i):=by
    rcases i with _ | _ | _ | _ | _ | _ | _ | _ | i
    ·exact (Option.some.inj j).symm
    ·exact (Option.some.inj j).symm
    ·exact (Option.some.inj j).symm
    ·exact (Option.some.inj j).symm
    ·exact (Option.some.inj j).symm
    ·exact (Option.some.inj j).symm
    ·exact (Option.some.inj j).symm
    ·exact (Option.some.inj j).symm
    ·omega
   have ab:i * b.n <= 8 * b.n:=Nat.mul_le_mul_right _ (by omega)
   obtain ⟨aa,a6⟩:=vfd i
   have a1:=yjs b d S a2 i
   have a8:=yjq b d S i
   rfl'
   refine ⟨p,b.re r v I W,(rst b d S i).1,f1,O1,m+i * b.n,q,dx,pd,Z,ds,d,(rst b d S i).2,rfl,e,by omega,a1,by omega,fun U J a4 a0 f2 O2 G2 Y g=>?_⟩
   have x:G2 D=some (.lst ((sgB b d S i).map V.int)):=g.fr _ _ c (xi c e.ft.me (by intro z; cases z)) (xi c e.ft.mx.o (by intro z; cases z)) u (xi c e.sk.me (by intro z; cases z)) (xi c e.sk.sp (by intro z; cases z)) (e.ft.B.nlst c)
   have R:D≠U:=by
    rcases g.hm with z | z
    ·rw [z]; exact M
    ·exact yd c z
   have L:D≠J:=by
    rcases g.he with z | z
    ·rw [z]; exact u
    ·exact yd c z
   refine ⟨wB i,_,rfl,rfl,.inl ⟨by omega,by omega⟩,?_⟩
   refine ⟨_,x,?_,8 - (i+1),by show 8 - (i+1) < 8 - i; omega,rfl,hi,U,J,a4,a0,f2,O2,?_,?_,?_,R,L⟩
   ·unfold sgB
    rw [List.length_map,List.length_map,List.length_range]
    exact Nat.lt_trans hi (by decide)
   ·rw [show m+(i+1) * b.n=m+i * b.n+b.n by rw [Nat.succ_mul,Nat.add_assoc]]
    exact jw.app Y x (Y.notN x R L) (yd N.sk.dt X)
   ·exact (t.trans g).app X
   ·rw [yov,List.map_append]
    exact ya
  ·rintro G ⟨r,v,I,W,f1,O1,e,t,c,M,u⟩
   rfl'
   refine ⟨D,sgB b d S 8,rfl,SqL.of c,?_⟩
   rfl'
   exact k r v I W f1 O1 G e t
theorem jw.up {K:W.Frag} {a:Ads} {H:Hp} {p:Addr} {A:FA} {X:FX} {f:Nat->List Int->Option Slt} {O:Nat->Addr->Prop} {m m':Nat} {q dx pd s ds:Addr} {d:List Int} {x:Sn} (h:jw K a H p A X f O m q dx pd s ds d x) (hm:m <= m'):jw K a H p A X f O m' q dx pd s ds d x:=⟨h.ft.up hm,h.sk,h.ok,h.nO,h.nd⟩
theorem yt8 (A:FA) (d:List Int) (S:FX × Sn) (ml el pl:Addr) (sl:Nat->Addr) (n:Nat):yam (A.re ml el pl sl) d S n=yam A d S n:=by
 unfold yam
 rw [yn3]
 rfl
theorem yza (A:FA) (d:List Int) (S:FX × Sn) (ml el pl:Addr) (sl:Nat->Addr) (n:Nat):sgB (A.re ml el pl sl) d S n=sgB A d S n:=by
 unfold sgB
 exact List.map_congr_left fun j _=>by rw [yt8]
def rsg (A:FA) (d:List Int) (S:FX × Sn) (k:Nat):Int:=(sgB A d (rst A d S (9 * k+1)) 8).sum
def rtx (A:FA) (d:List Int) (S:FX × Sn) (k:Nat):List Int:=(List.range k).map (rsg A d S)
theorem yor (A:FA) (d:List Int) (S:FX × Sn) (k:Nat):rtx A d S (k+1)=rtx A d S k++[rsg A d S k]:=by
 unfold rtx
 rw [List.range_succ,List.map_append]
 rfl
theorem ym9 (A:FA) (d:List Int) (S:FX × Sn) (k:Nat):(rtx A d S k).length=k:=by
 unfold rtx
 rw [List.length_map,List.length_range]
section
variable {K:W.Frag} {a:Ads} {G:Hp} {p:Addr} {A:FA} {S:FX × Sn} {f:Nat->List Int->Option Slt} {O:Nat->Addr->Prop} {m n:Nat} {q dx pd s ds ml el pl:Addr} {sl:Nat->Addr} {d:List Int} {Q:VK} {E:XK}
theorem yyq (hR:jw K a G p (A.re ml el pl sl) (rst A d S n).1 f O m q dx pd s ds d (rst A d S n).2) (hm:m+20 < 1000000) (nd0:0 <= S.1.nd) (hsg:S.1.sg.length+n <= 100000)
  (k:∀ (ml2 el2 pl2:Addr) (sl2:Nat->Addr) (f':Nat->List Int->Option Slt) (O':Nat->Addr->Prop) (H':Hp),jw K a H' p (A.re ml2 el2 pl2 sl2) (rst A d S (n+1)).1 f' O' (m+6) q dx pd s ds d (rst A d S (n+1)).2->RGo p q s (A.re ml el pl sl) O G H' ml2 el2 O'->Q (.int (yam A d S n)) H'):yiz K a [.ref p,.ref q] G Q E :=
 ⟨p,A.re ml el pl sl,(rst A d S n).1,f,O,m,q,dx,pd,s,ds,d,(rst A d S n).2,rfl,hR,hm,yjs A d S nd0 n,Nat.le_trans (yjq A d S n) hsg,fun ml2 el2 pl2 sl2 f' O' H' b c=>k ml2 el2 pl2 sl2 f' O' H' (jw.up b (Nat.add_le_add_left hR.ft.n6 m)) c⟩
theorem yte (hR:jw K a G p (A.re ml el pl sl) (rst A d S n).1 f O m q dx pd s ds d (rst A d S n).2) (hm:m+80 < 1000000) (nd0:0 <= S.1.nd) (hsg:S.1.sg.length+n <= 90000)
  (k:∀ (ml2 el2 pl2:Addr) (sl2:Nat->Addr) (f':Nat->List Int->Option Slt) (O':Nat->Addr->Prop) (H':Hp),jw K a H' p (A.re ml2 el2 pl2 sl2) (rst A d S (n+8)).1 f' O' (m+48) q dx pd s ds d (rst A d S (n+8)).2->RGo p q s (A.re ml el pl sl) O G H' ml2 el2 O'->Q (.int (sgB A d (rst A d S n) 8).sum) H'):yf9 K a [.ref p,.ref q] G Q E:=by
 refine ⟨p,A.re ml el pl sl,rst A d S n,f,O,m,q,dx,pd,s,ds,d,rfl,hR,hm,yjs A d S nd0 n,Nat.le_trans (yjq A d S n) hsg,fun ml2 el2 pl2 sl2 f' O' H' b c=>?_⟩
 have e:A.n <= 6:=hR.ft.n6
 have b:=jw.up b (show m+8 * A.n <= m+48 by omega)
 rw [yn3,yhy] at b
 rw [yza]
 exact k ml2 el2 pl2 sl2 f' O' H' b c
end
theorem yre:yk ["foreteller","seeker","most","text"] ["foreteller","seeker","most"] (yg yxb):=wx (by right)
def yle (K:W.Frag) (a:Ads):Sp:=fun vs H Q E=>∃ (p:Addr) (A:FA) (S:FX × Sn) (f:Nat->List Int->Option Slt) (O:Nat->Addr->Prop) (m:Nat) (q dx pd s ds:Addr) (d:List Int) (mo:Nat),vs=[.ref p,.ref q,.int mo]/\jw K a H p A S.1 f O m q dx pd s ds d S.2/\mo <= 1000/\m+54 * mo+200 < 1000000/\0 <= S.1.nd/\S.1.sg.length <= 10000 /\
 (∀ (N:Nat) (r ml el pl:Addr) (sl:Nat->Addr) (f':Nat->List Int->Option Slt) (O':Nat->Addr->Prop) (H':Hp),N <= mo->(∀ j,j < N->yam A d S (9 * j)=1)->yam A d S (9 * N)=0->H r=none->H' r=some (.lst ((rtx A d S N).map V.int))->r≠el->jw K a H' p (A.re ml el pl sl) (rst A d S (9 * N+1)).1 f' O' (m+54 * N+6) q dx pd s ds d (rst A d S (9 * N+1)).2->RGo p q s A O H H' ml el O'->Q (.ref r) H') /\
 ((∀ j,j <= mo->yam A d S (9 * j)=1)->∀ (ml el:Addr) (O':Nat->Addr->Prop) (H':Hp),RGo p q s A O H H' ml el O'->E (.ref a.C_NP) none H')
theorem yx5 (T:Txt K mg a):wc P w K mg base (CXe P w) 9 a.f_q58 a.d_q58 ["foreteller","seeker","most"] (yle K a):=by
 refine T.y_q58.F.okE yre (fun vs H Q E h=>?_) (fun ak A af s H vs Q E hr h=>?_)
 ·obtain ⟨p,A,S,f,O,m,q,dx,pd,s',ds,d,mo,rfl,_⟩:=h
  rfl
 ·obtain ⟨p,g,S,f,O,m,q,dx,pd,s',ds,d,mo,rfl,hR,am,hm,a4,al,kQ,kE⟩:=h
  refine ⟨_,(yh (yy (i:=3) yre.nd rfl (Or.inl rfl) (xj ye)) (yh (z8 PassesOwn.leaving (y8 uw (vn (yq7 T) (hr.mono (by decide)) rfl T.y_q56.m T.y_q56.F.kp T.y_q56.B .nil vj (yb (pv 0) (yb (pv 1) ye (yc rfl)) (yc rfl))) yi (vg _)) (yh (ww (y8 uw (yt yz rfl T.z_len (by right) (yb (pv 3) ye (yc rfl))) (pv 2) (vg _)) (yf (wy rfl T.m_NP T.r_NP (yb xf ye (yc rfl)))) vk) (yf (yu (ybh PySem.F.plainAttrs_list PySem.F.slot_list_append PySem.F.type_list_append wu (pv 3) (yb (vn (yzv T) (hr.mono (by decide)) rfl T.y_q57.m T.y_q57.F.kp T.y_q57.B .nil vj (yb (pv 0) (yb (pv 1) ye (yc rfl)) (yc rfl))) ye (yc rfl))))))) (yf (y7 (pv 3))))),?_⟩
  try dsimp only [vz]
  refine yn (σ':=[some _,some _,some _,none]) rfl ?_
  rfl'
  refine ⟨by walk_at "len",fun r hr0=>?_⟩
  with_reducible first | refine yw hr0 fun H1 S1 hr1=>?_ | refine ve hr0 fun H1 S1 hr1=>?_
  have a8:pd≠r:=yd hR.sk.dt hr0
  rfl'
  refine ⟨fun w σ' G=>∃ (N:Nat) (D I R:Addr) (sl:Nat->Addr) (f':Nat->List Int->Option Slt) (O':Nat->Addr->Prop),σ'=[some (.ref p),some (.ref q),some (.int mo),some (.ref r)]/\N <= mo/\(∀ j,j < N->yam g d S (9 * j)=1)/\jw K a G p (g.re D I R sl) (rst g d S (9 * N)).1 f' O' (m+54 * N) q dx pd s' ds d (rst g d S (9 * N)).2/\RGo p q s' g O H G D I O'/\G r=some (.lst ((rtx g d S N).map V.int))/\r≠D/\r≠I/\w=mo - N,
   ⟨_,0,g.ml,g.el,g.pl,g.sl,f,O,rfl,Nat.zero_le _,fun j hj=>absurd hj (Nat.not_lt_zero j),hR.same S1,RGo.refl.same S1,hr1,(yd hR.ft.mx.l hr0).symm,(yd hR.ft.el hr0).symm,rfl⟩,?_⟩
  rintro w σ2 G ⟨N,D,I,R,sl,f1,O1,rfl,hN,a3,e,ab,a7,J,C,rfl⟩
  rfl'
  refine yyq e (by omega) a4 (by omega) fun v n ag a9 f2 O2 Z M k=>?_
  have t:∀ {G Z:Hp} {D I R v n:Addr} {sl:Nat->Addr} {X:FX} {f1:Nat->List Int->Option Slt} {O1 O2:Nat->Addr->Prop} {m x} {xs:List V},jw K a G p (g.re D I R sl) X f1 O1 m q dx pd s' ds d x->RGo p q s' (g.re D I R sl) O1 G Z v n O2->G r=some (.lst xs)->r≠D->r≠I->Z r=some (.lst xs)/\r≠v/\r≠n:=fun e k c J C=>by
   refine ⟨k.fr _ _ c (xi c e.ft.me (by intro z; cases z)) (xi c e.ft.mx.o (by intro z; cases z)) C (xi c e.sk.me (by intro z; cases z)) (xi c e.sk.sp (by intro z; cases z)) (e.ft.B.nlst c),?_,?_⟩
   ·rcases k.hm with z | z
    ·rw [z]; exact J
    ·exact yd c z
   ·rcases k.he with z | z
    ·rw [z]; exact C
    ·exact yd c z
  obtain ⟨y,ad,U⟩:=t e k a7 J C
  have u:=ab.trans k
  have a5:=yqt g d S (9 * N)
  generalize ae:yam g d S (9 * N)=b at a5
  rfl'
  refine u6 (fun hb=>?_) (fun hb=>?_)
  ·subst hb
   have a0:∀ j,j < N+1->yam g d S (9 * j)=1:=fun j hj=>by
    by_cases z:j=N
    ·rw [z]; exact ae
    ·exact a3 j (by omega)
   refine ygl ?_
   rfl'
   refine zw (SqL.of y) ?_
   rw [List.length_map,ym9]
   rfl'
   refine u6 (fun hc=>?_) (fun hc=>?_)
   ·have an:N=mo:=by omega
    rfl'
    exact ⟨by walk_at "len",kE (fun j hj=>a0 j (by omega)) v n O2 Z u⟩
   ·rfl'
    refine jr y ?_
    rfl'
    refine yte M (by omega) a4 (by omega) fun aj ai ac aa f3 O3 G3 a2 a1=>?_
    obtain ⟨L,Y,a6⟩:=t M a1 y ad U
    have W:=u.trans a1
    rfl'
    refine xv L (vx (by rw [List.length_map,ym9]; omega)) ?_
    rfl'
    refine ⟨_,?_,N+1,aj,ai,ac,aa,f3,O3,rfl,by omega,a0,?_,W.app hr0,?_,Y,a6,rfl⟩
    ·omega
    ·exact jw.app a2 L (a2.notN L Y a6) a8
    ·rw [ya,yor,List.map_append]
     rfl
  ·have ah:yam g d S (9 * N)=0:=by omega
   rfl'
   exact kQ N r v n ag a9 f2 O2 Z hN a3 ah hr0 y U M u
theorem yu8 (x:Sn) (c b:Int):(nar x c b).2.2 <= x.2.2+2:=by
 unfold nar ren
 (repeat' split) <;> (dsimp only; omega)
theorem yq0 (A:FA) (d:List Int) (S:FX × Sn):∀ n:Nat,(rst A d S n).2.2.2 <= S.2.2.2+2 * (n:Int)
 | 0=>by show S.2.2.2 <= S.2.2.2+2 * ((0:Nat):Int); omega
 | n+1=>by
  have a:=yq0 A d S n
  have b:=yu8 (rst A d S n).2 (chX A (rst A d S n).1) (ybn d (rst A d S n).2 (chX A (rst A d S n).1))
  show (nar (rst A d S n).2 (chX A (rst A d S n).1) (ybn d (rst A d S n).2 (chX A (rst A d S n).1))).2.2 <= _
  omega
structure ROk (A:FA) (d:List Int) (S:FX × Sn) (N:Nat):Prop where
 b1:∀ j,j < N->yam A d S (9 * j)=1
 b0:yam A d S (9 * N)=0
 tk:d.take (tL (rst A d S (9 * N+1)).2).length=tL (rst A d S (9 * N+1)).2
theorem ROk.uniq {A:FA} {d:List Int} {S:FX × Sn} {N M:Nat} (h:ROk A d S N) (b1:∀ j,j < M->yam A d S (9 * j)=1) (b0:yam A d S (9 * M)=0):M=N:=by
 rcases Nat.lt_trichotomy M N with z | z | z
 ·have e:=h.b1 M z
  rw [b0] at e
  cases e
 ·exact z
 ·have e:=b1 N z
  rw [h.b0] at e
  cases e
def rTL (A:FA) (d:List Int) (S:FX × Sn) (N:Nat):Nat:=(tL (rst A d S (9 * N+1)).2).length
theorem RGo.fgo {p q s:Addr} {A:FA} {O O':Nat->Addr->Prop} {H0 H H':Hp} {ml el:Addr} (S:y0 H0 H) (hq:H0 q=none) (hs:H0 s=none) (h:RGo p q s A O H H' ml el O'):FGo p A O H0 H' el O' :=
 ⟨h.he.imp id S.free,fun j c f w=>(h.hO j c f w).imp id S.free,fun c o e g a b d=>h.fr c o (S _ _ e) g a b (yd e hq) (yd e hs) d,fun c o e=>h.live c o (S _ _ e)⟩
theorem yje:yk ["foreteller","data","most","seeker","text","own"] ["foreteller","data","most"] (yg yvx):=wx (by right)
def yfx (K:W.Frag) (a:Ads):Sp:=fun vs H Q E=>∃ (p:Addr) (A:FA) (X:FX) (f:Nat->List Int->Option Slt) (O:Nat->Addr->Prop) (m:Nat) (dt:Addr) (d:List Int) (mo:Nat),vs=[.ref p,.ref dt,.int mo]/\zh K a H p A X f O m/\H dt=some (.lst (d.map V.int))/\dt≠A.el/\Byt d/\d.length <= 12000/\mo <= 1000/\m+54 * mo+200 < 1000000/\0 <= X.nd/\X.sg.length <= 10000 /\
 (∀ (N:Nat) (t r el:Addr) (O':Nat->Addr->Prop) (H':Hp),N <= mo->ROk A d (X,s0) N->H t=none->H r=none->H' t=some (.tup [.ref r,.int (rTL A d (X,s0) N)])->H' r=some (.lst ((rtx A d (X,s0) N).map V.int))->FGo p A O H H' el O'->(r≠el/\∃ ml pl sl f',zh K a H' p (A.re ml el pl sl) (rst A d (X,s0) (9 * N+1)).1 f' O' (m+54 * N+6))->Q (.ref t) H') /\
 ((∀ N,N <= mo->¬ ROk A d (X,s0) N)->∀ (el:Addr) (O':Nat->Addr->Prop) (H':Hp),FGo p A O H H' el O'->E (.ref a.C_NP) none H')
theorem yym (T:Txt K mg a):wc P w K mg base (CXe P w) 10 a.f_q59 a.d_q59 ["foreteller","data","most"] (yfx K a):=by
 refine T.y_q59.F.okE yje (fun vs H Q E h=>?_) (fun af A ad s H vs Q E hr h=>?_)
 ·obtain ⟨p,A,X,f,O,m,dt,d,mo,rfl,_⟩:=h
  rfl
 ·obtain ⟨p,l,X,f,O,m,dt,d,mo,rfl,Z,v,a0,a7,a3,ab,hm,aa,a4,kQ,kE⟩:=h
  refine yo (yy (i:=3) yje.nd rfl (Or.inl rfl) (u7 T.k_Sk (vb9 T) (hr.mono (by decide)) rfl T.m_Sk T.y_q50.B .nil yx (yb (pv 1) ye (yc rfl)))) ?_
  refine yo (yy (i:=4) yje.nd rfl (Or.inl rfl) (vw (yx5 T) (hr.mono (by decide)) rfl T.y_q58.m T.y_q58.F.kp T.y_q58.B .nil yx (yb (pv 0) (yb (pv 3) (yb (pv 2) ye (yc rfl)) (yc rfl)) (yc rfl)))) ?_
  refine yo (yy (i:=5) yje.nd rfl (Or.inl rfl) (w8 (pv 3) T.cl_Sk T.y_q54.m (vb6 T) (hr.mono (by decide)) T.y_q54.B .nil vj)) ?_
  refine yo (ww (y8 (yjo hr.units) (xn u9 (pv 1) x5 (x3 (yt yz rfl T.z_len (by right) (yb (pv 5) ye (yc rfl))))) (pv 5) (vg _)) (yf (wy rfl T.m_NP T.r_NP (yb xf ye (yc rfl)))) vk) ?_
  refine ⟨_,(yf (y7 (yoc (yb (pv 4) (yb (yt yz rfl T.z_len (by right) (yb (pv 5) ye (yc rfl))) ye (yc rfl)) (yc rfl))))),?_⟩
  try dsimp only [vz]
  refine yn (σ':=[some _,some _,some _,none,none,none]) rfl ?_
  rfl'
  intro q G J ae ai
  have I:y0 H (upd (upd H G (.own q)) q (.ins a.C_Sk G [])):=fun b o e=>by rw [ym (yd e J),ym (yd e ae)]; exact e
  refine ⟨q,G,.ref dt,_,rfl,ya,.lst (I _ _ v),.inr ⟨d,ypf (I _ _ v) a7 a3,fun pd ps ds H1 Y W a5 B1=>⟨rfl,?_⟩⟩⟩
  have S1:y0 H H1:=fun b o e=>B1 b o (I b o e) (yd e J)
  have C:H ps=none:=I.free W
  have a1:H pd=none:=I.free Y
  have nO:∀ {c:Addr},H c=none->∀ i,i < l.n->¬ O i c:=fun D i hi w=>by
   obtain ⟨o,ho,_⟩:=(Z.B.b i hi).own _ w
   rw [D] at ho
   cases ho
  have hR:jw K a H1 p l X f O m q G pd ps ds d s0:=⟨Z.same S1,a5,vfr,fun i hi=>⟨nO J i hi,nO C i hi⟩,(yd Z.el a1).symm⟩
  rfl'
  refine ⟨p,l,(X,s0),f,O,m,q,G,pd,ps,ds,d,mo,rfl,hR,ab,hm,aa,a4,fun N r ml el pl sl f2 O2 H2 hN S U ac a8 a9 k y=>?_,fun R ml el O2 H2 y=>?_⟩
  ·have a2:=yq0 l d (X,s0) (9 * N+1)
   have a6:((X,s0):FX × Sn).2.2.2=5:=rfl
   rw [a6] at a2
   have go:=y.fgo S1 J C
   have ah:=k.sk.me
   have L:H2 dt=some (.lst (d.map V.int)):=(go.kpa Z).lst v a0
   rfl'
   refine ⟨q,G,pd,ps,ds,d,_,rfl,k.sk,k.ok,by show Int.toNat _ <= 100000; omega,fun w H3 ag z S3=>?_⟩
   rfl'
   refine zw (SqL.of z) ?_
   rw [List.length_map]
   rfl'
   refine ye5 (SqL.of (S3 _ _ L)) fun u hu=>?_
   have ec:yic (d.map V.int) none (some (((tL (rst l d (X,s0) (9 * N+1)).2).length:Nat):Int))=(d.take (tL (rst l d (X,s0) (9 * N+1)).2).length).map V.int:=by rw [List.map_take]; exact u8 _
   rw [ec]
   with_reducible first | refine yw hu fun H4 S4 hu4=>?_ | refine ve hu fun H4 S4 hu4=>?_
   have x:=go.same (S3.trans S4)
   rfl'
   refine vei _ _ (SqL.of hu4) (SqL.of (S4 _ _ z)) ?_
   by_cases D:d.take (tL (rst l d (X,s0) (9 * N+1)).2).length=tL (rst l d (X,s0) (9 * N+1)).2
   ·rw [decide_eq_true D]
    rfl'
    refine zw (SqL.of (S4 _ _ z)) ?_
    rw [List.length_map]
    rfl'
    refine ⟨by walk_at "len",fun t g=>?_⟩
    refine kQ N t r el O2 _ hN ⟨S,U,D⟩ (x.free g) (S1.free ac) ya (zq g ((S3.trans S4) _ _ a8)) (x.same (vv g)) ⟨a9,ml,pl,sl,f2,((k.ft.same (S3.trans S4)).same (vv g))⟩
   ·rw [decide_eq_false D]
    rfl'
    exact ⟨by walk_at "len",kE (fun M hM j=>D (by rw [j.uniq S U]; exact j.tk)) el O2 _ x⟩
  ·exact kE (fun M hM j=>by have e:=R M hM; rw [j.b0] at e; cases e) el O2 H2 (y.fgo S1 J C)
structure vhf (H:Hp) (L dt:Addr) (lx:V) (n:Nat) (lk:Nat->Addr) (kd:Nat->Fin 3) (tp:Nat->Addr) (ps:Nat->List Int) (d:List Int) (mo N w:Nat) (lt:Nat->Addr) (tt:Nat->List Int):Prop where
 l:H L=some (.lst (refs lk n))
 n1:1 <= n
 n6:n <= 6
 r:ug H n lk kd tp ps
 dat:H dt=some (.lst (d.map V.int))
 by':Byt d
 dl:d.length <= 12000
 mo1:mo <= 1000
 lr:vgc H lx N w lt tt
 w1:w <= 1000
 N1:N <= 1000
 b:6+6 * (N * (9 * w+1))+54 * mo+200 < 1000000
def rS (n:Nat) (kd:Nat->Fin 3) (ps:Nat->List Int) (pre:List Int):FX × Sn:=((FX0 n kd).run (fa0 n ps) pre,s0)
theorem jo (A:FA) (d:List Int) (S:FX × Sn):∀ k,rst A d S k=rst (fa0 A.n A.ps) d S k
 | 0=>rfl
 | k+1=>by
  show rnx A d (rst A d S k)=rnx (fa0 A.n A.ps) d (rst (fa0 A.n A.ps) d S k)
  rw [jo A d S k]
  rfl
theorem yac (A:FA) (d:List Int) (S:FX × Sn) (k:Nat):yam A d S k=yam (fa0 A.n A.ps) d S k:=by
 unfold yam
 rw [jo]
 rfl
theorem yvh (A:FA) (d:List Int) (S:FX × Sn) (k:Nat):rsg A d S k=rsg (fa0 A.n A.ps) d S k:=by
 unfold rsg sgB
 rw [jo]
 exact congrArg List.sum (List.map_congr_left fun j _=>by rw [yac])
theorem yui (A:FA) (d:List Int) (S:FX × Sn) (k:Nat):rtx A d S k=rtx (fa0 A.n A.ps) d S k:=by
 unfold rtx
 exact List.map_congr_left fun j _=>yvh A d S j
theorem ys9 (A:FA) (d:List Int) (S:FX × Sn) (k:Nat):rTL A d S k=rTL (fa0 A.n A.ps) d S k:=by
 unfold rTL
 rw [jo]
theorem ROk.fa0 {A:FA} {d:List Int} {S:FX × Sn} {N:Nat}:ROk A d S N ↔ ROk (fa0 A.n A.ps) d S N:=by
 constructor
 ·intro h
  exact ⟨fun j a=>by rw [<- yac]; exact h.b1 j a,by rw [<- yac]; exact h.b0,by rw [<- jo]; exact h.tk⟩
 ·intro h
  exact ⟨fun j a=>by rw [yac]; exact h.b1 j a,by rw [yac]; exact h.b0,by rw [jo]; exact h.tk⟩
theorem yrr {mx bt:Nat->Int} {d:List Int} (hd:Byt d) {m:Nat} (hc:∀ j,j < m->Ch (mx j)) (hb:∀ j,j < m->bt j=0\/bt j=1) (i:InS d (snK mx bt m)):∀ k,k < m->bt k=ybn d (snK mx bt k) (mx k)/\InS d (snK mx bt k):=by
 induction m with
 | zero=>exact fun k b=>absurd b (Nat.not_lt_zero k)
 | succ m ih =>
  have e:=(yah (mx:=mx) (bt:=bt) m fun j c=>hc j (by omega)).1
  obtain ⟨a,f⟩:=yux hd e (hc m (by omega)) (hb m (by omega)) i
  intro k b
  by_cases z:k=m
  ·rw [z]
   exact ⟨f,a⟩
  ·exact ih (fun j c=>hc j (by omega)) (fun j c=>hb j (by omega)) a k (by omega)
theorem vc0 {ts:List Int} {k:Nat} (h:k < (dec ts).length):wg ts k=0\/wg ts k=1:=by
 obtain ⟨a,b⟩:=yo4 ts k h
 omega
theorem yny (x:Sn):Byt (tL x):=fun b a=>yt6 _ _ b a
theorem ybq {n:Nat} {kd:Nat->Fin 3} {ps:Nat->List Int} {pre ts d:List Int} (hd:Byt d) (hc:∀ j,j < (dec ts).length->Ch (ju n kd ps pre ts j)) (hi:InS d (snK (ju n kd ps pre ts) (wg ts) (dec ts).length)):∀ k,k <= (dec ts).length->rst (fa0 n ps) d (rS n kd ps pre) k=(fX n kd ps pre ts k,snK (ju n kd ps pre ts) (wg ts) k)
 | 0,_=>rfl
 | k+1,hk=>by
  have a:=(yrr hd hc (fun j b=>vc0 b) hi k (by omega)).1
  have c:(dec ts)[k]?=some (wg ts k):=by unfold wg; rw [List.getElem?_eq_getElem (by omega)]; rfl
  show rnx (fa0 n ps) d (rst (fa0 n ps) d (rS n kd ps pre) k)=_
  rw [ybq hd hc hi k (by omega)]
  show ((fX n kd ps pre ts k).see (fa0 n ps) (ybn d (snK (ju n kd ps pre ts) (wg ts) k) (ju n kd ps pre ts k)),nar (snK (ju n kd ps pre ts) (wg ts) k) (ju n kd ps pre ts k) (ybn d (snK (ju n kd ps pre ts) (wg ts) k) (ju n kd ps pre ts k)))=(fX n kd ps pre ts (k+1),nar (snK (ju n kd ps pre ts) (wg ts) k) (ju n kd ps pre ts k) (wg ts k))
  rw [<- a]
  have e:fX n kd ps pre ts (k+1)=(fX n kd ps pre ts k).see (fa0 n ps) (wg ts k):=by
   unfold fX
   rw [ybt c]
  rw [e]
theorem ymo {n:Nat} {kd:Nat->Fin 3} {ps:Nat->List Int} {pre ts d:List Int} (hd:Byt d) (hc:∀ j,j < (dec ts).length->Ch (ju n kd ps pre ts j)) (hi:InS d (snK (ju n kd ps pre ts) (wg ts) (dec ts).length)) (k:Nat) (hk:k < (dec ts).length):yam (fa0 n ps) d (rS n kd ps pre) k=wg ts k:=by
 have a:=(yrr hd hc (fun j b=>vc0 b) hi k hk).1
 unfold yam
 rw [ybq hd hc hi k (by omega)]
 exact a.symm
theorem ya1 (t:Int) (r:List Int) (k:Nat):wg (t :: r) (k+9)=wg r k:=rfl
theorem ykh (t:Int) (r:List Int):∀ i,i < 8->wg (t :: r) (1+i)=t / wB i % 2:=fun i a=>by
 rcases i with _ | _ | _ | _ | _ | _ | _ | _ | i
 ·rfl
 ·rfl
 ·rfl
 ·rfl
 ·rfl
 ·rfl
 ·rfl
 ·rfl
 ·omega
theorem yck:∀ (ts:List Int) (j:Nat) (hj:j < ts.length),wg ts (9 * j)=1/\∀ i,i < 8->wg ts (9 * j+1+i)=ts[j] / wB i % 2
 | [],j,hj=>absurd hj (Nat.not_lt_zero j)
 | t :: r,0,_=>⟨rfl,fun i a=>by rw [show 9 * 0+1+i=1+i by omega]; exact ykh t r i a⟩
 | t :: r,j+1,hj=>by
  obtain ⟨b,c⟩:=yck r j (by simpa using hj)
  refine ⟨?_,fun i a=>?_⟩
  ·rw [show 9 * (j+1)=9 * j+9 by omega,ya1]
   exact b
  ·rw [show 9 * (j+1)+1+i=9 * j+1+i+9 by omega,ya1]
   exact c i a
theorem yig:∀ ts:List Int,wg ts (9 * ts.length)=0
 | []=>rfl
 | t :: r=>by
  rw [show 9 * (t :: r).length=9 * r.length+9 by rw [List.length_cons]; omega,ya1]
  exact yig r
theorem ypw (A:FA) (d:List Int) (S:FX × Sn) (c i:Nat):yam A d (rst A d S c) i=yam A d S (c+i):=by
 unfold yam
 rw [yhy]
theorem ymz {n:Nat} {kd:Nat->Fin 3} {ps:Nat->List Int} {pre ts d:List Int} (hts:Sgs ts) (hd:Byt d) (hc:∀ j,j < (dec ts).length->Ch (ju n kd ps pre ts j)) (hl:(tL (snK (ju n kd ps pre ts) (wg ts) (dec ts).length)).length <= d.length) (h:d.take (tL (snK (ju n kd ps pre ts) (wg ts) (dec ts).length)).length=tL (snK (ju n kd ps pre ts) (wg ts) (dec ts).length)) :
  ROk (fa0 n ps) d (rS n kd ps pre) ts.length/\rtx (fa0 n ps) d (rS n kd ps pre) ts.length=ts/\rTL (fa0 n ps) d (rS n kd ps pre) ts.length=(tL (snK (ju n kd ps pre ts) (wg ts) (dec ts).length)).length:=by
 have l:=(yah (bt:=wg ts) _ hc).1
 have a:=yna hd l hl h
 have c:=uv ts
 have f:rst (fa0 n ps) d (rS n kd ps pre) (9 * ts.length+1)=(fX n kd ps pre ts (dec ts).length,snK (ju n kd ps pre ts) (wg ts) (dec ts).length):=by
  rw [<- c]
  exact ybq hd hc a _ (Nat.le_refl _)
 have b:=ymo hd hc a
 refine ⟨⟨fun j m=>?_,?_,?_⟩,?_,?_⟩
 ·rw [b _ (by omega)]
  exact (yck ts j m).1
 ·rw [b _ (by omega)]
  exact yig ts
 ·rw [f]
  exact h
 ·show (List.range ts.length).map (rsg (fa0 n ps) d (rS n kd ps pre))=ts
  refine List.ext_getElem (by rw [List.length_map,List.length_range]) fun j q g=>?_
  rw [List.getElem_map,List.getElem_range]
  have k:=hts ts[j] (List.getElem_mem g)
  have p:=(yck ts j g).2
  have e:∀ i,i < 8->wB i * yam (fa0 n ps) d (rst (fa0 n ps) d (rS n kd ps pre) (9 * j+1)) i=wB i * (ts[j] / wB i % 2):=fun i a=>by
   rw [ypw,b _ (by omega),p i a]
  have o:sgB (fa0 n ps) d (rst (fa0 n ps) d (rS n kd ps pre) (9 * j+1)) 8=(List.range 8).map fun i=>wB i * (ts[j] / wB i % 2):=by
   unfold sgB
   exact List.map_congr_left fun i a=>e i (List.mem_range.mp a)
  unfold rsg
  rw [o]
  exact vfg k.1 k.2
 ·unfold rTL
  rw [f]
theorem yew {xs ys:List Int} (h1:Byt xs) (h2:Byt ys):Byt (xs++ys):=fun b a=>by
 rcases List.mem_append.mp a with h | h
 ·exact h1 b h
 ·exact h2 b h
def ybk (n:Nat) (kd:Nat->Fin 3) (ps:Nat->List Int) (pre ts:List Int):List Int:=tL (snK (ju n kd ps pre ts) (wg ts) (dec ts).length)
theorem yph {n:Nat} {kd:Nat->Fin 3} {ps:Nat->List Int} {pre ts:List Int} (n1:1 <= n) (n6:n <= 6) (hp:ygt pre) (hz:ts.length <= 300):(ybk n kd ps pre ts).length <= 5500:=by
 have c:=uv ts
 obtain ⟨a,b⟩:=yah (mx:=ju n kd ps pre ts) (bt:=wg ts) (dec ts).length fun j _=>ye0 n1 n6 hp j
 unfold ybk
 rw [ynx]
 have:sz (snK (ju n kd ps pre ts) (wg ts) (dec ts).length) <= 5500:=by show Int.toNat _ <= 5500; omega
 omega
theorem ypy {n:Nat} {kd:Nat->Fin 3} {ps:Nat->List Int} {pre ts bs:List Int} (n1:1 <= n) (n6:n <= 6) (hp:ygt pre) (hts:Sgs ts) (hb:Byt bs) :
  ROk (fa0 n ps) (ybk n kd ps pre ts++bs) (rS n kd ps pre) ts.length/\rtx (fa0 n ps) (ybk n kd ps pre ts++bs) (rS n kd ps pre) ts.length=ts/\rTL (fa0 n ps) (ybk n kd ps pre ts++bs) (rS n kd ps pre) ts.length=(ybk n kd ps pre ts).length :=
 ymz hts (yew (yny _) hb) (fun j _=>ye0 n1 n6 hp j) (by rw [List.length_append]; exact Nat.le_add_right _ _) List.take_left
theorem ytj {n:Nat} {kd:Nat->Fin 3} {ps:Nat->List Int} {pre ts bs:List Int} (n1:1 <= n) (n6:n <= 6) (hp:ygt pre) (hb:Byt bs):(rst (fa0 n ps) (ybk n kd ps pre ts++bs) (rS n kd ps pre) (9 * ts.length+1)).1=((FX0 n kd).run (fa0 n ps) pre).run (fa0 n ps) (dec ts):=by
 have b:∀ j,j < (dec ts).length->Ch (ju n kd ps pre ts j):=fun j _=>ye0 n1 n6 hp j
 have a:Byt (ybk n kd ps pre ts++bs):=yew (yny _) hb
 have c:=yna a (yah (bt:=wg ts) _ b).1 (by rw [List.length_append]; exact Nat.le_add_right _ _) List.take_left
 rw [<- uv ts,ybq a b c _ (Nat.le_refl _)]
 unfold fX
 rw [List.take_length]
theorem vez {x:Sn} {c b:Int} (h:Ok x) (hc:Ch c):(nar x c b).2.1 < 1099511627776:=by
 obtain ⟨e,f,a⟩:=ygi h.w0 h.w1 hc
 have d:=h.w1
 unfold nar ren
 (repeat' split) <;> (dsimp only at *; omega)
theorem yp7 {n:Nat} {kd:Nat->Fin 3} {ps:Nat->List Int} {pre ts:List Int} (n1:1 <= n) (n6:n <= 6) (hp:ygt pre):1 <= (ybk n kd ps pre ts).length:=by
 have e:=uv ts
 obtain ⟨m,f⟩:∃ m,(dec ts).length=m+1:=⟨9 * ts.length,by omega⟩
 unfold ybk
 rw [ynx,f]
 have a:∀ j,j < m+1->Ch (ju n kd ps pre ts j):=fun j _=>ye0 n1 n6 hp j
 have d:=(yah (bt:=wg ts) m fun j k=>a j (by omega)).1
 have c:=(yah (bt:=wg ts) (m+1) a).1
 have l:(snK (ju n kd ps pre ts) (wg ts) (m+1)).2.1 < 1099511627776:=vez (x:=snK (ju n kd ps pre ts) (wg ts) m) (b:=wg ts m) d.ok (a m (by omega))
 have i:=ym1 (ye2 c.ok)
 have h:=c.sz5
 have g:pw (tK (snK (ju n kd ps pre ts) (wg ts) (m+1))) < pw 5:=by rw [pw5]; omega
 have:=vdg g
 omega
def yda (L:List (List Int)):List Int:=(L.map dec).flatten
theorem yf2 (L:List (List Int)) (t:List Int):yda (L++[t])=yda L++dec t:=by
 unfold yda
 rw [List.map_append,List.flatten_append]
 simp
theorem ycn (L:List (List Int)):ygt (yda L):=fun b a=>by
 unfold yda at a
 obtain ⟨l,c,a⟩:=List.mem_flatten.mp a
 obtain ⟨t,_,rfl⟩:=List.mem_map.mp c
 exact yaa t b a
theorem yo6 {A:FA} {X:FX} {ts:List Int} (hts:Sgs ts) (h1:X.sg=[]) (h2:X.nd=0):(X.run A (dec ts)).sg=[]/\(X.run A (dec ts)).nd=0:=by
 have a:∀ k,k <= (dec ts).length->TxE ts k (X.run A ((dec ts).take k)).sg (X.run A ((dec ts).take k)).nd:=by
  intro k
  induction k with
  | zero =>
   intro _
   exact .inl ⟨Nat.zero_le _,by show yh9 _ _ X.sg X.nd; rw [h1,h2]; exact yh9.zero _⟩
  | succ k ih =>
   intro d
   have b:(dec ts)[k]?=some ((dec ts)[k]'(by omega)):=List.getElem?_eq_getElem _
   rw [ybt b]
   exact ((ih (by omega)).next hts b).2
 have e:=a _ (Nat.le_refl _)
 rw [List.take_length] at e
 have c:=uv ts
 rcases e with ⟨h,_⟩ | ⟨_,h⟩
 ·omega
 ·exact h
def yx1 (p:Addr) (A:FA) (O:Nat->Addr->Prop):Addr->Prop:=fun c=>c=p\/c=A.mp\/(∃ j,j < A.n/\c=A.bk j)\/(∃ j,j < A.n/\O j c)\/c=A.el
def FZ (K:W.Frag) (a:Ads) (H:Hp) (p:Addr) (n:Nat) (kd:Nat->Fin 3) (ps:Nat->List Int) (pre:List Int) (M:Nat) (W:Addr->Prop):Prop :=
 ∃ A f O m,zh K a H p A ((FX0 n kd).run (fa0 n ps) pre) f O m/\m <= M/\vdy H A/\A.n=n/\A.kd=kd/\A.ps=ps/\((FX0 n kd).run (fa0 n ps) pre).sg=[]/\((FX0 n kd).run (fa0 n ps) pre).nd=0/\∀ c,W c ↔ yx1 p A O c
def yqo:HO->Bool
 | .ins _ _ _=>true
 | .dT _=>true
 | .dK _=>true
 | .frz _ (.dK _)=>true
 | _=>false
def WSh (H:Hp) (W:Addr->Prop):Prop:=∀ c,W c->∃ o,H c=some o/\(yqo o=true\/∃ xs,o=.lst xs/\∀ x∈xs,(∃ s,x=V.str s)\/x=V.non\/∃ q ys,x=V.ref q/\H q=some (.lst ys))
theorem yu0 {o:HO} (h:vdz o=true):yqo o=true:=by
 cases o <;> first | rfl | cases h
section
variable {K:W.Frag} {a:Ads} {H H':Hp} {p:Addr} {n:Nat} {kd:Nat->Fin 3} {ps:Nat->List Int} {pre:List Int} {M:Nat} {W:Addr->Prop}
theorem FZ.sh (h:FZ K a H p n kd ps pre M W):WSh H W:=fun c w=>by
 obtain ⟨A,f,O,m,d,_,_,_,_,_,r,_,e⟩:=h
 rcases (e c).mp w with z | z | ⟨j,g,z⟩ | ⟨j,g,z⟩ | z
 ·exact ⟨_,by rw [z]; exact d.me,.inl rfl⟩
 ·exact ⟨_,by rw [z]; exact d.mx.o,.inl rfl⟩
 ·exact ⟨_,by rw [z]; exact (d.B.b j g).me,.inl rfl⟩
 ·obtain ⟨o,q,l⟩:=(d.B.b j g).own c z
  exact ⟨o,q,.inl (yu0 l)⟩
 ·have i:=d.el
  rw [r] at i
  exact ⟨_,by rw [z]; exact i,.inr ⟨_,rfl,fun x k=>by cases k⟩⟩
theorem FZ.live (h:FZ K a H p n kd ps pre M W):∀ c,W c->∃ o,H c=some o:=fun c w=>let ⟨o,e,_⟩:=h.sh c w; ⟨o,e⟩
theorem FZ.same (h:FZ K a H p n kd ps pre M W) (S:y0 H H'):FZ K a H' p n kd ps pre M W:=by
 obtain ⟨A,f,O,m,b,c,d,r⟩:=h
 exact ⟨A,f,O,m,b.same S,c,d.same S,r⟩
theorem FZ.up (h:FZ K a H p n kd ps pre M W) {M':Nat} (hM:M <= M'):FZ K a H p n kd ps pre M' W:=by
 obtain ⟨A,f,O,m,b,c,r⟩:=h
 exact ⟨A,f,O,m,b,Nat.le_trans c hM,r⟩
theorem WSh.tup {W:Addr->Prop} (h:WSh H W) {c:Addr} {xs:List V} (e:H c=some (.tup xs)):¬ W c:=fun w=>by
 obtain ⟨o,a,z | ⟨b,z,_⟩⟩:=h c w
 ·rw [e] at a; cases a; cases z
 ·rw [e,z] at a; cases a
theorem WSh.ints {W:Addr->Prop} (h:WSh H W) {c:Addr} {ns:List Int} (e:H c=some (.lst (ns.map V.int))) (hn:1 <= ns.length):¬ W c:=fun w=>by
 obtain ⟨o,a,z | ⟨b,z,q⟩⟩:=h c w
 ·rw [e] at a; cases a; cases z
 ·rw [e,z] at a
  cases a
  cases ns with
  | nil=>cases hn
  | cons x r=>rcases q (.int x) List.mem_cons_self with ⟨_,z⟩ | z | ⟨_,_,z,_⟩ <;> cases z
theorem WSh.refs {W:Addr->Prop} (h:WSh H W) {c:Addr} {g:Nat->Addr} {k:Nat} (e:H c=some (.lst (Law.refs g k))) (hk:1 <= k) (hg:∀ ys,H (g 0)≠some (.lst ys)):¬ W c:=fun w=>by
 obtain ⟨o,a,z | ⟨ys,z,q⟩⟩:=h c w
 ·rw [e] at a; cases a; cases z
 ·rw [e,z] at a
  cases a
  rcases q (.ref (g 0)) (List.mem_of_getElem? (yun hk)) with ⟨_,z⟩ | z | ⟨f,b,z,d⟩
  ·cases z
  ·cases z
  ·cases z; exact hg _ d
theorem FZ.frame {W2:Addr->Prop} (h:FZ K a H p n kd ps pre M W) (sh:WSh H W2) (dj:∀ c,W c->¬ W2 c) (fr:∀ c o,H c=some o->¬ W2 c->H' c=some o):FZ K a H' p n kd ps pre M W:=by
 obtain ⟨A,f,O,m,d,X,s,T,P,Y,Q,U,q⟩:=h
 have k:=d.n1
 obtain ⟨L,j⟩:=s.2.2
 have D:¬ W2 A.ll:=sh.refs s.1 k fun G z=>by
  obtain ⟨J,e,v,_⟩:=j 0 k
  cases e
  rw [v] at z
  cases z
 have x:¬ W2 A.bl:=sh.refs d.bl k fun G z=>by rw [(d.B.b 0 k).me] at z; cases z
 have y:¬ W2 A.pl:=sh.refs d.pl k fun G z=>by
  obtain ⟨_,⟨S,hs⟩,_,_⟩:=d.slot k
  obtain ⟨C,fs,eo⟩:=ydl a S (((FX0 n kd).run (fa0 n ps) pre).g 0 (((FX0 n kd).run (fa0 n ps) pre).key A 0))
  rw [hs,eo] at z
  cases z
 have F:¬ W2 A.ml:=sh.ints d.mx.l (by rw [d.wok.len]; exact k)
 refine ⟨A,f,O,m,d.frame (O2:=W2) (fun c o e Z=>fr c o e Z) (dj _ ((q _).mpr (.inl rfl))) (dj _ ((q _).mpr (.inr (.inl rfl)))) (fun i r=>dj _ ((q _).mpr (.inr (.inr (.inl ⟨i,r,rfl⟩))))) (fun i c r w=>dj _ ((q _).mpr (.inr (.inr (.inr (.inl ⟨i,r,w⟩)))))) (fun l N E e=>fr _ _ e ?_) (fun t N e=>?_),X,⟨fr _ _ s.1 D,s.2.1,L,fun i r=>?_⟩,T,P,Y,Q,U,q⟩
 ·rcases E with z | z | z | z
  ·rw [z]; exact x
  ·rw [z]; exact dj _ ((q _).mpr (.inr (.inr (.inr (.inr rfl)))))
  ·rw [z]; exact F
  ·rw [z]; exact y
 ·rcases e with (e | ⟨o,e⟩) | e
  ·exact .inl (.inl (fr _ _ e (sh.tup e)))
  ·refine .inl (.inr ⟨o,fr _ _ e fun w=>?_⟩)
   obtain ⟨o',u,z | ⟨G,z,_⟩⟩:=sh t w
   ·rw [e] at u; cases u; cases z
   ·rw [e,z] at u; cases u
  ·exact .inr e
 ·obtain ⟨J,z,v,I,R⟩:=j i r
  exact ⟨J,z,fr _ _ v (sh.tup v),fr _ _ I (sh.tup I),R⟩
theorem FZ.went {A:FA} {f f':Nat->List Int->Option Slt} {O O':Nat->Addr->Prop} {m m':Nat} {X:FX} {ml el pl:Addr} {sl:Nat->Addr} {ts:List Int} (hF:zh K a H p A ((FX0 A.n A.kd).run (fa0 A.n A.ps) pre) f O m) (hl:vdy H A) (hX:X=(FX0 A.n A.kd).run (fa0 A.n A.ps) (pre++dec ts)) (hts:Sgs ts) (h4:((FX0 A.n A.kd).run (fa0 A.n A.ps) pre).sg=[]) (h5:((FX0 A.n A.kd).run (fa0 A.n A.ps) pre).nd=0)
  (hF':zh K a H' p (A.re ml el pl sl) X f' O' m') (go:FGo p A O H H' el O') (e6:∀ c,W c ↔ yx1 p A O c):FZ K a H' p A.n A.kd A.ps (pre++dec ts) m' (yx1 p (A.re ml el pl sl) O')/\Go W H H' (yx1 p (A.re ml el pl sl) O'):=by
 subst hX
 have h:=go.kpa hF
 have d:=yo6 (A:=fa0 A.n A.ps) hts h4 h5
 refine ⟨⟨_,f',O',m',hF',Nat.le_refl _,⟨(h _ _ hl.1 rfl hl.2.1).2,(h _ _ hl.1 rfl hl.2.1).1,?_⟩,rfl,rfl,rfl,by rw [ya2]; exact d.1,by rw [ya2]; exact d.2,fun c=>Iff.rfl⟩,⟨fun c o e B=>?_,fun c w=>?_,go.live⟩⟩
 ·obtain ⟨u,r⟩:=hl.2.2
  refine ⟨u,fun i t=>?_⟩
  obtain ⟨s,z,k,q,x⟩:=r i t
  have l:∀ {c:Addr} {xs:List V},H c=some (.tup xs)->c≠A.el:=fun e z=>by rw [z,hF.el] at e; cases e
  exact ⟨s,z,(h _ _ k rfl (l k)).2,(h _ _ q rfl (l q)).2,x⟩
 ·have b:¬ yx1 p A O c:=fun w=>B ((e6 c).mpr w)
  exact go.fr c o e (fun z=>b (.inl z)) (fun z=>b (.inr (.inl z))) (fun z=>b (.inr (.inr (.inr (.inr z))))) fun j g w=>b (.inr (.inr (.inr (.inl ⟨j,g,w⟩))))
 ·rcases w with z | z | ⟨j,g,z⟩ | ⟨j,g,z⟩ | z
  ·exact .inl ((e6 c).mpr (.inl z))
  ·exact .inl ((e6 c).mpr (.inr (.inl z)))
  ·exact .inl ((e6 c).mpr (.inr (.inr (.inl ⟨j,g,z⟩))))
  ·rcases go.hO j c g z with v | v
   ·exact .inl ((e6 c).mpr (.inr (.inr (.inr (.inl ⟨j,g,v⟩)))))
   ·exact .inr v
  ·rcases go.he with y | y
   ·exact .inl ((e6 c).mpr (.inr (.inr (.inr (.inr (show c=A.el from Eq.trans z y))))))
   ·exact .inr (by rw [show c=el from z]; exact y)
theorem FZ.read {Q:VK} {E:XK} {dt:Addr} {ts bs:List Int} {mo:Nat} (h:FZ K a H p n kd ps pre M W) (hb:ygt pre) (hts:Sgs ts) (hdt:H dt=some (.lst ((ybk n kd ps pre ts++bs).map V.int))) (ndt:¬ W dt) (hbs:Byt bs) (hdl:(ybk n kd ps pre ts++bs).length <= 12000) (hz:ts.length <= mo) (hmo:mo <= 1000) (hM:M+54 * mo+200 < 1000000)
  (k:∀ t r W' H',H t=none->H r=none->H' t=some (.tup [.ref r,.int ((ybk n kd ps pre ts).length:Nat)])->H' r=some (.lst (ts.map V.int))->FZ K a H' p n kd ps (pre++dec ts) (M+6 * (dec ts).length) W'->Go W H H' W'->¬ W' r->Q (.ref t) H'):yfx K a [.ref p,.ref dt,.int mo] H Q E:=by
 obtain ⟨A,f,O,m,l,hm,hl,rfl,rfl,rfl,R,X,T⟩:=h
 obtain ⟨q,x,J⟩:=ypy (kd:=A.kd) (ps:=A.ps) (pre:=pre) (bs:=bs) l.n1 l.n6 hb hts hbs
 have C:Byt (ybk A.n A.kd A.ps pre ts++bs):=yew (yny _) hbs
 refine ⟨p,A,_,f,O,m,dt,_,mo,rfl,l,hdt,fun z=>ndt ((T _).mpr (.inr (.inr (.inr (.inr z))))),C,hdl,hmo,by omega,by rw [X]; decide,by rw [R]; exact Nat.zero_le _,fun N t r G O' H' hN i u I s d S c=>?_,fun v G O' H' S=>?_⟩
 ·rw [ROk.fa0] at i
  obtain rfl:N=ts.length:=q.uniq i.b1 i.b0
  rw [ys9] at s
  rw [yui] at d
  have s:H' t=some (.tup [.ref r,.int (rTL (fa0 A.n A.ps) (ybk A.n A.kd A.ps pre ts++bs) (rS A.n A.kd A.ps pre) ts.length)]):=s
  have d:H' r=some (.lst ((rtx (fa0 A.n A.ps) (ybk A.n A.kd A.ps pre ts++bs) (rS A.n A.kd A.ps pre) ts.length).map V.int)):=d
  rw [J] at s
  rw [x] at d
  obtain ⟨D,P,L,Y,f',c⟩:=c
  have y:=uv ts
  have Z:(rst A (ybk A.n A.kd A.ps pre ts++bs) ((FX0 A.n A.kd).run (fa0 A.n A.ps) pre,s0) (9 * ts.length+1)).1=(FX0 A.n A.kd).run (fa0 A.n A.ps) (pre++dec ts):=by
   rw [jo,ya2]
   exact ytj l.n1 l.n6 hb hbs
  obtain ⟨z,g⟩:=FZ.went l hl Z hts R X c S T
  refine k t r _ H' u I s d (z.up (by omega)) g fun w=>?_
  rcases w with w | w | ⟨j,F,w⟩ | ⟨j,F,w⟩ | w
  ·have e:=c.me
   rw [<- w,d] at e
   cases e
  ·have e:=c.mx.o
   rw [show r=(A.re P G L Y).mp from w] at d
   rw [d] at e
   cases e
  ·have e:=(c.B.b j F).me
   rw [show r=(A.re P G L Y).bk j from w] at d
   rw [d] at e
   cases e
  ·obtain ⟨o,U,hi⟩:=(c.B.b j F).own _ w
   rw [d] at U
   cases U
   cases hi
  ·exact D w
 ·exact (v ts.length hz (by rw [ROk.fa0]; exact q)).elim
theorem FZ.press {Q:VK} {E:XK} {tx:Addr} {ts:List Int} (h:FZ K a H p n kd ps pre M W) (htx:ye6 H tx ts 1000) (ntx:¬ W tx) (hM:M+6 * (dec ts).length+20 < 1000000)
  (k:∀ r W' H',H r=none->H' r=some (.lst ((ybk n kd ps pre ts).map V.int))->FZ K a H' p n kd ps (pre++dec ts) (M+6 * (dec ts).length) W'->Go W H H' W'->Q (.ref r) H'):yi6 K a [.ref p,.ref tx] H Q E:=by
 obtain ⟨A,f,O,m,d,F,t,rfl,rfl,rfl,i,o,l⟩:=h
 refine ⟨p,A,_,f,O,m,tx,ts,rfl,d,i,o,htx,fun z=>ntx ((l _).mpr (.inr (.inr (.inr (.inr z))))),by omega,fun r B D x G C I y H' b w c v u=>?_⟩
 have q:((FX0 A.n A.kd).run (fa0 A.n A.ps) pre).run A (dec ts)=(FX0 A.n A.kd).run (fa0 A.n A.ps) (pre++dec ts):=by rw [ya2]; exact yhu A _ _
 obtain ⟨z,g⟩:=FZ.went d t q htx.s i o c u l
 refine k r _ H' b ?_ (z.up (by omega)) g
 rw [w]
 have e:snK (yk8 A ((FX0 A.n A.kd).run (fa0 A.n A.ps) pre) ts) (wg ts) (dec ts).length=snK (ju A.n A.kd A.ps pre ts) (wg ts) (dec ts).length:=yf4 _ fun j _=>⟨by unfold ju yk8 fX; rw [yhu A]; rfl,rfl⟩
 rw [e]
 rfl
end
def nmL (L:List (Str × List Int)):List V:=L.map fun x=>V.str x.1
def yia (H:Hp) (U:Addr->Prop):List (Str × List Int)->List V->Prop
 | [],ks=>ks=[]
 | x :: r,ks=>∃ k ks',ks=k :: ks'/\(k=.non\/∃ q,k=.ref q/\H q=some (.lst (x.2.map V.int))/\¬ U q)/\yia H U r ks'
theorem yia.len {H:Hp} {U:Addr->Prop}:∀ {L:List (Str × List Int)} {ks:List V},yia H U L ks->ks.length=L.length
 | [],_,h=>by rw [show _=_ from h]; rfl
 | _ :: r,_,⟨_,_,e,_,h⟩=>by rw [e,List.length_cons,List.length_cons,h.len]
theorem yia.mono {H H':Hp} {U U':Addr->Prop} (f:∀ q xs,H q=some (.lst xs)->¬ U q->H' q=some (.lst xs)/\¬ U' q):∀ {L:List (Str × List Int)} {ks:List V},yia H U L ks->yia H' U' L ks
 | [],_,h=>h
 | _ :: _,_,⟨k,ks',e,z,h⟩=>⟨k,ks',e,z.imp id fun ⟨q,e,a,b⟩=>⟨q,e,f q _ a b⟩,h.mono f⟩
theorem yia.snoc {H:Hp} {U:Addr->Prop} {nm:Str} {t:List Int} {k:V} (hk:k=.non\/∃ q,k=.ref q/\H q=some (.lst (t.map V.int))/\¬ U q):∀ {L:List (Str × List Int)} {ks:List V},yia H U L ks->yia H U (L++[(nm,t)]) (ks++[k])
 | [],_,h=>by rw [show _=_ from h]; exact ⟨k,[],rfl,hk,rfl⟩
 | _ :: _,_,⟨k',ks',e,z,h⟩=>⟨k',ks'++[k],by rw [e]; rfl,z,h.snoc hk⟩
theorem yia.mem {H:Hp} {U:Addr->Prop}:∀ {L:List (Str × List Int)} {ks:List V},yia H U L ks->∀ x∈ks,x=.non\/∃ q ys,x=.ref q/\H q=some (.lst ys)/\¬ U q
 | [],_,h,x,hx=>by rw [show _=_ from h] at hx; cases hx
 | _ :: _,_,⟨k,ks',e,z,h⟩,x,hx=>by
  rw [e] at hx
  rcases List.mem_cons.mp hx with y | y
  ·rw [y]
   exact z.imp id fun ⟨q,e,a,b⟩=>⟨q,_,e,a,b⟩
  ·exact h.mem x y
def ChW (ll tl:Addr) (W:Addr->Prop):Addr->Prop:=fun c=>c=ll\/c=tl\/W c
structure ya5 (K:W.Frag) (a:Ads) (H:Hp) (c dc p ll tl:Addr) (n:Nat) (kd:Nat->Fin 3) (ps:Nat->List Int) (L:List (Str × List Int)) (ks:List V) (M:Nat) (W:Addr->Prop):Prop where
 me:H c=some (.ins a.C_Chain dc (wz (.ref p) (.ref ll) (.ref tl)))
 fz:FZ K a H p n kd ps (yda (L.map (·.2))) M W
 hl:H ll=some (.lst (nmL L))
 ht:H tl=some (.lst ks)
 tx:yia H (ChW ll tl W) L ks
 nc:¬ W c
 nll:¬ W ll
 ntl:¬ W tl
 ne:ll≠tl
theorem FZ.new {K:W.Frag} {a:Ads} {H:Hp} {p dp l:Addr} {n:Nat} {lk tp:Nat->Addr} {kd:Nat->Fin 3} {ps:Nat->List Int} {Q:VK} {E:XK} (np:H p=none) (ndp:H dp=none) (hl:H l=some (.lst (refs lk n))) (n1:1 <= n) (n6:n <= 6) (r:ug H n lk kd tp ps)
  (k:∀ W H',FZ K a H' p n kd ps [] 6 W->(∀ c,W c->H c=none)->y0 H H'->Q .non H'):yiu K a [.ref p,.ref l] (upd (upd H dp (.own p)) p (.ins a.C_Ft dp [])) Q E:=by
 have d:y0 H (upd (upd H dp (.own p)) p (.ins a.C_Ft dp [])):=fun b o e=>by rw [ym (yd e np),ym (yd e ndp)]; exact e
 refine ⟨p,dp,.ref l,rfl,ya,.inr ⟨l,n,lk,kd,tp,ps,rfl,d _ _ hl,n1,n6,r.same d,fun A f O q v u=>?_⟩⟩
 have s:y0 H q:=fun b o e=>u b o (d b o e) (yd e np)
 obtain ⟨i,rfl,rfl,rfl,rfl,x,C,B,y,h,g,t⟩:=v
 refine k (yx1 p A O) q ⟨A,f,O,6,i,Nat.le_refl _,⟨h,g,tp,r.same s⟩,rfl,rfl,rfl,rfl,rfl,fun c=>Iff.rfl⟩ (fun c w=>?_) s
 rcases w with z | z | ⟨j,m,z⟩ | ⟨j,m,z⟩ | z
 ·rw [z]; exact np
 ·rw [z]; exact d.free B
 ·rw [z]; exact d.free (C j m)
 ·exact d.free (x j c m z)
 ·exact d.free (y c (.inr (.inl z)))
@[irreducible] def ys1 (c:Nat):Bool:=!(Builtin.Str.occurrences "abcdefghijklmnopqrstuvwxyz" ⟨#[c]⟩ 0 (Str.length "abcdefghijklmnopqrstuvwxyz") 1).isEmpty
def nmS (x:Str):Bool:=decide (1 <= (x.length:Int)) && (decide ((x.length:Int) <= 8) && x.cps.toList.all ys1)
def nmV:V->Bool
 | .str x=>nmS x
 | _=>false
theorem yve (x:Str):(List.range x.cps.size).map (fun i=>V.bl (ys1 (x.cps.toList.getD i 0)))=(x.cps.toList.map ys1).map V.bl:=by
 rw [List.map_map]
 refine List.ext_getElem? fun i=>?_
 rw [List.getElem?_map,List.getElem?_map]
 by_cases hi:i < x.cps.size
 ·rw [List.getElem?_range hi,List.getElem?_eq_getElem (by rw [Array.length_toList]; exact hi),Option.map_some,Option.map_some,List.getD_eq_getElem?_getD,List.getElem?_eq_getElem (by rw [Array.length_toList]; exact hi),Option.getD_some,Function.comp_apply]
 ·rw [List.getElem?_eq_none (by rw [List.length_range]; omega),List.getElem?_eq_none (by rw [Array.length_toList]; omega),Option.map_none,Option.map_none]
theorem vcc {x:Str} (h1:(1:Int) <= (x.length:Int)) (h8:(x.length:Int) <= 8):nmV (.str x)=(x.cps.toList.map ys1).all id:=by
 have e:nmV (.str x)=nmS x:=by unfold nmV; rfl
 rw [e]
 unfold nmS
 rw [decide_eq_true h1,decide_eq_true h8,List.all_map,Function.id_comp,Bool.true_and,Bool.true_and]
theorem yyx {x:Str} (h8:¬ (x.length:Int) <= 8):nmV (.str x)=false:=by
 have e:nmV (.str x)=nmS x:=by unfold nmV; rfl
 rw [e]
 unfold nmS
 rw [decide_eq_false h8,Bool.false_and,Bool.and_false]
theorem yz2 {x:Str} (h1:¬ (1:Int) <= (x.length:Int)):nmV (.str x)=false:=by
 have e:nmV (.str x)=nmS x:=by unfold nmV; rfl
 rw [e]
 unfold nmS
 rw [decide_eq_false h1,Bool.false_and]
theorem yyy {x:V} (h:nmV x=true):∃ b,x=.str b/\nmS b=true:=by
 cases x with
 | str b=>exact ⟨b,rfl,h⟩
 | _=>cases h
theorem yey {x:Str} (h:nmS x=true):x.length <= 8:=by
 unfold nmS at h
 simp only [Bool.and_eq_true,decide_eq_true_eq] at h
 have:=h.2.1
 omega
def smS:Str:=Str.ofString "abcdefghijklmnopqrstuvwxyz"
theorem ysm:smS.length=26:=by right
theorem vab:∀ i,i < 26->smS.cps[i]?=some (97+i):=by right
theorem vdj {i:Int} (h0:0 <= i) (h1:i < 26):smS.cps[i.toNat]?=some (97+i.toNat):=vab _ (by omega)
theorem vcn:∀ i,i < 26->ys1 (97+i)=true:=by right
def yib (l:List Nat):Prop:=∀ c,c∈l->97 <= c/\c < 123
theorem yib.app {l m:List Nat} (h:yib l) (g:yib m):yib (l++m):=fun c a=>(List.mem_append.mp a).elim (h c) (g c)
theorem yib.one {c:Nat} (h:97 <= c/\c < 123):yib [c]:=fun d a=>by rw [List.mem_singleton.mp a]; exact h
theorem yib.take {l:List Nat} (h:yib l) (k:Nat):yib (l.take k):=fun c a=>h c (List.mem_of_mem_take a)
theorem yib.drop {l:List Nat} (h:yib l) (k:Nat):yib (l.drop k):=fun c a=>h c (List.mem_of_mem_drop a)
theorem vev {x:Str} (h:yib x.cps.toList) (h1:1 <= x.cps.toList.length) (h8:x.cps.toList.length <= 8):nmS x=true/\PyData.strOk x=true:=by
 have e:x.length=x.cps.toList.length:=by simp [Str.length]
 refine ⟨?_,?_⟩
 ·unfold nmS
  rw [decide_eq_true (by omega),decide_eq_true (by omega),Bool.true_and,Bool.true_and,List.all_eq_true]
  intro c a
  obtain ⟨d,b⟩:=h c a
  have:=vcn (c - 97) (by omega)
  rwa [show 97+(c - 97)=c by omega] at this
 ·unfold PyData.strOk
  rw [<- Array.all_toList,List.all_eq_true]
  intro c a
  obtain ⟨d,b⟩:=h c a
  exact decide_eq_true (by omega)
theorem ycp (x y:Str):(x++y).cps.toList=x.cps.toList++y.cps.toList:=by rw [PySem.Str.cps_append,Array.toList_append]
theorem ycq (x:Str):x.length=x.cps.toList.length:=by simp [Str.length]
def yqr (z:Str) (j:Nat) (c:Nat):Str:=Txt.slice z none (some (j:Int))++⟨#[c]⟩++Txt.slice z (some (j:Int)) none
theorem ybs {z:Str} {j c:Nat} (hj:j <= z.length):(yqr z j c).cps.toList=z.cps.toList.take j++[c]++z.cps.toList.drop j:=by
 unfold yqr
 rw [ycp,ycp,yoz hj,yj5 hj]
theorem yuq {z:Str} {j c:Nat} (hj:j <= z.length) (hz:yib z.cps.toList) (hc:97 <= c/\c < 123) (h7:z.length <= 7):nmS (yqr z j c)=true/\PyData.strOk (yqr z j c)=true:=by
 have e:=ycq z
 refine vev ?_ ?_ ?_
 ·rw [ybs hj]
  exact ((hz.take j).app (.one hc)).app (hz.drop j)
 ·rw [ybs hj]; simp; omega
 ·rw [ybs hj,List.length_append,List.length_append,List.length_take,List.length_drop,List.length_singleton]; omega
theorem ypm {z:Str} {j c d:Nat} (hj:j <= z.length) (e:yqr z j c=yqr z j d):c=d:=by
 have h:=congrArg (fun x:Str=>x.cps.toList) e
 simp only [ybs hj] at h
 rw [List.append_assoc,List.append_assoc] at h
 have a:=List.append_cancel_left h
 simp at a
 exact a
theorem yls {z:Str} {j:Nat} (hj:j <= z.length) (o m:Nat):((List.range m).map fun i=>yqr z j (97+o+i)).Nodup :=
 List.Pairwise.map (R:=fun a b=>a≠b) _ (fun a b h e=>h (by have:=ypm hj e; omega)) List.nodup_range
theorem ycl {K:W.Frag} {H:Hp}:∀ ns:List Str,yk5 K H (ns.map V.str) (ns.map PyData.str)
 | []=>.nil
 | n :: r=>.cons (.str n) (ycl r)
theorem ycb:∀ ns:List Str,(∀ x,x∈ns->PyData.strOk x=true)->PyData.canLayAll0 (ns.map PyData.str)=true
 | [],_=>rfl
 | x :: r,h=>by simp [PyData.canLayAll0,PyData.canLay0,h x List.mem_cons_self,ycb r fun y a=>h y (List.mem_cons_of_mem _ a)]
theorem yde:∀ ns:List Str,PyData.depthAll (ns.map PyData.str)=0
 | []=>rfl
 | _ :: r=>by simp [PyData.depthAll,PyData.depth,yde r]
theorem yca (ns:List Str) (h:∀ x,x∈ns->PyData.strOk x=true):SeqAt.shaped (.list (ns.map PyData.str))=true:=by
 simp [SeqAt.shaped,PyData.canLay0,PyData.depth,ycb ns h,yde]
theorem yce:∀ ns ms:List Str,PyData.eqvAll (ns.map PyData.str) (ms.map PyData.str)=decide (ns=ms)
 | [],[]=>by simp [PyData.eqvAll]
 | [],_ :: _=>by simp [PyData.eqvAll]
 | _ :: _,[]=>by simp [PyData.eqvAll]
 | a :: r,b :: t=>by
  simp only [List.map_cons,PyData.eqvAll,PyData.eqv,yce r t]
  by_cases h:a=b <;> by_cases h':r=t <;> simp [h,h']
theorem ysg {K:W.Frag} {g:Bool->Bool} {H:Hp} {Q:VK} {a b:Addr} (ns ms:List Str) (hn:∀ x,x∈ns->PyData.strOk x=true) (hm:∀ x,x∈ms->PyData.strOk x=true) (ha:SqL K H a (ns.map V.str)) (hb:SqL K H b (ms.map V.str)) (h:Q (.bl (g (decide (ns=ms)))) H):vd0 K g (.ref a) (.ref b) H Q :=
 ⟨_,_,.lst ha (ycl ns),.lst hb (ycl ms),yca ns hn,yca ms hm,by rw [PyData.eqv,yce]; exact h⟩
structure Pc where
 nm:Str
 bs:Option Str
 path:List (Str × List Int)
 tx:List Int
 ob:Addr
 od:Addr
 dl:Addr
def baV:Option Str->V
 | none=>.non
 | some b=>.str b
def Pc.by (n:Nat) (kd:Nat->Fin 3) (ps:Nat->List Int) (q:Pc):List Int:=ybk n kd ps (yda (q.path.map (·.2))) q.tx
def pcs (P:List Pc):List (Key × V):=P.map fun q=>(.inr q.nm,.ref q.ob)
def To (P:List Pc):Option Str->List (Str × List Int)->Prop
 | none,L=>L=[]
 | some b,L=>∃ r,r∈P/\r.nm=b/\L=r.path++[(b,r.tx)]
structure ye8 (a:Ads) (H:Hp) (d:Addr) (n:Nat) (kd:Nat->Fin 3) (ps:Nat->List Int) (w:Nat) (P:List Pc):Prop where
 dk:H d=some (.dK (pcs P))
 ob:∀ q,q∈P->H q.ob=some (.ins a.C_Piece q.od (zr (baV q.bs) (.ref q.dl)))/\H q.dl=some (.lst ((q.by n kd ps).map V.int))
 nd:(P.map (·.nm)).Nodup
 wf:∀ q,q∈P->To P q.bs q.path
 sz:∀ q,q∈P->Sgs q.tx/\q.tx.length <= w/\q.path.length <= 60/\(∀ x,x∈q.path->Sgs x.2/\x.2.length <= w)
 z:P.length <= 60
 nm:∀ q,q∈P->nmS q.nm=true/\PyData.strOk q.nm=true
theorem yob:∀ {P:List Pc} {r:Pc},(P.map (·.nm)).Nodup->r∈P->zd (pcs P) (.inr r.nm)=some (.ref r.ob)
 | q :: P,r,hn,hr=>by
  have a:=List.nodup_cons.mp hn
  by_cases e:q.nm=r.nm
  ·rcases List.mem_cons.mp hr with z | z
   ·subst z
    unfold zd pcs
    rw [List.map_cons,List.find?_cons_of_pos (by simp)]
    rfl
   ·exact absurd (List.mem_map.mpr ⟨r,z,e.symm⟩) a.1
  ·rcases List.mem_cons.mp hr with z | z
   ·exact absurd (by rw [z]) e
   ·unfold zd pcs
    rw [List.map_cons,List.find?_cons_of_neg (by simpa using e)]
    exact yob a.2 z
theorem yq2 {P:List Pc} {x:Str} (h:∀ q,q∈P->q.nm≠x):zd (pcs P) (.inr x)=none:=by
 unfold zd pcs
 rw [List.find?_eq_none.mpr fun y a=>?_]
 ·rfl
 ·obtain ⟨q,b,e⟩:=List.mem_map.mp a
  rw [<- e]
  simpa using h q b
theorem ye8.same {a:Ads} {H H':Hp} {d:Addr} {n:Nat} {kd:Nat->Fin 3} {ps:Nat->List Int} {w:Nat} {P:List Pc} (h:ye8 a H d n kd ps w P) (S:y0 H H'):ye8 a H' d n kd ps w P :=
 ⟨S _ _ h.dk,fun q b=>⟨S _ _ (h.ob q b).1,S _ _ (h.ob q b).2⟩,h.nd,h.wf,h.sz,h.z,h.nm⟩
theorem yvi (x:Str) (t:List Int) (S:List (Str × List Int)):(nmL ((x,t) :: S)).reverse=(nmL S).reverse++[.str x]:=by
 unfold nmL
 rw [List.map_cons,List.reverse_cons]
theorem To.len {a:Ads} {H:Hp} {d:Addr} {n:Nat} {kd:Nat->Fin 3} {ps:Nat->List Int} {w:Nat} {P:List Pc} {x:Option Str} {L:List (Str × List Int)} (h:ye8 a H d n kd ps w P) (t:To P x L):L.length <= 61:=by
 cases x with
 | none=>rw [show L=[] from t]; exact Nat.zero_le _
 | some b =>
  obtain ⟨r,c,_,e⟩:=t
  have:=(h.sz r c).2.2.1
  rw [e,List.length_append,List.length_singleton]
  omega
theorem ye8.get {a:Ads} {H:Hp} {d:Addr} {n:Nat} {kd:Nat->Fin 3} {ps:Nat->List Int} {w:Nat} {P:List Pc} {r:Pc} (h:ye8 a H d n kd ps w P) (hr:r∈P):ybo H d (.str r.nm) (some (.ref r.ob)):=by
 rw [<- yob h.nd hr]
 exact ybo.k (k:=.inr r.nm) h.dk
theorem yoe:∀ {P:List Pc} {q r:Pc},(P.map (·.nm)).Nodup->q∈P->r∈P->q.nm=r.nm->q=r
 | x :: P,q,r,hn,hq,hr,e=>by
  have a:=List.nodup_cons.mp hn
  rcases List.mem_cons.mp hq with z | z <;> rcases List.mem_cons.mp hr with y | y
  ·rw [z,y]
  ·exact absurd (List.mem_map.mpr ⟨r,y,by rw [<- e,z]⟩) a.1
  ·exact absurd (List.mem_map.mpr ⟨q,z,by rw [e,y]⟩) a.1
  ·exact yoe a.2 z y e
theorem To.uniq {P:List Pc} {x:Option Str} {L M:List (Str × List Int)} (hn:(P.map (·.nm)).Nodup) (h:To P x L) (g:To P x M):L=M:=by
 cases x with
 | none=>rw [show L=[] from h,show M=[] from g]
 | some b =>
  obtain ⟨r,e,a,i⟩:=h
  obtain ⟨q,c,f,d⟩:=g
  obtain rfl:=yoe hn e c (a.trans f.symm)
  rw [i,d]
theorem To.pre {P:List Pc} (wf:∀ q,q∈P->To P q.bs q.path) {b:Str} {t:List Int} {A:List (Str × List Int)}:∀ (m:Nat) {x:Option Str} {B:List (Str × List Int)},B.length <= m->To P x (A++[(b,t)]++B)->To P (some b) (A++[(b,t)])
 | m,none,B,_,h=>by
  have e:=congrArg List.length (show A++[(b,t)]++B=[] from h)
  rw [List.length_append,List.length_append] at e
  simp at e
 | m,some c,B,hm,⟨r,hr,e1,e2⟩=>by
  rcases List.eq_nil_or_concat B with z | ⟨i,y,z⟩
  ·subst z
   rw [List.append_nil] at e2
   have a:=List.append_inj' e2 rfl
   obtain ⟨f,g⟩:=a
   cases g
   exact ⟨r,hr,e1,by rw [f]⟩
  ·subst z
   rw [List.concat_eq_append] at e2 hm
   rw [<- List.append_assoc] at e2
   have a:=(List.append_inj' e2 rfl).1
   cases m with
   | zero=>rw [List.length_append] at hm; simp at hm
   | succ m =>
    have d:=wf r hr
    rw [<- a] at d
    exact To.pre wf m (by rw [List.length_append,List.length_singleton] at hm; omega) d
theorem To.ahead {P:List Pc} (hn:(P.map (·.nm)).Nodup) (wf:∀ q,q∈P->To P q.bs q.path) {x y:Option Str} {L M:List (Str × List Int)} (h:To P x L) (g:To P y M) (e:nmL L=(nmL M).take L.length):L=M.take L.length:=by
 cases x with
 | none=>rw [show L=[] from h]; rfl
 | some b =>
  obtain ⟨r,n,m,c⟩:=id h
  have o:L.length=r.path.length+1:=by rw [c,List.length_append,List.length_singleton]
  have f:=congrArg List.length e
  unfold nmL at f
  rw [List.length_take,List.length_map,List.length_map] at f
  have a:r.path.length < M.length:=by omega
  have k:M=M.take r.path.length++[M[r.path.length]]++M.drop (r.path.length+1):=by
   rw [List.append_assoc,List.singleton_append,<- List.drop_eq_getElem_cons a,List.take_append_drop]
  have j:(M[r.path.length]).1=b:=by
   have z:=congrArg (fun l=>l[r.path.length]?) e
   unfold nmL at z
   simp only [List.getElem?_map,List.getElem?_take] at z
   rw [if_pos (by omega),c,List.getElem?_append_right (Nat.le_refl _),Nat.sub_self,List.getElem?_eq_getElem a] at z
   simp at z
   exact z.symm
  have g2:=g
  rw [k] at g2
  have d:M[r.path.length]=(b,(M[r.path.length]).2):=by rw [<- j]
  rw [d] at g2
  have g3:=To.pre wf _ (Nat.le_refl _) g2
  have i:=To.uniq hn h g3
  rw [i,<- d,<- List.take_succ_eq_append_getElem a]
  congr 1
  rw [List.length_take]
  omega
theorem ye8.getNo {a:Ads} {H:Hp} {d:Addr} {n:Nat} {kd:Nat->Fin 3} {ps:Nat->List Int} {w:Nat} {P:List Pc} {x:Str} (h:ye8 a H d n kd ps w P) (hx:∀ q,q∈P->q.nm≠x):ybo H d (.str x) none:=by
 rw [<- yq2 hx]
 exact ybo.k (k:=.inr x) h.dk
theorem vcz (P:List Pc) (b:Str):(∃ r,r∈P/\r.nm=b)\/∀ q,q∈P->q.nm≠b:=by
 by_cases h:∃ r,r∈P/\r.nm=b
 ·exact .inl h
 ·exact .inr fun q a e=>h ⟨q,a,e⟩
theorem To.sz {a:Ads} {H:Hp} {d:Addr} {n:Nat} {kd:Nat->Fin 3} {ps:Nat->List Int} {w:Nat} {P:List Pc} {x:Option Str} {L:List (Str × List Int)} (h:ye8 a H d n kd ps w P) (t:To P x L):∀ y,y∈L->Sgs y.2/\y.2.length <= w:=by
 cases x with
 | none=>intro y c; rw [show L=[] from t] at c; cases c
 | some b =>
  obtain ⟨r,f,_,e⟩:=t
  obtain ⟨g,j,_,i⟩:=h.sz r f
  intro y c
  rw [e] at c
  rcases List.mem_append.mp c with z | z
  ·exact i y z
  ·rw [List.mem_singleton.mp z]
   exact ⟨g,j⟩
theorem To.at' {P:List Pc} (wf:∀ q,q∈P->To P q.bs q.path) {x:Option Str} {L:List (Str × List Int)} (t:To P x L) {j:Nat} (hj:j < L.length):∃ r,r∈P/\L[j]=(r.nm,r.tx)/\r.path=L.take j/\To P (some r.nm) (L.take (j+1)):=by
 have h:L=L.take j++[(L[j].1,L[j].2)]++L.drop (j+1):=by
  rw [List.append_assoc,List.singleton_append,<- List.drop_eq_getElem_cons hj,List.take_append_drop]
 rw [h] at t
 have d:=To.pre wf _ (Nat.le_refl _) t
 obtain ⟨r,f,a,g⟩:=id d
 obtain ⟨c,b⟩:=List.append_inj' g rfl
 cases r with | mk nm bs path tx ob od dl =>
 simp only at a c b
 subst a
 have e:L[j].2=tx:=by cases b; rfl
 refine ⟨_,f,?_,c.symm,?_⟩
 ·show L[j]=(L[j].1,tx); rw [<- e]
 ·rw [List.take_succ_eq_append_getElem hj]; exact d
theorem To.nms {P:List Pc} (wf:∀ q,q∈P->To P q.bs q.path) {x:Option Str} {L:List (Str × List Int)} (t:To P x L) {y:Str × List Int} (hy:y∈L):∃ r,r∈P/\r.nm=y.1:=by
 obtain ⟨j,b,e⟩:=List.mem_iff_getElem.mp hy
 obtain ⟨r,c,a,_⟩:=t.at' wf b
 exact ⟨r,c,by rw [<- e,a]⟩
theorem To.ok {a:Ads} {H:Hp} {d:Addr} {n:Nat} {kd:Nat->Fin 3} {ps:Nat->List Int} {w:Nat} {P:List Pc} {x:Option Str} {L:List (Str × List Int)} (h:ye8 a H d n kd ps w P) (t:To P x L):∀ y,y∈L.map (·.1)->PyData.strOk y=true:=fun y b=>by
 obtain ⟨u,c,rfl⟩:=List.mem_map.mp b
 obtain ⟨r,f,e⟩:=t.nms h.wf c
 rw [<- e]
 exact (h.nm r f).2
theorem ya3 (L:List (Str × List Int)):nmL L=(L.map (·.1)).map V.str:=by
 unfold nmL
 rw [List.map_map]
 rfl
theorem ybv (L:List (Str × List Int)) (k:Nat):(nmL L).take k=nmL (L.take k):=by
 unfold nmL
 rw [List.map_take]
theorem jp (L:List (Str × List Int)):(nmL L).length=L.length:=List.length_map _
theorem yqw {L M:List (Str × List Int)} (h:L.map (·.1)=M.map (·.1)):nmL L=nmL M:=by rw [ya3,ya3,h]
theorem yi1 {w:Nat}:∀ L:List (List Int),(∀ x,x∈L->x.length <= w)->(yda L).length <= L.length * (9 * w+1)
 | [],_=>Nat.zero_le _
 | t :: L,h=>by
  have e:yda (t :: L)=dec t++yda L:=rfl
  have b:=h t List.mem_cons_self
  have d:=yi1 L fun x a=>h x (List.mem_cons_of_mem _ a)
  have c:=uv t
  rw [e,List.length_append,List.length_cons,Nat.succ_mul]
  omega
def mOf (L:List (Str × List Int)):Nat:=6+6 * (yda (L.map (·.2))).length
def StW (c cl ct:Addr) (U:Addr->Prop):Addr->Prop:=fun x=>x=c\/ChW cl ct U x
structure uk (K:W.Frag) (a:Ads) (H:Hp) (st ds ll d c dc p cl ct:Addr) (lk tp:Nat->Addr) (n:Nat) (kd:Nat->Fin 3) (ps:Nat->List Int) (mo w:Nat) (P:List Pc) (L:List (Str × List Int)) (ks:List V) (U:Addr->Prop):Prop where
 me:H st=some (.ins a.C_Store ds (y6 (.ref ll) (.int mo) (.ref d) (.ref c)))
 n1:1 <= n
 n6:n <= 6
 lo:H ll=some (.lst (refs lk n))
 row:ug H n lk kd tp ps
 pz:ye8 a H d n kd ps w P
 ch:ya5 K a H c dc p cl ct n kd ps L ks (mOf L) U
 nw:∀ x,(x=st\/x=ll\/x=d\/∃ q,q∈P/\(x=q.ob\/x=q.dl))->¬ StW c cl ct U x
 mo1:mo <= 1000
 wm:w <= mo/\w <= 200
 way:∃ x,To P x L
theorem ya5.but {K:W.Frag} {a:Ads} {H H':Hp} {c dc p ll tl:Addr} {n:Nat} {kd:Nat->Fin 3} {ps:Nat->List Int} {L:List (Str × List Int)} {ks:List V} {M:Nat} {W:Addr->Prop} (h:ya5 K a H c dc p ll tl n kd ps L ks M W) {q C dq:Addr} {fs:List (Str × V)} (hq:H q=some (.ins C dq fs)) (nq:¬ StW c ll tl W q) (B:But q H H'):ya5 K a H' c dc p ll tl n kd ps L ks M W:=by
 have b:∀ {x:Addr} {d:List V},H x=some (.lst d)->x≠q:=fun {x d} e z=>by rw [z,hq] at e; cases e
 exact ⟨B _ _ h.me fun z=>nq (.inl z.symm),h.fz.frame (W2:=fun x=>x=q) (fun x z=>⟨.ins C dq fs,by rw [show x=q from z]; exact hq,.inl rfl⟩) (fun x w z=>nq (.inr (.inr (.inr (by rw [<- show x=q from z]; exact w))))) (fun x o e f=>B x o e f),B _ _ h.hl (b h.hl),B _ _ h.ht (b h.ht),h.tx.mono fun x d e g=>⟨B _ _ e (b e),g⟩,h.nc,h.nll,h.ntl,h.ne⟩
theorem yit (L:List (Str × List Int)) (x:Str) (t:List Int):mOf (L++[(x,t)])=mOf L+6 * (dec t).length:=by
 unfold mOf
 rw [List.map_append,show List.map (fun x:Str × List Int=>x.2) [(x,t)]=[t] from rfl,yf2,List.length_append]
 omega
theorem ysu {w:Nat} {L:List (Str × List Int)} (h:∀ y,y∈L->y.2.length <= w) (hw:w <= 200) (hl:L.length <= 61):mOf L <= 660000:=by
 have b:=yi1 (w:=w) (L.map (·.2)) fun x c=>by
  obtain ⟨y,a,rfl⟩:=List.mem_map.mp c
  exact h y a
 rw [List.length_map] at b
 have d:L.length * (9 * w+1) <= 61 * 1801:=Nat.mul_le_mul hl (by omega)
 unfold mOf
 omega
def StO (st c cl ct:Addr) (U:Addr->Prop):Addr->Prop:=fun y=>y=st\/StW c cl ct U y
theorem Go.or {W W' Y:Addr->Prop} {H H':Hp} (g:Go W H H' W'):Go (fun x=>Y x\/W x) H H' (fun x=>Y x\/W' x) :=
 ⟨fun c o e a=>g.fr c o e fun w=>a (.inr w),fun c w=>w.elim (fun y=>.inl (.inl y)) fun w=>(g.nw c w).imp .inr id,g.lv⟩
theorem ya5.noTup {K:W.Frag} {a:Ads} {H:Hp} {c dc p ll tl:Addr} {n:Nat} {kd:Nat->Fin 3} {ps:Nat->List Int} {L:List (Str × List Int)} {ks:List V} {M:Nat} {W:Addr->Prop} (h:ya5 K a H c dc p ll tl n kd ps L ks M W) {x:Addr} {xs:List V} (e:H x=some (.tup xs)):¬ StW c ll tl W x:=fun w=>by
 rcases w with z | z | z | z
 ·rw [z,h.me] at e; cases e
 ·rw [z,h.hl] at e; cases e
 ·rw [z,h.ht] at e; cases e
 ·exact h.fz.sh.tup e z
theorem ya5.same {K:W.Frag} {a:Ads} {H H':Hp} {c dc p ll tl:Addr} {n:Nat} {kd:Nat->Fin 3} {ps:Nat->List Int} {L:List (Str × List Int)} {ks:List V} {M:Nat} {W:Addr->Prop} (h:ya5 K a H c dc p ll tl n kd ps L ks M W) (S:y0 H H'):ya5 K a H' c dc p ll tl n kd ps L ks M W :=
 ⟨S _ _ h.me,h.fz.same S,S _ _ h.hl,S _ _ h.ht,h.tx.mono fun _ _ e b=>⟨S _ _ e,b⟩,h.nc,h.nll,h.ntl,h.ne⟩
theorem ye8.fr {a:Ads} {H H':Hp} {d:Addr} {n:Nat} {kd:Nat->Fin 3} {ps:Nat->List Int} {w:Nat} {P:List Pc} (h:ye8 a H d n kd ps w P) (f:∀ x o,H x=some o->(x=d\/∃ q,q∈P/\(x=q.ob\/x=q.dl))->H' x=some o):ye8 a H' d n kd ps w P :=
 ⟨f _ _ h.dk (.inl rfl),fun q b=>⟨f _ _ (h.ob q b).1 (.inr ⟨q,b,.inl rfl⟩),f _ _ (h.ob q b).2 (.inr ⟨q,b,.inr rfl⟩)⟩,h.nd,h.wf,h.sz,h.z,h.nm⟩
theorem ug.fr {H H':Hp} {n:Nat} {lk:Nat->Addr} {kd:Nat->Fin 3} {tp:Nat->Addr} {ps:Nat->List Int} (h:ug H n lk kd tp ps) (f:∀ x xs,H x=some (.tup xs)->H' x=some (.tup xs)):ug H' n lk kd tp ps:=fun i c=>by
 obtain ⟨q,e,a,d,b⟩:=h i c
 exact ⟨q,e,f _ _ a,f _ _ d,b⟩
section
variable {K:W.Frag} {a:Ads} {H H':Hp} {st ds ll d c dc p cl ct:Addr} {lk tp:Nat->Addr} {n:Nat} {kd:Nat->Fin 3} {ps:Nat->List Int} {mo w:Nat} {P:List Pc} {L:List (Str × List Int)} {ks:List V} {U:Addr->Prop}
theorem uk.same (h:uk K a H st ds ll d c dc p cl ct lk tp n kd ps mo w P L ks U) (S:y0 H H'):uk K a H' st ds ll d c dc p cl ct lk tp n kd ps mo w P L ks U :=
 ⟨S _ _ h.me,h.n1,h.n6,S _ _ h.lo,h.row.same S,h.pz.same S,h.ch.same S,h.nw,h.mo1,h.wm,h.way⟩
theorem uk.lv (h:uk K a H st ds ll d c dc p cl ct lk tp n kd ps mo w P L ks U):∀ x,(x=st\/x=ll\/x=d\/∃ q,q∈P/\(x=q.ob\/x=q.dl))->∃ o,H x=some o:=fun x e=>by
 rcases e with z | z | z | ⟨q,b,z | z⟩
 ·exact ⟨_,by rw [z]; exact h.me⟩
 ·exact ⟨_,by rw [z]; exact h.lo⟩
 ·exact ⟨_,by rw [z]; exact h.pz.dk⟩
 ·exact ⟨_,by rw [z]; exact (h.pz.ob q b).1⟩
 ·exact ⟨_,by rw [z]; exact (h.pz.ob q b).2⟩
theorem uk.lvO (h:uk K a H st ds ll d c dc p cl ct lk tp n kd ps mo w P L ks U):∀ x,StO st c cl ct U x->∃ o,H x=some o:=fun x b=>by
 rcases b with z | z | z | z | z
 ·exact ⟨_,by rw [z]; exact h.me⟩
 ·exact ⟨_,by rw [z]; exact h.ch.me⟩
 ·exact ⟨_,by rw [z]; exact h.ch.hl⟩
 ·exact ⟨_,by rw [z]; exact h.ch.ht⟩
 ·exact h.ch.fz.live x z
theorem uk.go (h:uk K a H st ds ll d c dc p cl ct lk tp n kd ps mo w P L ks U) {M:List (Str × List Int)} {ks':List V} {U':Addr->Prop} (hc:ya5 K a H' c dc p cl ct n kd ps M ks' (mOf M) U') (g:Go (ChW cl ct U) H H' (ChW cl ct U')) (way:∃ x,To P x M):uk K a H' st ds ll d c dc p cl ct lk tp n kd ps mo w P M ks' U'/\Go (StO st c cl ct U) H H' (StO st c cl ct U'):=by
 have g1:Go (StW c cl ct U) H H' (StW c cl ct U'):=g.or (Y:=fun x=>x=c)
 have f:∀ x o,H x=some o->(x=st\/x=ll\/x=d\/∃ q,q∈P/\(x=q.ob\/x=q.dl))->H' x=some o:=fun x o e b=>g1.fr x o e (h.nw x b)
 exact ⟨⟨f _ _ h.me (.inl rfl),h.n1,h.n6,f _ _ h.lo (.inr (.inl rfl)),h.row.fr fun x i e=>g1.fr _ _ e (h.ch.noTup e),h.pz.fr fun x o e z=>f x o e (.inr (.inr z)),hc,g1.apart (fun x b=>h.lv x b) h.nw,h.mo1,h.wm,way⟩,g1.or (Y:=fun x=>x=st)⟩
structure StB (a:Ads) (H:Hp) (st ds ll d:Addr) (vc:V) (lk tp:Nat->Addr) (n:Nat) (kd:Nat->Fin 3) (ps:Nat->List Int) (mo w:Nat) (P:List Pc):Prop where
 me:H st=some (.ins a.C_Store ds (y6 (.ref ll) (.int mo) (.ref d) vc))
 n1:1 <= n
 n6:n <= 6
 lo:H ll=some (.lst (refs lk n))
 row:ug H n lk kd tp ps
 pz:ye8 a H d n kd ps w P
 mo1:mo <= 1000
 wm:w <= mo/\w <= 200
theorem uk.b (h:uk K a H st ds ll d c dc p cl ct lk tp n kd ps mo w P L ks U):StB a H st ds ll d (.ref c) lk tp n kd ps mo w P:=⟨h.me,h.n1,h.n6,h.lo,h.row,h.pz,h.mo1,h.wm⟩
theorem StB.lv {vc:V} (h:StB a H st ds ll d vc lk tp n kd ps mo w P):∀ x,(x=st\/x=ll\/x=d\/∃ q,q∈P/\(x=q.ob\/x=q.dl))->∃ o,H x=some o:=fun x c=>by
 rcases c with z | z | z | ⟨q,b,z | z⟩
 ·exact ⟨_,by rw [z]; exact h.me⟩
 ·exact ⟨_,by rw [z]; exact h.lo⟩
 ·exact ⟨_,by rw [z]; exact h.pz.dk⟩
 ·exact ⟨_,by rw [z]; exact (h.pz.ob q b).1⟩
 ·exact ⟨_,by rw [z]; exact (h.pz.ob q b).2⟩
theorem Go.wide {W W' W2:Addr->Prop} {H H':Hp} (g:Go W H H' W') (f:∀ x,W x->W2 x):Go W2 H H' W':=⟨fun c o e a=>g.fr c o e fun w=>a (f c w),fun c w=>(g.nw c w).imp (f c) id,g.lv⟩
theorem StB.re {vc:V} (h:StB a H st ds ll d vc lk tp n kd ps mo w P) {c' dc' p' cl' ct':Addr} {U':Addr->Prop} {HE:Hp} (nc:H c'=none) (ndc:H dc'=none) (hch:ya5 K a HE c' dc' p' cl' ct' n kd ps [] [] 6 U') (hnew:∀ x,ChW cl' ct' U' x->(upd (upd H dc' (.own c')) c' (.ins a.C_Chain dc' [])) x=none) (BE:But c' (upd (upd H dc' (.own c')) c' (.ins a.C_Chain dc' [])) HE) :
  uk K a (upd HE st (.ins a.C_Store ds (y6 (.ref ll) (.int mo) (.ref d) (.ref c')))) st ds ll d c' dc' p' cl' ct' lk tp n kd ps mo w P [] [] U'/\Go (fun y=>y=st) H (upd HE st (.ins a.C_Store ds (y6 (.ref ll) (.int mo) (.ref d) (.ref c')))) (StO st c' cl' ct' U')/\y0 H HE/\∀ x,StW c' cl' ct' U' x->H x=none:=by
 have l:y0 H (upd (upd H dc' (.own c')) c' (.ins a.C_Chain dc' [])):=fun b o e=>by rw [ym (yd e nc),ym (yd e ndc)]; exact e
 have f:y0 H HE:=fun b o e=>BE _ _ (l _ _ e) (yd e nc)
 have k:∀ x,StW c' cl' ct' U' x->H x=none:=fun x w=>by
  rcases w with z | z
  ·rw [z]; exact nc
  ·exact l.free (hnew x z)
 have g:∀ {x:Addr} {o:HO},H x=some o->¬ StW c' cl' ct' U' x:=fun {x o} e w=>by rw [k x w] at e; cases e
 have c:=h.me
 have m:∀ {x:Addr} {j:List V},H x=some (.lst j)->x≠st:=fun {x j} e z=>by rw [z,c] at e; cases e
 refine ⟨⟨ya,h.n1,h.n6,yj (m h.lo) (f _ _ h.lo),h.row.fr fun x j e=>yj (fun z=>by rw [z,c] at e; cases e) (f _ _ e),⟨yj (fun z=>?_) (f _ _ h.pz.dk),fun q i=>⟨yj (fun z=>?_) (f _ _ (h.pz.ob q i).1),yj (m (h.pz.ob q i).2) (f _ _ (h.pz.ob q i).2)⟩,h.pz.nd,h.pz.wf,h.pz.sz,h.pz.z,h.pz.nm⟩,hch.but (f _ _ c) (g c) But.upd,fun x p=>?_,h.mo1,h.wm,⟨none,rfl⟩⟩,⟨fun x o e r=>yj r (f _ _ e),fun x w=>?_,fun x o e=>?_⟩,f,k⟩
 ·have e:=h.pz.dk; rw [z,c] at e; cases e
 ·have e:=(h.pz.ob q i).1
  rw [z,c] at e
  injection e with e
  injection e with _ _ e
  have s:=congrArg List.length e
  exact absurd (show (4:Nat)=2 from s) (by decide)
 ·obtain ⟨o,e⟩:=h.lv x p
  exact g e
 ·rcases w with z | z
  ·exact .inl z
  ·exact .inr (k x z)
 ·by_cases z:x=st
  ·exact ⟨_,by rw [z]; exact ya⟩
  ·exact ⟨o,yj z (f _ _ e)⟩
theorem uk.re (h:uk K a H st ds ll d c dc p cl ct lk tp n kd ps mo w P L ks U) {c' dc' p' cl' ct':Addr} {U':Addr->Prop} {HE:Hp} (nc:H c'=none) (ndc:H dc'=none) (hch:ya5 K a HE c' dc' p' cl' ct' n kd ps [] [] 6 U') (hnew:∀ x,ChW cl' ct' U' x->(upd (upd H dc' (.own c')) c' (.ins a.C_Chain dc' [])) x=none) (BE:But c' (upd (upd H dc' (.own c')) c' (.ins a.C_Chain dc' [])) HE) :
  uk K a (upd HE st (.ins a.C_Store ds (y6 (.ref ll) (.int mo) (.ref d) (.ref c')))) st ds ll d c' dc' p' cl' ct' lk tp n kd ps mo w P [] [] U'/\Go (StO st c cl ct U) H (upd HE st (.ins a.C_Store ds (y6 (.ref ll) (.int mo) (.ref d) (.ref c')))) (StO st c' cl' ct' U')/\y0 H HE/\∀ x,StW c' cl' ct' U' x->H x=none:=by
 obtain ⟨e,g,f⟩:=h.b.re nc ndc hch hnew BE
 exact ⟨e,g.wide fun _ z=>.inl z,f⟩
theorem To.less {b:Str} {x:Option Str} {M:List (Str × List Int)} (h:To P x M) (hx:x≠some b):To (P.filter fun q=>decide (q.nm≠b)) x M:=by
 cases x with
 | none=>exact h
 | some y =>
  obtain ⟨r,d,a,c⟩:=h
  refine ⟨r,List.mem_filter.mpr ⟨d,decide_eq_true fun z=>hx ?_⟩,a,c⟩
  rw [<- a,z]
theorem yoo (b:Str):∀ P:List Pc,ybj (pcs P) (.inr b)=pcs (P.filter fun q=>decide (q.nm≠b)):=fun P=>by
 unfold ybj pcs
 rw [List.filter_map]
 congr 1
 refine List.filter_congr fun q _=>?_
 by_cases e:q.nm=b
 ·simp [e]
 ·simp [e]
theorem StB.drop {vc:V} (h:StB a H st ds ll d vc lk tp n kd ps mo w P) {b:Str} (hb:∀ q,q∈P->q.bs≠some b):StB a (upd H d (.dK (ybj (pcs P) (.inr b)))) st ds ll d vc lk tp n kd ps mo w (P.filter fun q=>decide (q.nm≠b)):=by
 have i:=h.pz.dk
 have f:∀ {x:Addr} {o:HO},H x=some o->o≠.dK (pcs P)->(upd H d (.dK (ybj (pcs P) (.inr b)))) x=some o:=fun {x o} e j=>yj (fun z=>by rw [z,i] at e; cases e; exact j rfl) e
 have g:∀ {q:Pc},q∈(P.filter fun q=>decide (q.nm≠b))->q∈P:=fun c=>(List.mem_filter.mp c).1
 refine ⟨f h.me (fun z=>nomatch z),h.n1,h.n6,f h.lo (fun z=>nomatch z),h.row.fr fun x k e=>f e (fun z=>nomatch z),⟨by rw [<- yoo]; exact ya,fun q c=>⟨f (h.pz.ob q (g c)).1 (fun z=>nomatch z),f (h.pz.ob q (g c)).2 (fun z=>nomatch z)⟩,h.pz.nd.sublist (List.filter_sublist.map _),fun q c=>(h.pz.wf q (g c)).less (hb q (g c)),fun q c=>h.pz.sz q (g c),Nat.le_trans (List.length_filter_le _ _) h.pz.z,fun q c=>h.pz.nm q (g c)⟩,h.mo1,h.wm⟩
end
theorem yy2:yk ["self","looks"] ["self","looks"] (yg yxj):=wx (by right)
def yl1 (K:W.Frag) (a:Ads):Sp:=fun vs H Q _=>∃ (c dc l:Addr) (n:Nat) (lk tp:Nat->Addr) (kd:Nat->Fin 3) (ps:Nat->List Int),vs=[.ref c,.ref l]/\H c=some (.ins a.C_Chain dc [])/\H l=some (.lst (refs lk n))/\1 <= n/\n <= 6/\ug H n lk kd tp ps /\
 ∀ (p ll tl:Addr) (W:Addr->Prop) (H':Hp),ya5 K a H' c dc p ll tl n kd ps [] [] 6 W->(∀ x,ChW ll tl W x->H x=none)->But c H H'->Q .non H'
theorem yjk (T:Txt K mg a):wc P w K mg base (CXe P w) 8 a.f_q60 a.d_q60 ["self","looks"] (yl1 K a):=by
 refine T.y_q60.F.okE yy2 (fun vs H Q E h=>?_) (fun a0 A U s H vs Q E hr h=>?_)
 ·obtain ⟨c,b,l,n,lk,tp,kd,ps,rfl,_⟩:=h
  rfl
 ·obtain ⟨c,b,l,n,lk,tp,kd,ps,rfl,Z,hl,n1,n6,G,k⟩:=h
  refine yo (y9 (pv 0) (u7 T.k_Ft (yy1 T) (hr.mono (by decide)) rfl T.m_Ft T.y_q34.B .nil yx (yb (pv 1) ye (yc rfl))) rfl) ?_
  refine yo (y9 (pv 0) (xj ye) rfl) ?_
  refine ⟨_,(yf (y9 (pv 0) (xj ye) rfl)),?_⟩
  try dsimp only [vz]
  refine yn (σ':=[some _,some _]) rfl ?_
  rfl'
  intro p dp np D a1
  refine FZ.new np D hl n1 n6 G fun W r M Y R=>⟨rfl,?_⟩
  have S:=R _ _ Z
  rfl'
  have m:upd r c (HO.ins a.C_Chain b ([("foreteller",V.ref p)]:List (Str × V))) c=some (HO.ins a.C_Chain b ([("foreteller",V.ref p)]:List (Str × V))):=ya
  have t:But c r (upd r c (HO.ins a.C_Chain b ([("foreteller",V.ref p)]:List (Str × V)))):=But.upd
  generalize upd r c (HO.ins a.C_Chain b ([("foreteller",V.ref p)]:List (Str × V)))=I at m t ⊢
  refine ⟨by walk_at "len",fun d hll=>?_⟩
  with_reducible first | refine yw hll fun HB SB eB=>?_ | refine ve hll fun HB SB eB=>?_
  have a2:=SB _ _ m
  rfl'
  have j:upd HB c (HO.ins a.C_Chain b ([("foreteller",V.ref p),("links",V.ref d)]:List (Str × V))) c=some (HO.ins a.C_Chain b ([("foreteller",V.ref p),("links",V.ref d)]:List (Str × V))):=ya
  have C:But c HB (upd HB c (HO.ins a.C_Chain b ([("foreteller",V.ref p),("links",V.ref d)]:List (Str × V)))):=But.upd
  generalize upd HB c (HO.ins a.C_Chain b ([("foreteller",V.ref p),("links",V.ref d)]:List (Str × V)))=HC at j C ⊢
  refine ⟨by walk_at "len",fun q htl=>?_⟩
  with_reducible first | refine yw htl fun HD SD eD=>?_ | refine ve htl fun HD SD eD=>?_
  have a3:=SD _ _ j
  rfl'
  have i:d≠c:=(yd m hll).symm
  have g:q≠c:=(yd j htl).symm
  have eC:HC d=some (.lst []):=C _ _ eB i
  have v:∀ {x:Addr},x≠c->I x=none->H x=none:=fun {x} f e=>by
   cases z:H x with
   | none=>rfl
   | some o=>rw [t _ _ (R _ _ z) f] at e; cases e
  have J:∀ {x:Addr},x≠c->HC x=none->I x=none:=fun {x} f e=>by
   cases z:I x with
   | none=>rfl
   | some o=>rw [C _ _ (SB _ _ z) f] at e; cases e
  have u:But c r (upd HD c (HO.ins a.C_Chain b (wz (.ref p) (.ref d) (.ref q)))):=fun x o e f=>yj f (SD _ _ (C _ _ (SB _ _ (t _ _ e f)) f))
  have y:∀ x,W x->x≠c:=fun x w z=>by
   have e:=Y x w
   rw [z,Z] at e
   cases e
  have L:H d=none:=v i hll
  have O:H q=none:=v g (J g htl)
  have N:¬ W d:=fun w=>by
   obtain ⟨o,e⟩:=M.live _ w
   rw [t _ _ e i] at hll
   cases hll
  have X:¬ W q:=fun w=>by
   obtain ⟨o,e⟩:=M.live _ w
   rw [C _ _ (SB _ _ (t _ _ e g)) g] at htl
   cases htl
  refine k p d q W (upd HD c (HO.ins a.C_Chain b (wz (.ref p) (.ref d) (.ref q)))) ⟨ya,?_,?_,?_,rfl,fun w=>y c w rfl,N,X,yd eC htl⟩ (fun x w=>?_) (fun x o e f=>u x o (R _ _ e) f)
  ·exact M.frame (W2:=fun x=>x=c) (fun x z=>⟨.ins a.C_Chain b [],by rw [show x=c from z]; exact S,.inl rfl⟩) (fun x w z=>y x w z) (fun x o e f=>u x o e f)
  ·exact yj i (SD _ _ eC)
  ·exact yj g eD
  ·rcases w with z | z | z
   ·rw [z]; exact L
   ·rw [z]; exact O
   ·exact Y x z
theorem yyd:yk ["self","name","text"] ["self","name","text"] (yg yw4):=wx (by right)
def yos (a:Ads):Sp:=fun vs H Q _=>∃ (c dc:Addr) (vf:V) (ll tl:Addr) (x y:V) (xs ys:List V),vs=[.ref c,x,y]/\H c=some (.ins a.C_Chain dc (wz vf (.ref ll) (.ref tl)))/\H ll=some (.lst xs)/\H tl=some (.lst ys)/\ll≠tl/\xs.length <= 10000/\ys.length <= 10000/\Q .non (upd (upd H ll (.lst (xs++[x]))) tl (.lst (ys++[y])))
theorem yqu (T:Txt K mg a):wc P w K mg base CX0 1 a.f_q61 a.d_q61 ["self","name","text"] (yos a):=by
 refine T.y_q61.F.ok yyd (fun q H Q E h=>?_) (fun o A e s H q Q E v h=>?_)
 ·obtain ⟨c,n,l,d,f,x,y,i,m,rfl,_⟩:=h
  rfl
 ·obtain ⟨c,n,l,d,f,x,y,i,m,rfl,g,j,t,r,B,u,k⟩:=h
  refine ⟨_,(yh (yu (ybh PySem.F.plainAttrs_list PySem.F.slot_list_append PySem.F.type_list_append wu (yq (pv 0) rfl) (yb (pv 1) ye (yc rfl)))) (yf (yu (ybh PySem.F.plainAttrs_list PySem.F.slot_list_append PySem.F.type_list_append wu (yq (pv 0) rfl) (yb (pv 2) ye (yc rfl)))))),?_⟩
  try dsimp only [vz]
  refine yn (σ':=[some _,some _,some _]) rfl ?_
  rfl'
  refine jr j ?_
  rfl'
  refine xv j (vx (by omega)) ?_
  have p:(upd H d (.lst (i++[x]))) c=some (.ins a.C_Chain n (wz l (.ref d) (.ref f))):=by rw [ym (fun z=>by rw [z,j] at g; cases g)]; exact g
  rfl'
  have b:(upd H d (.lst (i++[x]))) f=some (.lst m):=by rw [ym r.symm]; exact t
  refine jr b ?_
  rfl'
  refine xv b (vx (by omega)) ?_
  rfl'
  exact k
theorem ya5.grow {K:W.Frag} {a:Ads} {H H1:Hp} {c dc p ll tl:Addr} {n:Nat} {kd:Nat->Fin 3} {ps:Nat->List Int} {L:List (Str × List Int)} {ks:List V} {M M':Nat} {W W':Addr->Prop} (h:ya5 K a H c dc p ll tl n kd ps L ks M W) {nm:Str} {t:List Int} {k:V} (hf:FZ K a H1 p n kd ps (yda (L.map (·.2))++dec t) M' W') (g:Go W H H1 W') (hk:k=.non\/∃ q,k=.ref q/\H1 q=some (.lst (t.map V.int))/\¬ ChW ll tl W' q) :
  ya5 K a (upd (upd H1 ll (.lst (nmL L++[V.str nm]))) tl (.lst (ks++[k]))) c dc p ll tl n kd ps (L++[(nm,t)]) (ks++[k]) M' W'/\Go (ChW ll tl W) H (upd (upd H1 ll (.lst (nmL L++[V.str nm]))) tl (.lst (ks++[k]))) (ChW ll tl W'):=by
 have r:=g.fr _ _ h.hl h.nll
 have s:=g.fr _ _ h.ht h.ntl
 have j:=g.fr _ _ h.me h.nc
 have i:∀ {x:Addr} {o:HO},H x=some o->¬ W x->¬ W' x:=fun {x o} e d w=>(g.nw x w).elim d fun z=>by rw [e] at z; cases z
 have D:=i h.hl h.nll
 have C:=i h.ht h.ntl
 have f:∀ x o,H1 x=some o->¬ (x=ll\/x=tl)->(upd (upd H1 ll (.lst (nmL L++[V.str nm]))) tl (.lst (ks++[k]))) x=some o:=fun x o e d=>by
  rw [ym (fun z=>d (.inr z)),ym (fun z=>d (.inl z))]; exact e
 have A:c≠ll:=fun z=>by have e:=h.me; rw [z,h.hl] at e; cases e
 have v:c≠tl:=fun z=>by have e:=h.me; rw [z,h.ht] at e; cases e
 refine ⟨⟨f _ _ j fun z=>z.elim A v,?_,?_,ya,?_,i h.me h.nc,D,C,h.ne⟩,⟨fun x o e d=>?_,fun x w=>?_,fun x o e=>?_⟩⟩
 ·have G:yda ((L++[(nm,t)]).map (·.2))=yda (L.map (·.2))++dec t:=by rw [List.map_append]; exact yf2 _ _
  rw [G]
  refine hf.frame (W2:=fun x=>x=ll\/x=tl) (fun x w=>?_) (fun x w z=>?_) fun x o e d=>f x o e d
  ·rcases w with z | z
   ·refine ⟨_,by rw [show x=ll from z]; exact r,.inr ⟨_,rfl,fun y m=>?_⟩⟩
    obtain ⟨u,_,e⟩:=List.mem_map.mp m
    exact .inl ⟨u.1,e.symm⟩
   ·refine ⟨_,by rw [show x=tl from z]; exact s,.inr ⟨_,rfl,fun y m=>.inr ?_⟩⟩
    exact (h.tx.mem y m).imp id fun ⟨q,F,e,l,b⟩=>⟨q,F,e,g.fr q _ l fun w=>b (.inr (.inr w))⟩
  ·rcases z with z | z
   ·rw [z] at w; exact D w
   ·rw [z] at w; exact C w
 ·rw [ym h.ne,ya]
  unfold nmL
  rw [List.map_append]
  rfl
 ·refine yia.snoc ?_ (h.tx.mono fun q I e b=>⟨f q _ (g.fr q _ e fun w=>b (.inr (.inr w))) fun z=>b (z.imp id .inl),fun w=>?_⟩)
  ·refine hk.imp id fun ⟨q,e,l,b⟩=>⟨q,e,f q _ l fun z=>b (z.imp id .inl),b⟩
  ·rcases w with w | w | w
   ·exact b (.inl w)
   ·exact b (.inr (.inl w))
   ·exact i e (fun w=>b (.inr (.inr w))) w
 ·exact f x o (g.fr x o e fun w=>d (.inr (.inr w))) fun z=>d (z.imp id .inl)
 ·rcases w with w | w | w
  ·exact .inl (.inl w)
  ·exact .inl (.inr (.inl w))
  ·exact (g.nw x w).imp (fun w=>.inr (.inr w)) id
 ·obtain ⟨B,E⟩:=g.lv x o e
  by_cases z2:x=tl
  ·exact ⟨_,by rw [z2]; exact ya⟩
  ·by_cases z1:x=ll
   ·exact ⟨_,by rw [z1,ym h.ne]; exact ya⟩
   ·exact ⟨B,f x B E fun z=>z.elim z1 z2⟩
theorem yrz:yk ["self","name","text","data"] ["self","name","text"] (yg ywd):=wx (by right)
def ykk (K:W.Frag) (a:Ads):Sp:=fun vs H Q _=>∃ (c dc p ll tl:Addr) (n:Nat) (kd:Nat->Fin 3) (ps:Nat->List Int) (L:List (Str × List Int)) (ks:List V) (M:Nat) (W:Addr->Prop) (tx:Addr) (nm:Str) (ts:List Int),vs=[.ref c,.str nm,.ref tx]/\ya5 K a H c dc p ll tl n kd ps L ks M W/\L.length <= 1000/\ye6 H tx ts 1000/\¬ W tx/\M+6 * (dec ts).length+20 < 1000000 /\
 ∀ (r:Addr) (W':Addr->Prop) (H':Hp),H r=none->H' r=some (.lst ((ybk n kd ps (yda (L.map (·.2))) ts).map V.int))->ya5 K a H' c dc p ll tl n kd ps (L++[(nm,ts)]) (ks++[.non]) (M+6 * (dec ts).length) W'->Go (ChW ll tl W) H H' (ChW ll tl W')->Q (.ref r) H'
theorem yys (T:Txt K mg a):wc P w K mg base CX0 8 a.f_q62 a.d_q62 ["self","name","text"] (ykk K a):=by
 refine T.y_q62.F.ok yrz (fun S H Q E h=>?_) (fun D A q s H S Q E x h=>?_)
 ·obtain ⟨c,y,p,u,v,n,X,N,L,U,M,W,J,nm,C,rfl,_⟩:=h
  rfl
 ·obtain ⟨c,y,p,u,v,n,X,N,L,U,M,W,J,nm,C,rfl,b,hz,j,f,Y,k⟩:=h
  have I:=b.me
  have O:=b.tx.len
  refine ⟨_,(yh (yy (i:=3) yrz.nd rfl (Or.inl rfl) (vn (yx4 T) (x.mono (by decide)) rfl T.y_q55.m T.y_q55.F.kp T.y_q55.B .nil vj (yb (yq (pv 0) rfl) (yb (pv 2) ye (yc rfl)) (yc rfl)))) (yh (yu (xo (pv 0) T.cl_Chain T.y_q61.m (yqu T) (x.mono (by decide)) T.y_q61.B .nil vj (yb (pv 1) (yb yaj ye (yc rfl)) (yc rfl)))) (yf (y7 (pv 3))))),?_⟩
  try dsimp only [vz]
  refine yn (σ':=[some _,some _,some _,none]) rfl ?_
  rfl'
  refine b.fz.press j f Y fun r R Z d e G g=>?_
  have t:=g.fr _ _ b.hl b.nll
  have l:=g.fr _ _ b.ht b.ntl
  have o:=g.fr _ _ b.me b.nc
  rfl'
  refine ⟨c,y,_,u,v,_,_,_,_,rfl,o,t,l,b.ne,by unfold nmL; rw [List.length_map]; omega,by omega,?_⟩
  obtain ⟨z,g2⟩:=b.grow (nm:=nm) G g (.inl rfl)
  rfl'
  refine k r R _ d ?_ z g2
  rw [ym (yd b.ht d).symm,ym (yd b.hl d).symm]
  exact e
theorem ysa:yk ["self","name","data","most","first"] ["self","name","data","most"] (yg yxs):=wx (by right)
def ymh (K:W.Frag) (a:Ads):Sp:=fun vs H Q _=>∃ (c dc p ll tl:Addr) (n:Nat) (kd:Nat->Fin 3) (ps:Nat->List Int) (L:List (Str × List Int)) (ks:List V) (M:Nat) (W:Addr->Prop) (dt:Addr) (nm:Str) (ts bs:List Int) (mo:Nat),vs=[.ref c,.str nm,.ref dt,.int mo]/\ya5 K a H c dc p ll tl n kd ps L ks M W/\L.length <= 1000/\Sgs ts/\H dt=some (.lst ((ybk n kd ps (yda (L.map (·.2))) ts++bs).map V.int))/\¬ W dt/\Byt bs/\(ybk n kd ps (yda (L.map (·.2))) ts++bs).length <= 12000/\ts.length <= mo/\mo <= 1000/\M+54 * mo+200 < 1000000 /\
 ∀ (q:Addr) (W':Addr->Prop) (H':Hp),ya5 K a H' c dc p ll tl n kd ps (L++[(nm,ts)]) (ks++[.ref q]) (M+6 * (dec ts).length) W'->Go (ChW ll tl W) H H' (ChW ll tl W')->Q (.int ((ybk n kd ps (yda (L.map (·.2))) ts).length:Nat)) H'
theorem vas (T:Txt K mg a):wc P w K mg base (CXe P w) 11 a.f_q63 a.d_q63 ["self","name","data","most"] (ymh K a):=by
 refine T.y_q63.F.okE ysa (fun vs H Q E h=>?_) (fun a0 A J s H vs Q E U h=>?_)
 ·obtain ⟨c,dc,p,f,j,n,Y,R,L,X,M,W,dt,nm,O,bs,mo,rfl,_⟩:=h
  rfl
 ·obtain ⟨c,dc,p,f,j,n,Y,R,L,X,M,W,dt,nm,O,bs,mo,rfl,b,hz,r,l,u,o,x,D,y,hM,k⟩:=h
  have a1:=b.me
  have a2:=b.tx.len
  refine ⟨_,(yh (yy (i:=4) ysa.nd rfl (Or.inl rfl) (vw (yym T) (U.mono (by decide)) rfl T.y_q59.m T.y_q59.F.kp T.y_q59.B .nil yx (yb (yq (pv 0) rfl) (yb (pv 2) (yb (pv 3) ye (yc rfl)) (yc rfl)) (yc rfl)))) (yh (yu (xo (pv 0) T.cl_Chain T.y_q61.m (yqu T) (U.mono (by decide)) T.y_q61.B .nil vj (yb (pv 1) (yb (uf zt (pv 4) yi (fun _ _=>rfl)) ye (yc rfl)) (yc rfl)))) (yf (y7 (uf zt (pv 4) yi (fun _ _=>rfl)))))),?_⟩
  try dsimp only [vz]
  refine yn (σ':=[some _,some _,some _,some _,none]) rfl ?_
  rfl'
  refine b.fz.read (ycn _) r l u o x D y hM fun t q S H1 d e Z hq hf g nq=>?_
  have N:=g.fr _ _ b.hl b.nll
  have G:=g.fr _ _ b.ht b.ntl
  have I:=g.fr _ _ b.me b.nc
  rfl'
  refine ⟨t,_,0,_,rfl,rfl,SqT.of Z,rfl,?_⟩
  rfl'
  refine ⟨c,dc,_,f,j,_,_,_,_,rfl,I,N,G,b.ne,by unfold nmL; rw [List.length_map]; omega,by omega,?_⟩
  have C:¬ ChW f j S q:=fun w=>by
   rcases w with w | w | w
   ·exact yd b.hl e w.symm
   ·exact yd b.ht e w.symm
   ·exact nq w
  obtain ⟨z,g2⟩:=b.grow (nm:=nm) hf g (.inr ⟨q,rfl,hq,C⟩)
  have v:(upd (upd H1 f (.lst (nmL L++[V.str nm]))) j (.lst (X++[V.ref q]))) t=some (.tup [.ref q,.int ((ybk n Y R (yda (L.map (·.2))) O).length:Nat)]):=by
   rw [ym (yd b.ht d).symm,ym (yd b.hl d).symm]
   exact Z
  rfl'
  refine ⟨t,_,1,_,rfl,rfl,SqT.of v,rfl,?_⟩
  exact k q S _ z g2
theorem vb0:yk ["thing"] ["thing"] (yg yv9):=wx (by right)
def ylr (K:W.Frag):Sp:=fun vs H Q _=>∃ x n,vs=[x]/\xz K H x (.type n)/\(∀ s,x=.str s->s.length <= 100000)/\∀ H',y0 H H'->Q (.bl (nmV x)) H'
theorem yyw (T:Txt K mg a):wc P w K mg base CX0 1 a.f_q64 a.d_q64 ["thing"] (ylr K):=by
 refine T.y_q64.F.ok vb0 (fun p H Q E h=>?_) (fun l A f s H p Q E t h=>?_)
 ·obtain ⟨x,n,rfl,_⟩:=h
  rfl
 ·obtain ⟨x,n,rfl,d,b,k⟩:=h
  refine ⟨_,(yf (y7 (ul (yt wn rfl T.z_isinstance (by right) (yb (pv 0) (yb (jc (T:="str") rfl T.z_str (by right)) ye (yc rfl)) (yc rfl))) (ul (j7 zb zb yi (yt ya6 rfl T.z_len (by right) (yb (pv 0) ye (yc rfl))) (vo rfl T.c_MOST_LETTERS)) (zv (yt (z0 rfl) rfl T.z_all (by right) (yb (w9 (js:=[]) (ys:=[]) rfl (yyi (pv 0)) (fun C u r v=>(uc ymf (pv 0) (yuf rfl T.c_LETTERS) (by with_unfolding_all rfl))) rfl rfl (hyc:=vd) (hrel:=vd)) ye (yc rfl)))))))),?_⟩
  try dsimp only [vz]
  refine yn (σ':=[some _]) rfl ?_
  rfl'
  refine ybg d (yii d) ?_
  rfl'
  by_cases hn:n="str"
  ·obtain ⟨s',rfl⟩:∃ s',x=.str s':=by
    cases d with
    | str s'=>exact ⟨s',rfl⟩
    | _=>exact absurd hn (by decide)
   have b:=b s' rfl
   rw [decide_eq_true hn]
   refine ygr ?_
   rfl'
   refine ⟨s',rfl,Nat.le_trans b (by decide),?_⟩
   refine ⟨1,(s'.length:Int),rfl,rfl,_,rfl,?_⟩
   by_cases h1:(1:Int) <= (s'.length:Int)
   ·refine ygo h1 ?_
    refine ⟨(s'.length:Int),8,rfl,rfl,_,rfl,?_⟩
    by_cases h8:(s'.length:Int) <= 8
    ·refine ygo h8 ?_
     rfl'
     refine ⟨s',rfl,fun D j=>?_⟩
     refine ymj (fun i=>.bl (ys1 (s'.cps.toList.getD i 0))) j (fun i c G q o S g=>?_) (fun G S g=>?_)
     ·rfl'
      refine ⟨_,_,rfl,rfl,?_⟩
      refine Mp.doneR j (Nat.lt_of_le_of_lt (show s'.cps.size <= 100000 from b) (by decide)) o S g ?_
      have m:s'.cps.toList.getD i 0=c:=by
       rw [List.getD_eq_getElem?_getD,Array.getElem?_toList,q]; rfl
      rw [m]
      unfold ys1
      rfl
     ·rfl'
      refine ⟨D,s'.cps.toList.map ys1,rfl,?_,?_⟩
      ·refine SqL.of (g.trans ?_)
       rw [yve]
      ·have e:=vcc h1 h8
       rw [<- e]
       exact k _ S
    ·have e:=yyx h8
     rw [e] at k
     exact ykz h8 (k _ (y0.refl _))
   ·have e:=yz2 h1
    rw [e] at k
    refine ykz h1 ?_
    exact ⟨_,rfl,yfa (k _ (y0.refl _))⟩
  ·have e:nmV x=false:=by
    cases d with
    | str s'=>exact absurd rfl hn
    | _=>rfl
   rw [decide_eq_false hn]
   rw [e] at k
   exact yfa (k _ (y0.refl _))
theorem vbb:yk ["thing"] ["thing"] (yg yxo):=wx (by right)
def ypc (K:W.Frag) (C:Addr):Sp:=fun vs H Q E=>∃ x n,vs=[x]/\xz K H x (.type n)/\(∀ s,x=.str s->s.length <= 100000)/\(nmV x=true->∀ H',y0 H H'->Q x H')/\(nmV x=false->∀ H',y0 H H'->E (.ref C) none H')
theorem ynr (T:Txt K mg a):wc P w K mg base (CXe P w) 2 a.f_q65 a.d_q65 ["thing"] (ypc K a.C_NoName):=by
 refine T.y_q65.F.okE vbb (fun k H Q E h=>?_) (fun f A b s H k Q E j h=>?_)
 ·obtain ⟨x,n,rfl,_⟩:=h
  rfl
 ·obtain ⟨x,n,rfl,g,e,d,i⟩:=h
  refine ⟨_,(yh (ww (x6 (ue (vn (yyw T) (j.mono (by decide)) rfl T.y_q64.m T.y_q64.F.kp T.y_q64.B .nil vj (yb (pv 0) ye (yc rfl))))) (yf (wy rfl T.m_NoName T.r_NoName (yb xf ye (yc rfl)))) vk) (yf (y7 (pv 0)))),?_⟩
  try dsimp only [vz]
  refine yn (σ':=[some _]) rfl ?_
  rfl'
  refine ⟨x,n,rfl,g,e,fun l c=>?_⟩
  rfl'
  cases hx:nmV x with
  | false =>
   rfl'
   exact ⟨by walk_at "len",i hx _ c⟩
  | true =>
   rfl'
   exact d hx _ c
theorem va7:yk ["thing"] ["thing"] (yg yvp):=wx (by right)
def ypl (K:W.Frag) (C:Addr):Sp:=fun vs H Q E=>∃ x n,vs=[x]/\xz K H x (.type n)/\(∀ s,x=.str s->s.length <= 100000)/\((x=.non\/nmV x=true)->∀ H',y0 H H'->Q .non H')/\(x≠.non->nmV x=false->∀ H',y0 H H'->E (.ref C) none H')
theorem yzd (T:Txt K mg a):wc P w K mg base (CXe P w) 3 a.f_q66 a.d_q66 ["thing"] (ypl K a.C_NoName):=by
 refine T.y_q66.F.okE va7 (fun o H Q E h=>?_) (fun i A b s H o Q E l h=>?_)
 ·obtain ⟨x,n,rfl,_⟩:=h
  rfl
 ·obtain ⟨x,n,rfl,j,g,e,k⟩:=h
  refine ⟨_,(yf (ww (y8 yco (pv 0) yaj (vg _)) (yf (yu (vw (ynr T) (l.mono (by decide)) rfl T.y_q65.m T.y_q65.F.kp T.y_q65.B .nil yx (yb (pv 0) ye (yc rfl))))) vk)),?_⟩
  try dsimp only [vz]
  refine yn (σ':=[some _]) rfl ?_
  rfl'
  by_cases hx:x=.non
  ·subst hx
   rfl'
   exact e (.inl rfl) _ (y0.refl _)
  ·rfl'
   rw [decide_eq_false hx]
   refine ygr ?_
   rfl'
   refine ⟨x,n,rfl,j,g,fun c f d=>?_,fun c f d=>k hx c f d⟩
   rfl'
   exact e (.inr c) _ d
theorem vak:yk ["self","base","data"] ["self","base","data"] (yg ywb):=wx (by right)
def yp6 (a:Ads):Sp:=fun vs H Q _=>∃ (p dp:Addr) (x y:V),vs=[.ref p,x,y]/\H p=some (.ins a.C_Piece dp [])/\∀ H',H' p=some (.ins a.C_Piece dp (zr x y))->But p H H'->Q .non H'
theorem vaq (T:Txt K mg a):wc P w K mg base CX0 1 a.f_q67 a.d_q67 ["self","base","data"] (yp6 a):=by
 refine T.y_q67.F.ok vak (fun g H Q E h=>?_) (fun f A d s H g Q E j h=>?_)
 ·obtain ⟨p,b,x,y,rfl,_⟩:=h
  rfl
 ·obtain ⟨p,b,x,y,rfl,i,k⟩:=h
  refine ⟨_,(yh (y9 (pv 0) (pv 1) rfl) (yf (y9 (pv 0) (pv 2) rfl))),?_⟩
  try dsimp only [vz]
  refine yn (σ':=[some _,some _,some _]) rfl ?_
  rfl'
  have c:upd H p (HO.ins a.C_Piece b ([("base",x)]:List (Str × V))) p=some (HO.ins a.C_Piece b ([("base",x)]:List (Str × V))):=ya
  have e:But p H (upd H p (HO.ins a.C_Piece b ([("base",x)]:List (Str × V)))):=But.upd
  generalize upd H p (HO.ins a.C_Piece b ([("base",x)]:List (Str × V)))=l at c e ⊢
  rfl'
  exact k _ ya (e.trans But.upd)
theorem vcg:yk ["self","looks","most"] ["self","looks","most"] (yg yk2):=wx (by right)
def ylz (K:W.Frag) (a:Ads):Sp:=fun vs H Q _=>∃ (p ds l:Addr) (mo w:Nat) (n:Nat) (lk tp:Nat->Addr) (kd:Nat->Fin 3) (ps:Nat->List Int),vs=[.ref p,.ref l,.int mo]/\H p=some (.ins a.C_Store ds [])/\H l=some (.lst (refs lk n))/\1 <= n/\n <= 6/\ug H n lk kd tp ps/\mo <= 1000/\w <= mo/\w <= 200 /\
 ∀ (ll d c dc q cl ct:Addr) (U:Addr->Prop) (H':Hp),uk K a H' p ds ll d c dc q cl ct lk tp n kd ps mo w [] [] [] U->(∀ x,StW c cl ct U x->H x=none)->H ll=none->H d=none->But p H H'->Q .non H'
theorem yzp (T:Txt K mg a):wc P w K mg base (CXe P w) 10 a.f_q68 a.d_q68 ["self","looks","most"] (ylz K a):=by
 refine T.F_q68.okE vcg (fun vs H Q E h=>?_) (fun ab A a8 s H vs Q E hr h=>?_)
 ·obtain ⟨p,g,l,r,w,n,lk,tp,kd,ps,rfl,_⟩:=h
  rfl
 ·obtain ⟨p,g,l,r,w,n,lk,tp,kd,ps,rfl,O,hl,N,n6,J,a1,a9,a4,k⟩:=h
  refine yo (y9 (pv 0) (vw (yrc T) (hr.mono (by decide)) rfl T.y_q26.m T.y_q26.F.kp T.y_q26.B .nil yx (yb (pv 1) ye (yc rfl))) rfl) ?_
  refine yo (yu (vw (vd7 T) (hr.mono (by decide)) rfl T.y_q8.m T.y_q8.F.kp T.y_q8.B .nil yx (yb (pv 2) ye (yc rfl)))) ?_
  refine yo (y9 (pv 0) (pv 2) rfl) ?_
  refine yo (y9 (pv 0) yis rfl) ?_
  refine ⟨_,(yf (y9 (pv 0) (u7 T.k_Chain (yjk T) (hr.mono (by decide)) rfl T.m_Chain T.y_q60.B .nil yx (yb (yq (pv 0) rfl) ye (yc rfl))) rfl)),?_⟩
  try dsimp only [vz]
  refine yn (σ':=[some _,some _,some _]) rfl ?_
  rfl'
  refine .inr ⟨l,refs lk n,List.replicate (refs lk n).length true,rfl,hl,by rw [wa]; omega,J.lks.bs,fun _ f Z v a2 C=>?_,fun no=>absurd ⟨by rw [wa]; exact N,by rw [wa]; exact n6,ym5 _⟩ no⟩
  have ad:=C _ _ O
  rfl'
  have a3:upd Z p (HO.ins a.C_Store g ([("looks",V.ref f)]:List (Str × V))) p=some (HO.ins a.C_Store g ([("looks",V.ref f)]:List (Str × V))):=ya
  have BA:But p Z (upd Z p (HO.ins a.C_Store g ([("looks",V.ref f)]:List (Str × V)))):=But.upd
  generalize upd Z p (HO.ins a.C_Store g ([("looks",V.ref f)]:List (Str × V)))=HA at a3 BA ⊢
  refine ⟨.int r,"int",rfl,.int _,fun _=>?_,fun z=>by rw [vcr a1] at z; cases z⟩
  rfl'
  have I:upd HA p (HO.ins a.C_Store g ([("looks",V.ref f),("most",V.int r)]:List (Str × V))) p=some (HO.ins a.C_Store g ([("looks",V.ref f),("most",V.int r)]:List (Str × V))):=ya
  have BB:But p HA (upd HA p (HO.ins a.C_Store g ([("looks",V.ref f),("most",V.int r)]:List (Str × V)))):=But.upd
  generalize upd HA p (HO.ins a.C_Store g ([("looks",V.ref f),("most",V.int r)]:List (Str × V)))=HB at I BB ⊢
  intro d hd0
  with_reducible first | refine yw hd0 fun HC SC eC=>?_ | refine ve hd0 fun HC SC eC=>?_
  have ae:=SC _ _ I
  rfl'
  have j:upd HC p (HO.ins a.C_Store g ([("looks",V.ref f),("most",V.int r),("pieces",V.ref d)]:List (Str × V))) p=some (HO.ins a.C_Store g ([("looks",V.ref f),("most",V.int r),("pieces",V.ref d)]:List (Str × V))):=ya
  have BD:But p HC (upd HC p (HO.ins a.C_Store g ([("looks",V.ref f),("most",V.int r),("pieces",V.ref d)]:List (Str × V)))):=But.upd
  generalize upd HC p (HO.ins a.C_Store g ([("looks",V.ref f),("most",V.int r),("pieces",V.ref d)]:List (Str × V)))=D at j BD ⊢
  have M:∀ x o,Z x=some o->x≠p->D x=some o:=fun x o e y=>BD _ _ (SC _ _ (BB _ _ (BA _ _ e y) y)) y
  have K0:∀ x,x≠p->D x=none->H x=none:=fun x y e=>by
   cases z:H x with
   | none=>rfl
   | some o=>rw [M _ _ (C _ _ z) y] at e; cases e
  have a0:f≠p:=(yd O v).symm
  have t:d≠p:=(yd I hd0).symm
  have G:=M _ _ a2 a0
  have W:D d=some (.dK []):=BD _ _ eC t
  have aa:ug D n lk kd tp ps:=fun i hi=>by
   obtain ⟨q,e,h1,Y,h3⟩:=J i hi
   exact ⟨q,e,M _ _ (C _ _ h1) (xi h1 O (by intro z; cases z)),M _ _ (C _ _ Y) (xi Y O (by intro z; cases z)),h3⟩
  refine ⟨p,_,g,_,_,rfl,j,T.cl_Store,T.n_Store_looks,rfl,?_⟩
  rfl'
  intro c dc nc a6 ac
  have SQ:y0 D (upd (upd D dc (.own c)) c (.ins a.C_Chain dc [])):=fun b o e=>by rw [ym (yd e nc),ym (yd e a6)]; exact e
  refine ⟨c,dc,f,n,lk,tp,kd,ps,rfl,ya,SQ _ _ G,N,n6,aa.same SQ,fun q cl ct U HE a7 X BE=>⟨rfl,?_⟩⟩
  have R:y0 D HE:=fun b o e=>BE _ _ (SQ _ _ e) (yd e nc)
  have a5:=R _ _ j
  have L:∀ x,StW c cl ct U x->D x=none:=fun x w=>by
   rcases w with z | z
   ·rw [z]; exact nc
   ·exact SQ.free (X x z)
  have S:¬ StW c cl ct U p:=fun w=>by have e:=L _ w; rw [j] at e; cases e
  rfl'
  refine k f d c dc q cl ct U _ ⟨ya,N,n6,yj a0 (R _ _ G),fun i hi=>?_,⟨yj t (R _ _ W),fun q u=>(by cases u),List.nodup_nil,fun q u=>(by cases u),fun q u=>(by cases u),Nat.zero_le _,fun q u=>(by cases u)⟩,a7.but a5 S But.upd,fun x hx w=>?_,a1,⟨a9,a4⟩,⟨none,rfl⟩⟩ (fun x w=>?_) v ?_ (fun x o e y=>yj y (R _ _ (M _ _ (C _ _ e) y)))
  ·obtain ⟨q,e,h1,Y,h3⟩:=J i hi
   have N:=xi h1 O (by intro z; cases z)
   have n2:=xi Y O (by intro z; cases z)
   exact ⟨q,e,yj N (R _ _ (M _ _ (C _ _ h1) N)),yj n2 (R _ _ (M _ _ (C _ _ Y) n2)),h3⟩
  ·have e:=L _ w
   rcases hx with z | z | z | ⟨q,u,_⟩
   ·rw [z,j] at e; cases e
   ·rw [z,G] at e; cases e
   ·rw [z,W] at e; cases e
   ·cases u
  ·exact K0 x (fun z=>S (z ▸ w)) (L x w)
  ·cases z:H d with
   | none=>rfl
   | some o=>rw [BB _ _ (BA _ _ (C _ _ z) t) t] at hd0; cases hd0
theorem vby:yk ["self","text"] ["self","text"] (yg ywq):=wx (by right)
def yu5 (a:Ads):Sp:=fun vs H Q E=>∃ (st ds tx:Addr) (vl vp vc:V) (mo:Int) (xs:List V),vs=[.ref st,.ref tx]/\H st=some (.ins a.C_Store ds (y6 vl (.int mo) vp vc))/\H tx=some (.lst xs)/\((xs.length:Int) <= mo->Q .non H)/\(¬ (xs.length:Int) <= mo->E (.ref a.C_TooLong) none H)
theorem yzl (T:Txt K mg a):wc P w K mg base (CXe P w) 1 a.f_q70 a.d_q70 ["self","text"] (yu5 a):=by
 refine T.y_q70.F.okE vby (fun m H Q E h=>?_) (fun e A b s H m Q E t h=>?_)
 ·obtain ⟨r,k,g,i,p,f,q,j,rfl,_⟩:=h
  rfl
 ·obtain ⟨r,k,g,i,p,f,q,j,rfl,o,c,d,l⟩:=h
  refine ⟨_,(yf (ww (y8 yh5 (yt yz rfl T.z_len (by right) (yb (pv 1) ye (yc rfl))) (yq (pv 0) rfl) (vg _)) (yf (wy rfl T.m_TooLong T.r_TooLong (yb xf ye (yc rfl)))) vk)),?_⟩
  try dsimp only [vz]
  refine yn (σ':=[some _,some _]) rfl ?_
  rfl'
  refine zw (SqL.of c) ?_
  rfl'
  refine u6 (fun n=>?_) (fun n=>?_)
  ·rfl'
   exact ⟨by walk_at "len",l (by omega)⟩
  ·exact d (by omega)
theorem vcd:yk ["self","name"] ["self","name"] (yg yv1):=wx (by right)
def vai (K:W.Frag) (a:Ads):Sp:=fun vs H Q E=>∃ (st ds d:Addr) (vl vm vc:V) (n:Nat) (kd:Nat->Fin 3) (ps:Nat->List Int) (w:Nat) (P:List Pc) (x:V) (nt:String),vs=[.ref st,x]/\H st=some (.ins a.C_Store ds (y6 vl vm (.ref d) vc))/\ye8 a H d n kd ps w P/\xz K H x (.type nt)/\(∀ s,x=.str s->s.length <= 100000) /\
 (nmV x=false->∀ H',y0 H H'->E (.ref a.C_NoName) none H')/\(∀ b,x=.str b->nmS b=true->(∀ q,q∈P->q.nm≠b)->∀ H',y0 H H'->E (.ref a.C_NoPiece) none H')/\(∀ r,r∈P->x=.str r.nm->nmS r.nm=true->∀ H',y0 H H'->Q (.ref r.ob) H')
theorem ygf (T:Txt K mg a):wc P w K mg base (CXe P w) 3 a.f_q72 a.d_q72 ["self","name"] (vai K a):=by
 refine T.y_q72.F.okE vcd (fun M H Q E h=>?_) (fun y A j s H M Q E i h=>?_)
 ·obtain ⟨O,S,d,J,z,u,n,N,C,w,P,x,p,rfl,_⟩:=h
  rfl
 ·obtain ⟨O,S,d,J,z,u,n,N,C,w,P,x,p,rfl,g,D,R,I,G,v,L⟩:=h
  refine ⟨_,(yh (ww (yn9 (yfz (jt i) (vw (ynr T) (i.mono (by decide)) rfl T.y_q65.m T.y_q65.F.kp T.y_q65.B .nil yx (yb (pv 1) ye (yc rfl))) (yq (pv 0) rfl))) (yf (wy rfl T.m_NoPiece T.r_NoPiece (yb xf ye (yc rfl)))) vk) (yf (y7 (za (jt i) (yq (pv 0) rfl) (pv 1) (fun _ _=>rfl))))),?_⟩
  try dsimp only [vz]
  refine yn (σ':=[some _,some _]) rfl ?_
  rfl'
  refine ⟨x,p,rfl,R,I,fun k l f=>?_,fun k l f=>G k l f⟩
  obtain ⟨b,rfl,o⟩:=yyy k
  have t:=f _ _ g
  have e:=D.same f
  rfl'
  rcases vcz P b with ⟨r,c,rfl⟩ | q
  ·refine ⟨d,_,rfl,e.get c,?_⟩
   refine ⟨false,rfl,yfa ?_⟩
   rfl'
   refine ⟨d,_,rfl,e.get c,?_⟩
   exact L r c rfl o _ f
  ·refine ⟨d,_,rfl,e.getNo q,?_⟩
   refine ⟨true,rfl,ygr ?_⟩
   rfl'
   exact ⟨by walk_at "len",v b rfl o q _ f⟩
theorem yz3:yk ["self","name","base"] ["self","name","base"] (yg yw7):=wx (by right)
def yvd (K:W.Frag) (a:Ads):Sp:=fun vs H Q E=>∃ (st ds d:Addr) (vl vm vc:V) (n:Nat) (kd:Nat->Fin 3) (ps:Nat->List Int) (w:Nat) (P:List Pc) (b:Str) (x:Option Str),vs=[.ref st,.str b,baV x]/\H st=some (.ins a.C_Store ds (y6 vl vm (.ref d) vc))/\ye8 a H d n kd ps w P/\(∀ y,x=some y->nmS y=true/\y.length <= 100000) /\
 ((∃ r,r∈P/\r.nm=b)->E (.ref a.C_Taken) none H)/\((∀ q,q∈P->q.nm≠b)->(∀ y,x=some y->(∀ q,q∈P->q.nm≠y)->∀ H',y0 H H'->E (.ref a.C_NoPiece) none H')/\(∀ L,To P x L->(P.length=60->∀ H',y0 H H'->E (.ref a.C_Full) none H')/\(P.length≠60->∀ H',y0 H H'->Q .non H')))
theorem vbe (T:Txt K mg a):wc P w K mg base (CXe P w) 4 a.f_q71 a.d_q71 ["self","name","base"] (yvd K a):=by
 refine T.y_q71.F.okE yz3 (fun vs H Q E h=>?_) (fun X A l s H vs Q E I h=>?_)
 ·obtain ⟨L,M,d,D,v,u,n,J,C,w,P,b,x,rfl,_⟩:=h
  rfl
 ·obtain ⟨L,M,d,D,v,u,n,J,C,w,P,b,x,rfl,f,g,R,Y,W⟩:=h
  refine ⟨_,(yh (ww (yn9 (yzn (jt I) (pv 1) (yq (pv 0) rfl))) (yf (wy rfl T.m_Taken T.r_Taken (yb xf ye (yc rfl)))) vk) (yh (ww (y8 yco (pv 2) yaj (vg _)) (yf (yu (vt (pv 0) T.cl_Store T.y_q72.m (ygf T) (I.mono (by decide)) T.y_q72.B .nil yx (yb (pv 2) ye (yc rfl))))) vk) (yf (ww (y8 uw (yt ymg rfl T.z_len (by right) (yb (yq (pv 0) rfl) ye (yc rfl))) (vo rfl T.c_MOST_PIECES) (vg _)) (yf (wy rfl T.m_Full T.r_Full (yb xf ye (yc rfl)))) vk)))),?_⟩
  try dsimp only [vz]
  refine yn (σ':=[some _,some _,some _]) rfl ?_
  rfl'
  rcases vcz P b with ⟨r,c,rfl⟩ | N
  ·refine ⟨d,_,rfl,g.get c,?_⟩
   refine ⟨true,rfl,ygr ?_⟩
   rfl'
   exact ⟨by walk_at "len",Y ⟨r,c,rfl⟩⟩
  ·refine ⟨d,_,rfl,g.getNo N,?_⟩
   refine ⟨false,rfl,yfa ?_⟩
   obtain ⟨Z,G⟩:=W N
   have a0:(pcs P).length=P.length:=List.length_map _
   rfl'
   cases x with
   | none =>
    refine ys0 (fun _=>?_) (fun z=>absurd rfl z)
    obtain ⟨p,t⟩:=G [] rfl
    rfl'
    refine ⟨d,_,rfl,g.dk,?_⟩
    rfl'
    refine u6 (fun j=>?_) (fun j=>?_)
    ·rfl'
     exact ⟨by walk_at "len",p (by omega) _ (y0.refl _)⟩
    ·rfl'
     exact t (by omega) _ (y0.refl _)
   | some y =>
    refine ys0 (fun z=>nomatch z) (fun _=>?_)
    obtain ⟨q,o⟩:=R y rfl
    rfl'
    refine ⟨L,M,d,D,v,u,n,J,C,w,P,.str y,"str",rfl,f,g,.str y,(fun s e=>by cases e; exact o),(fun z=>by rw [show nmV (.str y)=nmS y from rfl,q] at z; cases z),(fun b e _ k U S=>by cases e; exact Z y rfl k U S),fun r c e _ H1 i=>?_⟩
    obtain rfl:y=r.nm:=by cases e; rfl
    obtain ⟨p,t⟩:=G _ ⟨r,c,rfl,rfl⟩
    have O:=i _ _ f
    rfl'
    refine ⟨d,_,rfl,i _ _ g.dk,?_⟩
    rfl'
    refine u6 (fun j=>?_) (fun j=>?_)
    ·rfl'
     exact ⟨by walk_at "len",p (by omega) _ i⟩
    ·rfl'
     exact t (by omega) _ i
theorem yod:yk ["self","name","links"] ["self","name"] (yg ywy):=wx (by right)
def yol (a:Ads):Sp:=fun vs H Q _=>∃ (st ds d:Addr) (vl vm vc:V) (n:Nat) (kd:Nat->Fin 3) (ps:Nat->List Int) (w:Nat) (P:List Pc) (x:Option Str) (L:List (Str × List Int)),vs=[.ref st,baV x]/\H st=some (.ins a.C_Store ds (y6 vl vm (.ref d) vc))/\ye8 a H d n kd ps w P/\To P x L /\
 ∀ (l:Addr) (H':Hp),H l=none->H' l=some (.lst (nmL L))->y0 H H'->Q (.ref l) H'
theorem yr2 (T:Txt K mg a):wc P w K mg base CX0 1 a.f_q73 a.d_q73 ["self","name"] (yol a):=by
 refine T.y_q73.F.ok yod (fun vs H Q E h=>?_) (fun Y A I s H vs Q E hr h=>?_)
 ·obtain ⟨N,ds,d,vl,Z,W,n,kd,ps,w,P,x,L,rfl,_⟩:=h
  rfl
 ·obtain ⟨N,ds,d,vl,Z,W,n,kd,ps,w,P,x,L,rfl,q,C,O,k⟩:=h
  refine ⟨_,(yh (yy (i:=2) yod.nd rfl (Or.inl rfl) (xj ye)) (yh (z8 PassesOwn.never (y8 yco (pv 1) yaj (vg _)) (yh (yu (ybh PySem.F.plainAttrs_list PySem.F.slot_list_append PySem.F.type_list_append wu (pv 2) (yb (pv 1) ye (yc rfl)))) (yf (yy (i:=1) yod.nd rfl (Or.inl rfl) (yq (za (jt hr) (yq (pv 0) rfl) (pv 1) (fun _ _=>rfl)) rfl))))) (yh (yu (yjc PySem.F.plainAttrs_list PySem.F.slot_list_reverse PySem.F.type_list_reverse yaz (pv 2))) (yf (y7 (pv 2)))))),?_⟩
  try dsimp only [vz]
  refine yn (σ':=[some _,some _,none]) rfl ?_
  rfl'
  refine ⟨by walk_at "len",fun l j=>?_⟩
  rfl'
  refine ⟨fun m σ' G=>∃ (y:Option Str) (R S:List (Str × List Int)),σ'=[some (.ref N),some (baV y),some (.ref l)]/\To P y R/\R++S=L/\G l=some (.lst (nmL S).reverse)/\y0 H G/\m=R.length,
   ⟨_,x,L,[],rfl,O,List.append_nil L,ya,vv j,rfl⟩,?_⟩
  rintro m σ2 G ⟨y,R,S,rfl,M,c,f,B,rfl⟩
  have U:=B _ _ q
  have X:=C.same B
  have D:=To.len C O
  have a1:S.length <= 61:=by rw [<- c,List.length_append] at D; omega
  rfl'
  cases y with
  | none =>
   refine ys0 (fun _=>?_) (fun z=>absurd rfl z)
   have e:S=L:=by rw [show R=[] from M] at c; exact c
   rfl'
   refine jr f ?_
   rfl'
   refine yci f ?_
   rw [List.reverse_reverse,e]
   rfl'
   exact k l _ j ya fun b o z=>yj (yd z j) (B _ _ z)
  | some b =>
   refine ys0 (fun z=>nomatch z) (fun _=>?_)
   obtain ⟨r,p,rfl,v⟩:=M
   refine ⟨_,fun σ' H' z=>z,?_⟩
   rfl'
   refine jr f ?_
   rfl'
   refine xv f (vx (by unfold nmL; rw [List.length_reverse,List.length_map]; omega)) ?_
   have g:y0 H (upd G l (HO.lst ((nmL S).reverse++[baV (some r.nm)]))):=fun b o e=>yj (yd e j) (B _ _ e)
   have u:upd G l (HO.lst ((nmL S).reverse++[baV (some r.nm)])) l=some (HO.lst ((nmL S).reverse++[baV (some r.nm)])):=ya
   generalize upd G l (HO.lst ((nmL S).reverse++[baV (some r.nm)]))=G' at g u ⊢
   have J:=g _ _ q
   have t:=C.same g
   have a0:=(t.ob r p).1
   rfl'
   refine ⟨d,_,rfl,t.get p,?_⟩
   rfl'
   refine ⟨r.path.length,?_,r.bs,r.path,(r.nm,r.tx) :: S,rfl,C.wf r p,?_,?_,g,rfl⟩
   ·rw [v,List.length_append,List.length_singleton]
    omega
   ·rw [<- c,v,List.append_assoc]
    rfl
   ·rw [yvi]
    exact u
theorem yn0:yk ["self","name","links","link"] ["self","name"] (yg yvw):=wx (by right)
def ykj (K:W.Frag) (a:Ads):Sp:=fun vs H Q _=>∃ (st ds ll d c dc p cl ct:Addr) (lk tp:Nat->Addr) (n:Nat) (kd:Nat->Fin 3) (ps:Nat->List Int) (mo w:Nat) (P:List Pc) (L:List (Str × List Int)) (ks:List V) (U:Addr->Prop) (x:Option Str) (L':List (Str × List Int)),vs=[.ref st,baV x]/\uk K a H st ds ll d c dc p cl ct lk tp n kd ps mo w P L ks U/\To P x L' /\
 ∀ (c' dc' p' cl' ct':Addr) (ks':List V) (U':Addr->Prop) (H':Hp),uk K a H' st ds ll d c' dc' p' cl' ct' lk tp n kd ps mo w P L' ks' U'->Go (StO st c cl ct U) H H' (StO st c' cl' ct' U')->(V.non∈ks'->V.non∈ks.take L'.length)->Q (.ref c') H'
theorem yq8 (T:Txt K mg a):wc P w K mg base (CXe P w) 12 a.f_q74 a.d_q74 ["self","name"] (ykj K a):=by
 refine T.y_q74.F.okE yn0 (fun vs H Q E h=>?_) (fun aw A am s H vs Q E hr h=>?_)
 ·obtain ⟨N,ds,ll,d,c,dc,p,cl,ct,lk,tp,n,kd,ps,mo,w,P,L,ks,U,x,t,rfl,_⟩:=h
  rfl
 ·obtain ⟨N,ds,ll,d,c,dc,p,cl,ct,lk,tp,n,kd,ps,mo,w,P,L,ks,U,x,t,rfl,M,hL,k⟩:=h
  have ab:=M.me
  refine yo (yy (i:=2) yn0.nd rfl (Or.inl rfl) (xo (pv 0) T.cl_Store T.y_q73.m (yr2 T) (hr.mono (by decide)) T.y_q73.B .nil vj (yb (pv 1) ye (yc rfl)))) ?_
  refine yo (ut (ww (y8 (yjo hr.units) (yq (yq (pv 0) rfl) rfl) (xn u9 (pv 2) x5 (x3 (yt yz rfl T.z_len (by right) (yb (yq (yq (pv 0) rfl) rfl) ye (yc rfl))))) (vg _)) (yf (y9 (pv 0) (u7 T.k_Chain (yjk T) (hr.mono (by decide)) rfl T.m_Chain T.y_q60.B .nil yx (yb (yq (pv 0) rfl) ye (yc rfl))) rfl)) vk)) ?_
  refine yo (PS.nox (jd PassesOwn.never rfl (xx (xn u9 (pv 2) (x3 (yt yz rfl T.z_len (by right) (yb (yq (yq (pv 0) rfl) rfl) ye (yc rfl)))) x5)) (xc (i:=3) yn0.nd rfl (Or.inl rfl)) (yf (yu (vt (yq (pv 0) rfl) T.cl_Chain T.y_q63.m (vas T) (hr.mono (by decide)) T.y_q63.B .nil wj (yb (pv 3) (yb (yq (za (jt hr) (yq (pv 0) rfl) (pv 3) (fun _ _=>rfl)) rfl) (yb (yq (pv 0) rfl) ye (yc rfl)) (yc rfl)) (yc rfl))))))) ?_
  refine ⟨_,(yf (y7 (yq (pv 0) rfl))),?_⟩
  try dsimp only [vz]
  refine yn (σ':=[some _,some _,none,none]) rfl ?_
  rfl'
  refine ⟨N,ds,d,_,_,_,n,kd,ps,w,P,x,t,rfl,ab,M.pz,hL,fun l H1 az a9 S1=>?_⟩
  have ap:=S1 _ _ ab
  have a8:=M.same S1
  have aB:=a8.ch.me
  have ad:=a8.ch.hl
  obtain ⟨y,hy⟩:=M.way
  have aq:=To.len M.pz hL
  have as:=To.len M.pz hy
  refine ⟨fun σ2 G=>∃ (W O p2 f j:Addr) (R:List V) (U2:Addr->Prop) (C:List (Str × List Int)),σ2=[some (.ref N),some (baV x),some (.ref l),none]/\uk K a G N ds ll d W O p2 f j lk tp n kd ps mo w P C R U2/\Go (StO N c cl ct U) H G (StO N W f j U2)/\C=t.take C.length/\C.length <= t.length/\G l=some (.lst (nmL t))/\(V.non∈R->V.non∈ks.take t.length),?_,?_⟩
  ·rfl'
   refine zw (SqL.of ad) ?_
   rfl'
   refine ye5 (SqL.of a9) fun q hq0=>?_
   rw [jp,u8,ybv]
   with_reducible first | refine yw hq0 fun H2 S2 e2=>?_ | refine ve hq0 fun H2 S2 e2=>?_
   have a4:=S1.trans S2
   have D:=M.same a4
   have a2:=D.me
   have X:=S2 _ _ a9
   rw [ya3] at e2
   have a3:=D.ch.hl
   rw [ya3] at a3
   refine ysg _ _ (hy.ok M.pz) (fun z hz=>hL.ok M.pz z (by obtain ⟨u,hu,rfl⟩:=List.mem_map.mp hz; exact List.mem_map.mpr ⟨u,List.mem_of_mem_take hu,rfl⟩)) (SqL.of a3) (SqL.of e2) ?_
   by_cases he:L.map (·.1)=(t.take L.length).map (·.1)
   ·rw [decide_eq_true he]
    refine ⟨false,rfl,yfa ?_⟩
    have e3:=To.ahead M.pz.nd M.pz.wf hy hL (by rw [ybv]; exact yqw he)
    have e4:=congrArg List.length e3
    rw [List.length_take] at e4
    exact ⟨c,dc,p,cl,ct,ks,U,L,rfl,D,Go.refl.same a4,e3,by omega,X,fun z=>by rw [List.take_of_length_le (by rw [M.ch.tx.len]; omega)]; exact z⟩
   ·rw [decide_eq_false he]
    refine ⟨true,rfl,ygr ?_⟩
    rfl'
    intro c' Y nc aa aA
    have SQ:y0 H2 (upd (upd H2 Y (.own c')) c' (.ins a.C_Chain Y [])):=fun b o e=>by rw [ym (yd e nc),ym (yd e aa)]; exact e
    refine ⟨c',Y,ll,n,lk,tp,kd,ps,rfl,ya,SQ _ _ D.lo,D.n1,D.n6,D.row.same SQ,fun p' aj ae U' HE a0 a5 BE=>⟨rfl,?_⟩⟩
    obtain ⟨hR,gR,SE,hN⟩:=D.re nc aa a0 a5 BE
    have ar:=SE _ _ a2
    rfl'
    exact ⟨c',Y,p',aj,ae,[],U',[],rfl,hR,gR.ahead a4,rfl,Nat.zero_le _,yj (fun z=>by rw [z,a2] at X; cases X) (SE _ _ X),fun z=>nomatch z⟩
  ·rintro σ2 G ⟨W,O,p2,f,j,R,U2,C,rfl,hG,go,ag,al,af,an⟩
   have ao:=hG.me
   have av:=hG.ch.me
   have ac:=hG.ch.hl
   rfl'
   refine zw (SqL.of ac) ?_
   rfl'
   refine ye5 (SqL.of af) fun q hq0=>?_
   rw [jp,yik]
   have S1:=vv (o:=(HO.lst ((nmL t).drop C.length))) hq0
   have e1:upd G q (HO.lst ((nmL t).drop C.length)) q=some (HO.lst ((nmL t).drop C.length)):=ya
   generalize upd G q (HO.lst ((nmL t).drop C.length))=G1 at S1 e1 ⊢
   have ak:∀ S F,Go (StO N W f j U2) G1 F (StO N W f j S)->uk K a G N ds ll d W O p2 f j lk tp n kd ps mo w P C R U2->F q=some (HO.lst ((nmL t).drop C.length)):=fun S F g hG=>g.fr _ _ e1 fun w=>by
    obtain ⟨o,e⟩:=hG.lvO q w
    rw [hq0] at e
    cases e
   refine ⟨q,rfl,⟨_,SqL.of e1⟩,yab (K:=K) (a:=q) (xs:=(nmL t).drop C.length) (fun i σ2 F=>∃ (v:Option V) (J:List V) (S:Addr->Prop),σ2=[some (.ref N),some (baV x),some (.ref l),v]/\uk K a F N ds ll d W O p2 f j lk tp n kd ps mo w P (t.take (C.length+i)) J S/\Go (StO N W f j U2) G1 F (StO N W f j S)/\(V.non∈J->V.non∈R)) ?_ ?_ ?_ ?_⟩
   ·rw [Nat.add_zero,<- ag]
    exact ⟨none,R,U2,rfl,hG.same S1,Go.refl,id⟩
   ·rintro i σ2 F _ ⟨v,J,S,rfl,I,g,a1⟩
    exact SqL.of (ak S F g hG)
   ·rintro i z σ2 F hz ⟨v,J,S,rfl,I,g,a1⟩
    have hj:C.length+i < t.length:=by
     rcases Nat.lt_or_ge (C.length+i) t.length with z | z
     ·exact z
     ·rw [List.getElem?_eq_none (by rw [List.length_drop,jp]; omega)] at hz
      cases hz
    obtain ⟨r,Z,e3,e4,e5⟩:=hL.at' M.pz.wf hj
    obtain rfl:z=.str r.nm:=by
     rw [List.getElem?_drop,ya3,List.map_map,List.getElem?_map,List.getElem?_eq_getElem hj,e3] at hz
     cases hz
     rfl
    have a6:=I.me
    have ax:=I.ch.me
    obtain ⟨au,a7⟩:=I.pz.ob r Z
    rfl'
    refine ⟨d,_,rfl,I.pz.get Z,?_⟩
    rfl'
    have ai:=I.pz.sz r Z
    have hb:=I.wm
    have hm:=ysu (L:=t.take (C.length+i)) (w:=w) (fun y hy=>(hL.sz M.pz y (List.mem_of_mem_take hy)).2) hb.2 (by rw [List.length_take]; omega)
    have ah:=I.mo1
    have ay:=yph (n:=n) (kd:=kd) (ps:=ps) (pre:=yda ((t.take (C.length+i)).map (·.2))) (ts:=r.tx) I.n1 I.n6 (ycn _) (by omega)
    refine ⟨W,O,p2,f,j,n,kd,ps,t.take (C.length+i),J,mOf (t.take (C.length+i)),S,r.dl,r.nm,r.tx,[],mo,rfl,I.ch,by rw [List.length_take]; omega,ai.1,?_,fun w=>I.nw r.dl (.inr (.inr (.inr ⟨r,Z,.inr rfl⟩))) (.inr (.inr (.inr w))),(fun b hb=>by cases hb),by rw [List.append_nil]; omega,by omega,ah,by omega,fun q3 U4 F2 a0 g2=>?_⟩
    ·rw [List.append_nil,<- e4]
     exact a7
    rw [<- yit,<- e3,<- List.take_succ_eq_append_getElem hj] at a0
    obtain ⟨h4,g4⟩:=I.go a0 g2 ⟨_,e5⟩
    rfl'
    exact ⟨_,_,U4,rfl,h4,g.trans g4,fun z=>a1 ((List.mem_append.mp z).elim id fun y=>by cases List.mem_singleton.mp y)⟩
   ·rintro σ2 F ⟨v,J,S,rfl,I,g,a1⟩
    rw [List.length_drop,jp,Nat.add_sub_cancel' al,List.take_length] at I
    have a6:=I.me
    rfl'
    exact k W O p2 f j J S F I (go.trans (g.ahead S1)) fun z=>an (a1 z)
theorem ya5.lvW {K:W.Frag} {a:Ads} {H:Hp} {c dc p ll tl:Addr} {n:Nat} {kd:Nat->Fin 3} {ps:Nat->List Int} {L:List (Str × List Int)} {ks:List V} {M:Nat} {W:Addr->Prop} (h:ya5 K a H c dc p ll tl n kd ps L ks M W):∀ x,StW c ll tl W x->∃ o,H x=some o:=fun x b=>by
 rcases b with z | z | z | z
 ·exact ⟨_,by rw [z]; exact h.me⟩
 ·exact ⟨_,by rw [z]; exact h.hl⟩
 ·exact ⟨_,by rw [z]; exact h.ht⟩
 ·exact h.fz.live x z
theorem ya5.butM {K:W.Frag} {a:Ads} {H H':Hp} {c dc p ll tl:Addr} {n:Nat} {kd:Nat->Fin 3} {ps:Nat->List Int} {L:List (Str × List Int)} {ks:List V} {M:Nat} {W:Addr->Prop} (h:ya5 K a H c dc p ll tl n kd ps L ks M W) {q:Addr} {o:HO} (hq:H q=some o) (ho:yqo o=true) (nq:¬ StW c ll tl W q) (B:But q H H'):ya5 K a H' c dc p ll tl n kd ps L ks M W:=by
 have b:∀ {x:Addr} {d:List V},H x=some (.lst d)->x≠q:=fun {x d} e z=>by rw [z,hq] at e; cases e; cases ho
 exact ⟨B _ _ h.me fun z=>nq (.inl z.symm),h.fz.frame (W2:=fun x=>x=q) (fun x z=>⟨o,by rw [show x=q from z]; exact hq,.inl ho⟩) (fun x w z=>nq (.inr (.inr (.inr (by rw [<- show x=q from z]; exact w))))) (fun x o e f=>B x o e f),B _ _ h.hl (b h.hl),B _ _ h.ht (b h.ht),h.tx.mono fun x d e g=>⟨B _ _ e (b e),g⟩,h.nc,h.nll,h.ntl,h.ne⟩
theorem To.more {P:List Pc} {q:Pc} {x:Option Str} {L:List (Str × List Int)} (h:To P x L):To (P++[q]) x L:=by
 cases x with
 | none=>exact h
 | some b =>
  obtain ⟨r,a,e⟩:=h
  exact ⟨r,List.mem_append_left _ a,e⟩
section
variable {K:W.Frag} {a:Ads} {H H1 H2 H3:Hp} {st ds ll d c dc p cl ct:Addr} {lk tp:Nat->Addr} {n:Nat} {kd:Nat->Fin 3} {ps:Nat->List Int} {mo w:Nat} {P:List Pc} {L:List (Str × List Int)} {ks ks':List V} {U U':Addr->Prop}
theorem uk.put (h:uk K a H st ds ll d c dc p cl ct lk tp n kd ps mo w P L ks U) {b:Str} {x:Option Str} {ts:List Int} {r ob od:Addr} (hc:ya5 K a H1 c dc p cl ct n kd ps (L++[(b,ts)]) ks' (mOf L+6 * (dec ts).length) U') (g:Go (ChW cl ct U) H H1 (ChW cl ct U')) (hr0:H r=none) (hr:H1 r=some (.lst ((ybk n kd ps (yda (L.map (·.2))) ts).map V.int))) (hob0:H1 ob=none) (S:y0 H1 H2) (hob:H2 ob=some (.ins a.C_Piece od (zr (baV x) (.ref r))))
  (hL:To P x L) (hL6:L.length <= 60) (hts:Sgs ts) (htz:ts.length <= w) (hb1:nmS b=true) (hb2:PyData.strOk b=true) (hno:∀ q,q∈P->q.nm≠b) (hP:P.length < 60) :
  uk K a (upd H2 d (.dK (pcs (P++[⟨b,x,L,ts,ob,od,r⟩])))) st ds ll d c dc p cl ct lk tp n kd ps mo w (P++[⟨b,x,L,ts,ob,od,r⟩]) (L++[(b,ts)]) ks' U'/\Go (fun y=>y=d\/StO st c cl ct U y) H (upd H2 d (.dK (pcs (P++[⟨b,x,L,ts,ob,od,r⟩])))) (fun y=>y=d\/StO st c cl ct U' y):=by
 have g1:Go (StW c cl ct U) H H1 (StW c cl ct U'):=g.or (Y:=fun x=>x=c)
 have f:∀ x o,H x=some o->(x=st\/x=ll\/x=d\/∃ q,q∈P/\(x=q.ob\/x=q.dl))->H2 x=some o:=fun x o e v=>S _ _ (g1.fr x o e (h.nw x v))
 have k:=f _ _ h.me (.inl rfl)
 have m:=f _ _ h.lo (.inr (.inl rfl))
 have j:=f _ _ h.pz.dk (.inr (.inr (.inl rfl)))
 have s:=g1.apart (fun x v=>h.lv x v) h.nw
 have u:ug H2 n lk kd tp ps:=h.row.fr fun x G e=>S _ _ (g1.fr _ _ e (h.ch.noTup e))
 have C:ya5 K a H2 c dc p cl ct n kd ps (L++[(b,ts)]) ks' (mOf (L++[(b,ts)])) U':=by rw [yit]; exact hc.same S
 have A:¬ StW c cl ct U' ob:=fun z=>by
  obtain ⟨o,e⟩:=hc.lvW ob z
  rw [hob0] at e
  cases e
 have I:¬ StW c cl ct U' r:=fun z=>by
  rcases z with z | z | z | z
  ·rw [z,h.ch.me] at hr0; cases hr0
  ·rw [z,h.ch.hl] at hr0; cases hr0
  ·rw [z,h.ch.ht] at hr0; cases hr0
  ·exact hc.fz.sh.ints hr (yp7 h.n1 h.n6 (ycn _)) z
 refine ⟨⟨yj (fun z=>by rw [z,j] at k; cases k) k,h.n1,h.n6,yj (fun z=>by rw [z,j] at m; cases m) m,u.fr fun x G e=>yj (fun z=>by rw [z,j] at e; cases e) e,⟨ya,fun q i=>?_,?_,fun q i=>?_,fun q i=>?_,?_,fun q i=>?_⟩,C.butM j rfl (s d (.inr (.inr (.inl rfl)))) But.upd,fun y t=>?_,h.mo1,h.wm,⟨some b,_,List.mem_append_right _ (List.mem_singleton.mpr rfl),rfl,rfl⟩⟩,⟨fun y o e F=>?_,fun y z=>?_,fun y o e=>?_⟩⟩
 ·rcases List.mem_append.mp i with z | z
  ·have B:=f _ _ (h.pz.ob q z).1 (.inr (.inr (.inr ⟨q,z,.inl rfl⟩)))
   have l:=f _ _ (h.pz.ob q z).2 (.inr (.inr (.inr ⟨q,z,.inr rfl⟩)))
   exact ⟨yj (fun z=>by rw [z,j] at B; cases B) B,yj (fun z=>by rw [z,j] at l; cases l) l⟩
  ·obtain rfl:=List.mem_singleton.mp z
   have l:=S _ _ hr
   exact ⟨yj (fun z=>by rw [show ob=d from z,j] at hob; cases hob) hob,yj (fun z=>by rw [show r=d from z,j] at l; cases l) l⟩
 ·rw [List.map_append]
  refine List.nodup_append.mpr ⟨h.pz.nd,(by simp),fun y t z E e=>?_⟩
  obtain ⟨q,i,rfl⟩:=List.mem_map.mp t
  rw [List.map_singleton,List.mem_singleton] at E
  exact hno q i (e.trans E)
 ·rcases List.mem_append.mp i with z | z
  ·exact (h.pz.wf q z).more
  ·obtain rfl:=List.mem_singleton.mp z
   exact hL.more
 ·rcases List.mem_append.mp i with z | z
  ·exact h.pz.sz q z
  ·obtain rfl:=List.mem_singleton.mp z
   exact ⟨hts,htz,hL6,fun y t=>hL.sz h.pz y t⟩
 ·rw [List.length_append,List.length_singleton]; omega
 ·rcases List.mem_append.mp i with z | z
  ·exact h.pz.nm q z
  ·obtain rfl:=List.mem_singleton.mp z
   exact ⟨hb1,hb2⟩
 ·rcases t with z | z | z | ⟨q,i,z⟩
  ·exact s y (.inl z)
  ·exact s y (.inr (.inl z))
  ·exact s y (.inr (.inr (.inl z)))
  ·rcases List.mem_append.mp i with D | D
   ·exact s y (.inr (.inr (.inr ⟨q,D,z⟩)))
   ·obtain rfl:=List.mem_singleton.mp D
    rcases z with z | z
    ·rw [z]; exact A
    ·rw [z]; exact I
 ·exact yj (fun z=>F (.inl z)) (S _ _ (g1.fr y o e fun z=>F (.inr (.inr z))))
 ·rcases z with z | z | z
  ·exact .inl (.inl z)
  ·exact .inl (.inr (.inl z))
  ·exact (g1.nw y z).imp (fun z=>.inr (.inr z)) id
 ·obtain ⟨M,J⟩:=g1.lv y o e
  by_cases z:y=d
  ·exact ⟨_,by rw [z]; exact ya⟩
  ·exact ⟨M,yj z (S _ _ J)⟩
end
theorem yn8:yk ["self","name","text","base","signs","data"] ["self","name","text","base"] (yg yk1):=wx (by right)
def yzb (K:W.Frag) (a:Ads):Sp:=fun vs H Q E=>∃ (st ds ll d c dc p cl ct:Addr) (lk tp:Nat->Addr) (n:Nat) (kd:Nat->Fin 3) (ps:Nat->List Int) (mo w:Nat) (P:List Pc) (L:List (Str × List Int)) (ks:List V) (U:Addr->Prop) (b:Str) (x:Option Str) (L':List (Str × List Int)) (tx:Addr) (ts:List Int),vs=[.ref st,.str b,.ref tx,baV x]/\uk K a H st ds ll d c dc p cl ct lk tp n kd ps mo w P L ks U/\nmS b=true/\PyData.strOk b=true/\ye6 H tx ts w/\To P x L'/\(∀ q,q∈P->q.nm≠b)/\P.length < 60/\L'.length <= 60 /\
 ∀ (ob od dl c' dc' p' cl' ct':Addr) (ks':List V) (U':Addr->Prop) (H':Hp),uk K a H' st ds ll d c' dc' p' cl' ct' lk tp n kd ps mo w (P++[⟨b,x,L',ts,ob,od,dl⟩]) (L'++[(b,ts)]) ks' U'->H ob=none->H dl=none->Go (fun y=>y=d\/StO st c cl ct U y) H H' (fun y=>y=d\/StO st c' cl' ct' U' y)->Q .non H'
theorem ysx (T:Txt K mg a):wc P w K mg base (CXe P w) 13 a.f_q69 a.d_q69 ["self","name","text","base"] (yzb K a):=by
 refine T.F_q69.okE yn8 (fun vs H Q E h=>?_) (fun au A am s H vs Q E f h=>?_)
 ·obtain ⟨M,ds,ll,d,c,dc,p,cl,ct,lk,tp,n,kd,ps,mo,w,P,L,ks,U,b,x,Z,tx,ts,rfl,_⟩:=h
  rfl
 ·obtain ⟨M,ds,ll,d,c,dc,p,cl,ct,lk,tp,n,kd,ps,mo,w,P,L,ks,U,b,x,Z,tx,ts,rfl,t,S,ak,q,hL,O,af,ah,k⟩:=h
  have aw:=t.me
  refine yo (yu (vw (ynr T) (f.mono (by decide)) rfl T.y_q65.m T.y_q65.F.kp T.y_q65.B .nil yx (yb (pv 1) ye (yc rfl)))) ?_
  refine yo (yy (i:=4) yn8.nd rfl (Or.inl rfl) (vw (vc6 T) (f.mono (by decide)) rfl T.y_q6.m T.y_q6.F.kp T.y_q6.B .nil yx (yb (pv 2) ye (yc rfl)))) ?_
  refine yo (yu (vw (yzd T) (f.mono (by decide)) rfl T.y_q66.m T.y_q66.F.kp T.y_q66.B .nil yx (yb (pv 3) ye (yc rfl)))) ?_
  refine yo (yu (vt (pv 0) T.cl_Store T.y_q70.m (yzl T) (f.mono (by decide)) T.y_q70.B .nil yx (yb (pv 4) ye (yc rfl)))) ?_
  refine yo (yu (vt (pv 0) T.cl_Store T.y_q71.m (vbe T) (f.mono (by decide)) T.y_q71.B .nil yx (yb (pv 1) (yb (pv 3) ye (yc rfl)) (yc rfl)))) ?_
  refine yo (yy (i:=5) yn8.nd rfl (Or.inl rfl) (xo (vt (pv 0) T.cl_Store T.y_q74.m (yq8 T) (f.mono (by decide)) T.y_q74.B .nil yx (yb (pv 3) ye (yc rfl))) T.cl_Chain T.y_q62.m (yys T) (f.mono (by decide)) T.y_q62.B .nil vj (yb (pv 1) (yb (pv 4) ye (yc rfl)) (yc rfl)))) ?_
  refine ⟨_,(yf (yhz (jt f) (yq (pv 0) rfl) (pv 1) (yh0 T.k_Piece (vaq T) (f.mono (by decide)) rfl T.m_Piece T.y_q67.B .nil vj (yb (pv 3) (yb (pv 5) ye (yc rfl)) (yc rfl))) rfl)),?_⟩
  try dsimp only [vz]
  refine yn (σ':=[some _,some _,some _,some _,none,none]) rfl ?_
  have az:=yey S
  have v:∀ y,x=some y->nmS y=true/\y.length <= 8:=fun y e=>by
   subst e
   obtain ⟨r,f,e,_⟩:=hL
   rw [<- e]
   exact ⟨(t.pz.nm r f).1,yey (t.pz.nm r f).1⟩
  have al:=t.wm
  have ar:=t.mo1
  rfl'
  refine ⟨.str b,"str",rfl,.str b,(fun s e=>by cases e; omega),fun _ H1 S1=>?_,fun z=>by rw [show nmV (.str b)=nmS b from rfl,S] at z; cases z⟩
  have g:=q.same S1
  rfl'
  refine ⟨.ref tx,_,rfl,.lst g.l,.inr ⟨ts.map V.int,yi7 g.l g.s (by have:=g.z; omega),fun W H2 a8 a3 S2=>?_⟩⟩
  rfl'
  have N:∃ nt,xz K H2 (baV x) (.type nt):=by
   cases x with
   | none=>exact ⟨_,.non⟩
   | some y=>exact ⟨_,.str y⟩
  obtain ⟨nt,N⟩:=N
  have an:baV x=.non\/nmV (baV x)=true:=by
   cases x with
   | none=>exact .inl rfl
   | some y=>exact .inr (v y rfl).1
  refine ⟨baV x,nt,rfl,N,(fun s e=>?_),fun _ H3 S3=>?_,fun z1 z2=>absurd an fun z=>z.elim z1 fun z=>by rw [z2] at z; cases z⟩
  ·cases x with
   | none=>cases e
   | some y=>cases e; have:=(v _ rfl).2; omega
  have aa:=S1.trans (S2.trans S3)
  have a6:=t.same aa
  have G:=a6.me
  have C:=S3 _ _ a3
  rfl'
  refine ⟨M,ds,W,_,_,_,mo,_,rfl,G,C,fun _=>?_,fun z=>absurd z fun z=>z (by rw [List.length_map]; have:=q.z; omega)⟩
  rfl'
  refine ⟨M,ds,d,_,_,_,n,kd,ps,w,P,b,x,rfl,G,a6.pz,(fun y e=>⟨(v y e).1,by have:=(v y e).2; omega⟩),(fun ⟨r,f,e⟩=>absurd e (O r f)),fun _=>⟨fun y e ac=>?_,fun L2 h2=>⟨fun z=>absurd z (by omega),fun _ H4 S4=>?_⟩⟩⟩
  ·subst e
   obtain ⟨r,f,e,_⟩:=hL
   exact absurd e (ac r f)
  have u:=aa.trans S4
  have a4:=t.same u
  have aq:=a4.me
  have D:=S4 _ _ C
  rfl'
  refine ⟨M,ds,ll,d,c,dc,p,cl,ct,lk,tp,n,kd,ps,mo,w,P,L,ks,U,x,Z,rfl,a4,hL,fun c' a1 p' J I ao U' H5 R g5 _=>?_⟩
  have ay:=R.ch.me
  have a7:¬ StO M c cl ct U W:=fun z=>by
   obtain ⟨o,e⟩:=t.lvO W z
   rw [S1.free a8] at e
   cases e
  have a0:=g5.fr _ _ D a7
  have a5:¬ StO M c' J I U' W:=fun z=>(g5.nw W z).elim a7 fun e=>by rw [D] at e; cases e
  have hm:=ysu (L:=Z) (w:=w) (fun y hy=>(hL.sz t.pz y hy).2) al.2 (by omega)
  have av:=uv ts
  have as:=q.z
  rfl'
  refine ⟨c',a1,p',J,I,n,kd,ps,Z,ao,mOf Z,U',W,b,ts,rfl,R.ch,by omega,⟨a0,q.s,by omega⟩,fun z=>a5 (.inr (.inr (.inr (.inr z)))),by omega,fun r U6 H6 a2 ag ae g6=>?_⟩
  have ad:=g6.fr _ _ R.me fun z=>R.nw M (.inl rfl) (.inr z)
  have ai:=g6.fr _ _ R.pz.dk fun z=>R.nw d (.inr (.inr (.inl rfl))) (.inr z)
  rfl'
  intro X od j a9 ax
  have SQ:y0 H6 (upd (upd H6 od (.own X)) X (.ins a.C_Piece od [])):=fun b o e=>by rw [ym (yd e j),ym (yd e a9)]; exact e
  refine ⟨X,od,baV x,.ref r,rfl,ya,fun H7 ab B7=>⟨rfl,?_⟩⟩
  have S7:y0 H6 H7:=fun y o e=>B7 _ _ (SQ _ _ e) (yd e j)
  have ap:=S7 _ _ ad
  rfl'
  refine ⟨d,_,rfl,yok.k (k:=.inr b) (S7 _ _ ai) (vx (by unfold pcs; rw [List.length_map]; omega)),?_⟩
  rw [ybr _ (yq2 O)]
  obtain ⟨z1,z2⟩:=R.put (x:=x) ae g6 a2 ag j S7 ab hL ah q.s q.z S ak O af
  have e8:pcs (P++[⟨b,x,Z,ts,X,od,r⟩])=pcs P++[(.inr b,.ref X)]:=by unfold pcs; rw [List.map_append]; rfl
  rw [e8] at z1 z2
  have aj:∀ {y:Addr},H6 y=none->H y=none:=fun {y} e=>u.free (g5.free (g6.free e))
  exact k X od r c' a1 p' J I _ U6 _ z1 (aj j) (u.free (g5.free a2)) (((g5.ahead u).or (Y:=fun y=>y=d)).trans z2)
theorem yia.get {H:Hp} {U:Addr->Prop}:∀ {L:List (Str × List Int)} {ks:List V},yia H U L ks->∀ {j:Nat} (hj:j < L.length),∃ k,ks[j]?=some k/\(k=.non\/∃ q,k=.ref q/\H q=some (.lst (L[j].2.map V.int))/\¬ U q)
 | [],_,_,j,hj=>absurd hj (Nat.not_lt_zero j)
 | x :: r,_,⟨k,ks',e,z,h⟩,0,hj=>⟨k,by rw [e]; rfl,z⟩
 | x :: r,_,⟨k,ks',e,z,h⟩,j+1,hj=>by
  obtain ⟨b,a,c⟩:=h.get (Nat.lt_of_succ_lt_succ hj)
  exact ⟨b,by rw [e,List.getElem?_cons_succ]; exact a,c⟩
theorem yr1:yk ["self","name","links"] ["self","name"] (yg ywl):=wx (by right)
def txi (L:List (Str × List Int)) (i:Nat):List Int:=(L.map (·.2)).getD i []
def ykv (K:W.Frag) (a:Ads):Sp:=fun vs H Q _=>∃ (st ds ll d c dc p cl ct:Addr) (lk tp:Nat->Addr) (n:Nat) (kd:Nat->Fin 3) (ps:Nat->List Int) (mo w:Nat) (P:List Pc) (L:List (Str × List Int)) (ks:List V) (U:Addr->Prop) (x:Option Str) (L':List (Str × List Int)),vs=[.ref st,baV x]/\uk K a H st ds ll d c dc p cl ct lk tp n kd ps mo w P L ks U/\To P x L' /\
 ∀ (c' dc' p' cl' ct':Addr) (L2:List (Str × List Int)) (ks':List V) (U':Addr->Prop) (r:Addr) (cx:Nat->Addr) (H1 H':Hp),uk K a H1 st ds ll d c' dc' p' cl' ct' lk tp n kd ps mo w P L2 ks' U'->Go (StO st c cl ct U) H H1 (StO st c' cl' ct' U')->y0 H1 H'->H1 r=none->H' r=some (.lst (refs cx L'.length))->(∀ i,i < L'.length->H1 (cx i)=none/\cx i≠r/\H' (cx i)=some (.lst ((txi L' i).map V.int)))->Q (.ref r) H'
theorem yr0 (T:Txt K mg a):wc P w K mg base (CXe P w) 13 a.f_q75 a.d_q75 ["self","name"] (ykv K a):=by
 refine T.y_q75.F.okE yr1 (fun vs H Q E h=>?_) (fun aD A aq s H vs Q E hr h=>?_)
 ·obtain ⟨N,ds,ll,d,c,dc,p,cl,ct,lk,tp,n,kd,ps,mo,w,P,L,ks,U,x,f,rfl,_⟩:=h
  rfl
 ·obtain ⟨N,ds,ll,d,c,dc,p,cl,ct,lk,tp,n,kd,ps,mo,w,P,L,ks,U,x,f,rfl,O,hL,k⟩:=h
  have aj:=O.me
  refine yo (yy (i:=2) yr1.nd rfl (Or.inl rfl) (xo (pv 0) T.cl_Store T.y_q73.m (yr2 T) (hr.mono (by decide)) T.y_q73.B .nil vj (yb (pv 1) ye (yc rfl)))) ?_
  refine yo (ut (ww (y8 (vbl hr.units) yaj (xn u9 (yq (yq (pv 0) rfl) rfl) x5 (x3 (yt yz rfl T.z_len (by right) (yb (pv 2) ye (yc rfl))))) (by with_unfolding_all rfl)) (yf (y9 (pv 0) (u7 T.k_Chain (yjk T) (hr.mono (by decide)) rfl T.m_Chain T.y_q60.B .nil yx (yb (yq (pv 0) rfl) ye (yc rfl))) rfl)) vk)) ?_
  refine yo (ut (ww (y8 (yjo hr.units) (xn u9 (yq (yq (pv 0) rfl) rfl) x5 (x3 (yt yz rfl T.z_len (by right) (yb (pv 2) ye (yc rfl))))) (pv 2) (vg _)) (yf (yu (vt (pv 0) T.cl_Store T.y_q74.m (yq8 T) (hr.mono (by decide)) T.y_q74.B .nil yx (yb (pv 1) ye (yc rfl))))) vk)) ?_
  refine ⟨_,(yf (y7 (w9 (js:=[]) (ys:=[]) rfl (xx (xn u9 (yq (yq (pv 0) rfl) rfl) x5 (x3 (yt yz rfl T.z_len (by right) (yb (pv 2) ye (yc rfl)))))) (fun C s2 H2 fp=>(xt (r:=yue K) xq rfl T.z_list (by right) (yb (pv 0) ye (yc rfl)))) rfl rfl (hyc:=vd) (hrel:=vd)))),?_⟩
  try dsimp only [vz]
  refine yn (σ':=[some _,some _,none]) rfl ?_
  rfl'
  refine ⟨N,ds,d,_,_,_,n,kd,ps,w,P,x,f,rfl,aj,O.pz,hL,fun l H1 ar af S1=>?_⟩
  have ax:=S1 _ _ aj
  have a7:=O.same S1
  have aH:=a7.ch.me
  have aA:=a7.ch.hl
  have ag:=a7.ch.ht
  have ay:=To.len O.pz hL
  refine ⟨fun σ2 G=>∃ (c2 Z p2 I M:Addr) (W:List V) (U2:Addr->Prop) (L2:List (Str × List Int)),σ2=[some (.ref N),some (baV x),some (.ref l)]/\uk K a G N ds ll d c2 Z p2 I M lk tp n kd ps mo w P L2 W U2/\Go (StO N c cl ct U) H G (StO N c2 I M U2)/\V.non∉W.take f.length/\G l=some (.lst (nmL f))/\¬ StO N c2 I M U2 l,?_,?_⟩
  ·rfl'
   refine zw (SqL.of af) ?_
   rfl'
   refine ye5 (SqL.of ag) fun q hq0=>?_
   rw [jp,u8]
   with_reducible first | refine yw hq0 fun H2 S2 e2=>?_ | refine ve hq0 fun H2 S2 e2=>?_
   have a0:=S1.trans S2
   have v:=O.same a0
   have R:=v.me
   have t:=S2 _ _ af
   refine ⟨q,_,rfl,rfl,SqL.of e2,fun z hz=>(O.ch.tx.mem z (List.mem_of_mem_take hz)).imp id fun ⟨q,ys,e,hq,_⟩=>⟨q,ys,e,SqL.of (a0 _ _ hq)⟩,?_⟩
   by_cases he:(ks.take f.length).any isN=true
   ·rw [he]
    refine ⟨true,rfl,ygr ?_⟩
    rfl'
    intro c' J nc ah aG
    have SQ:y0 H2 (upd (upd H2 J (.own c')) c' (.ins a.C_Chain J [])):=fun b o e=>by rw [ym (yd e nc),ym (yd e ah)]; exact e
    refine ⟨c',J,ll,n,lk,tp,kd,ps,rfl,ya,SQ _ _ v.lo,v.n1,v.n6,v.row.same SQ,fun p' a6 a4 U' HE an a9 BE=>⟨rfl,?_⟩⟩
    obtain ⟨hR,gR,SE,hN⟩:=v.re nc ah an a9 BE
    have az:=SE _ _ R
    have ai:l≠N:=fun z=>by rw [z,R] at t; cases t
    rfl'
    refine ⟨c',J,p',a6,a4,[],U',[],rfl,hR,gR.ahead a0,by simp,yj ai (SE _ _ t),fun z=>?_⟩
    rcases z with z | z
    ·exact ai z
    ·rw [hN l z] at t; cases t
   ·rw [Bool.eq_false_iff.mpr he]
    refine ⟨false,rfl,yfa ?_⟩
    refine ⟨c,dc,p,cl,ct,ks,U,L,rfl,v,Go.refl.same a0,fun z=>he (List.any_eq_true.mpr ⟨_,z,rfl⟩),t,fun z=>?_⟩
    obtain ⟨o,e⟩:=O.lvO l z
    rw [ar] at e
    cases e
  ·rintro σ2 G ⟨c2,Z,p2,I,M,W,U2,L2,rfl,hG,go,ak,aa,ao⟩
   have aw:=hG.me
   have aC:=hG.ch.me
   have al:=hG.ch.hl
   refine ⟨fun σ2 F=>∃ (c3 a3 p3 Y X:Addr) (g:List V) (U3:Addr->Prop) (L3:List (Str × List Int)),σ2=[some (.ref N),some (baV x),some (.ref l)]/\uk K a F N ds ll d c3 a3 p3 Y X lk tp n kd ps mo w P L3 g U3/\Go (StO N c cl ct U) H F (StO N c3 Y X U3)/\V.non∉g.take f.length/\f=L3.take f.length/\F l=some (.lst (nmL f)),?_,?_⟩
   ·rfl'
    refine zw (SqL.of aa) ?_
    rfl'
    refine ye5 (SqL.of al) fun q hq0=>?_
    rw [jp,u8,ybv]
    with_reducible first | refine yw hq0 fun G2 S2 e2=>?_ | refine ve hq0 fun G2 S2 e2=>?_
    have a5:=hG.same S2
    have R:=a5.me
    have t:=S2 _ _ aa
    obtain ⟨y,hy⟩:=hG.way
    have a2:=t
    rw [ya3] at e2 a2
    rfl'
    refine ysg _ _ (fun z hz=>hy.ok O.pz z (by obtain ⟨u,hu,rfl⟩:=List.mem_map.mp hz; exact List.mem_map.mpr ⟨u,List.mem_of_mem_take hu,rfl⟩)) (hL.ok O.pz) (SqL.of e2) (SqL.of a2) ?_
    by_cases he:(L2.take f.length).map (·.1)=f.map (·.1)
    ·rw [decide_eq_true he]
     refine ⟨false,rfl,yfa ?_⟩
     exact ⟨c2,Z,p2,I,M,W,U2,L2,rfl,a5,go.same S2,ak,To.ahead O.pz.nd O.pz.wf hL hy (by rw [ybv]; exact (yqw he).symm),t⟩
    ·rw [decide_eq_false he]
     refine ⟨true,rfl,ygr ?_⟩
     rfl'
     refine ⟨N,ds,ll,d,c2,Z,p2,I,M,lk,tp,n,kd,ps,mo,w,P,L2,W,U2,x,f,rfl,a5,hL,fun c' J p' a6 a4 au U' F hC gC hn=>?_⟩
     rfl'
     exact ⟨c',J,p',a6,a4,au,U',f,rfl,hC,(go.same S2).trans gC,fun z=>ak (hn (List.mem_of_mem_take z)),(List.take_length).symm,gC.fr _ _ t ao⟩
   ·rintro σ2 F ⟨c3,a3,p3,Y,X,g,U3,L3,rfl,hF,as,ac,ae,ap⟩
    have av:=hF.me
    have aE:=hF.ch.me
    have ad:=hF.ch.ht
    have aB:f.length <= L3.length:=by
     have e:=congrArg List.length ae
     rw [List.length_take] at e
     omega
    rfl'
    refine zw (SqL.of ap) ?_
    rfl'
    refine ye5 (SqL.of ad) fun q hq0=>?_
    rw [jp,u8]
    have S1:=vv (o:=(HO.lst (g.take f.length))) hq0
    have e1:upd F q (HO.lst (g.take f.length)) q=some (HO.lst (g.take f.length)):=ya
    generalize upd F q (HO.lst (g.take f.length))=F1 at S1 e1 ⊢
    have aF:=hF.ch.tx.len
    have a1:(g.take f.length).length=f.length:=by rw [List.length_take]; omega
    have a8:=hF.same S1
    refine ⟨q,rfl,⟨_,SqL.of e1⟩,fun D hD=>?_⟩
    refine zk (K:=K) (xs:=g.take f.length) (fun i G=>∃ cx:Nat->Addr,G D=some (.lst (refs cx i))/\(∀ j,j < i->F1 (cx j)=none/\G (cx j)=some (.lst ((txi f j).map V.int))/\cx j≠D)/\y0 F1 G)
     ⟨fun _=>0,ya,fun j hj=>absurd hj (Nat.not_lt_zero j),vv hD⟩ (fun i G _ ⟨_,_,_,S⟩=>SqL.of (S _ _ e1)) (fun i y G hy hi z=>?_) (fun G z=>?_)
    ·obtain ⟨cx,gD,gC,S⟩:=z
     rw [a1] at hi
     obtain ⟨k',ek,hk⟩:=a8.ch.tx.get (j:=i) (by omega)
     rw [List.getElem?_take,if_pos hi,ek] at hy
     obtain rfl:k'=y:=by cases hy; rfl
     rcases hk with z | ⟨q2,rfl,am,_⟩
     ·refine absurd ?_ ac
      rw [<- z]
      exact List.mem_of_getElem? (i:=i) (by rw [List.getElem?_take,if_pos hi]; exact ek)
     have et:L3[i].2=txi f i:=by
      have e:=congrArg (fun l=>l[i]?) ae
      simp only [List.getElem?_take] at e
      rw [if_pos hi] at e
      unfold txi
      rw [List.getD_eq_getElem?_getD,List.getElem?_map,e,List.getElem?_eq_getElem (by omega)]
      rfl
     rw [et] at am
     rfl'
     refine ⟨q2,_,rfl,.inl (SqL.of (S _ _ am)),fun c hc0=>?_⟩
     have nc:c≠D:=(yd gD hc0).symm
     with_reducible first | refine yw hc0 fun G2 S2 hc2=>?_ | refine ve hc0 fun G2 S2 hc2=>?_
     refine ua (n:=(g.take f.length).length) (S2 _ _ gD) (vx (by rw [wa]; omega)) (by omega) ?_
     refine ⟨upN cx i c,?_,fun j hj=>?_,fun b o e=>yj (yd e hD) (S2 _ _ (S b o e))⟩
     ·rw [ya,u4,xg]
      congr 3
      exact uz fun j hj=>(xb hj).symm
     ·by_cases z:j=i
      ·rw [z,xg]
       exact ⟨S.free hc0,yj nc hc2,nc⟩
      ·have ab:j < i:=by omega
       rw [xb ab]
       obtain ⟨g1,g2,g3⟩:=gC j ab
       exact ⟨g1,yj g3 (S2 _ _ g2),g3⟩
    ·obtain ⟨cx,gD,gC,S⟩:=z
     rw [a1] at gD gC
     exact k c3 a3 p3 Y X L3 g U3 D cx F1 G a8 (as.same S1) S hD gD fun i hi=>⟨(gC i hi).1,(gC i hi).2.2,(gC i hi).2.1⟩
theorem ifI {tc:TT} {ts te:TS} {D:ye7} {σ:St} {H:Hp} (C:Prop) (h:∀ Qb:Bool->Hp->Prop,(C->Qb true H)->Qb false H->tc σ H Qb) (hT:C->ts D σ H) (hF:te D σ H):vft tc ts te D σ H :=
 h _ (fun c=>by show (if true=true then _ else _); rw [if_pos rfl]; exact hT c) (by show (if false=true then _ else _); rw [if_neg (by decide)]; exact hF)
def Kp (H:Hp) (W:Addr->Prop) (x:Addr) (o:HO):Prop:=H x=some o/\¬ W x
theorem Kp.go {H H':Hp} {W W':Addr->Prop} {x:Addr} {o:HO} (h:Kp H W x o) (g:Go W H H' W'):Kp H' W' x o:=⟨g.fr _ _ h.1 h.2,fun w=>(g.nw x w).elim h.2 fun e=>by rw [h.1] at e; cases e⟩
theorem Kp.same {H H':Hp} {W:Addr->Prop} {x:Addr} {o:HO} (h:Kp H W x o) (S:y0 H H'):Kp H' W x o:=⟨S _ _ h.1,h.2⟩
theorem Kp.new {H H':Hp} {W:Addr->Prop} {x:Addr} {o:HO} (lv:∀ x,W x->∃ o,H x=some o) (hx:H x=none) (e:H' x=some o):Kp H' W x o:=⟨e,fun w=>by
 obtain ⟨b,a⟩:=lv x w
 rw [hx] at a
 cases a⟩
theorem Kp.oth {H H':Hp} {W:Addr->Prop} {x y:Addr} {o:HO} (h:Kp H W x o) (ne:x≠y) (B:But y H H'):Kp H' W x o:=⟨B _ _ h.1 ne,h.2⟩
def TxR (H:Hp) (W:Addr->Prop) (pa:List (Str × List Int)) (ln:Addr) (cx:Nat->Addr):Prop:=Kp H W ln (.lst (refs cx pa.length))/\∀ i,i < pa.length->Kp H W (cx i) (.lst ((txi pa i).map V.int))
def MdQ (H:Hp) (W:Addr->Prop) (pa:List (Str × List Int)) (t:List Int) (v:V):Prop:=∃ (tu ln tx:Addr) (cx:Nat->Addr),v=.ref tu/\Kp H W tu (.tup [.ref ln,.ref tx])/\TxR H W pa ln cx/\Kp H W tx (.lst (t.map V.int))
def MdV (H:Hp) (W:Addr->Prop) (kvs:List (Key × V)) (P:List Pc):Prop:=kvs.map (·.1)=P.map (fun q=>(.inr q.nm:Key))/\∀ q,q∈P->∃ v,zd kvs (.inr q.nm)=some v/\MdQ H W q.path q.tx v
theorem TxR.mv {H H':Hp} {W W':Addr->Prop} {pa:List (Str × List Int)} {ln:Addr} {cx:Nat->Addr} (f:∀ x o,yqo o=false->Kp H W x o->Kp H' W' x o) (h:TxR H W pa ln cx):TxR H' W' pa ln cx:=⟨f _ _ rfl h.1,fun i a=>f _ _ rfl (h.2 i a)⟩
theorem MdQ.mv {H H':Hp} {W W':Addr->Prop} {pa:List (Str × List Int)} {t:List Int} {v:V} (f:∀ x o,yqo o=false->Kp H W x o->Kp H' W' x o) (h:MdQ H W pa t v):MdQ H' W' pa t v:=by
 obtain ⟨b,a,g,c,e,i,j,d⟩:=h
 exact ⟨b,a,g,c,e,f _ _ rfl i,j.mv f,f _ _ rfl d⟩
theorem MdV.mv {H H':Hp} {W W':Addr->Prop} {kvs:List (Key × V)} {P:List Pc} (f:∀ x o,yqo o=false->Kp H W x o->Kp H' W' x o) (h:MdV H W kvs P):MdV H' W' kvs P :=
 ⟨h.1,fun q a=>let ⟨v,e,g⟩:=h.2 q a; ⟨v,e,g.mv f⟩⟩
theorem TxR.sd {K:W.Frag} {H:Hp} {W:Addr->Prop} {pa:List (Str × List Int)} {ln:Addr} {cx:Nat->Addr} (h:TxR H W pa ln cx):Sd K H (.ref ln) (.list ((List.range pa.length).map fun i=>.list ((txi pa i).map PyData.int))) 2 :=
 Sd.lst (SqL.of h.1.1) (Sds.refs _ fun i a=>Sd.lst (SqL.of (h.2 i a).1) (Sds.ints _))
theorem ym2 {pa:List (Str × List Int)} {x:Str × List Int} {i:Nat}:txi (pa++[x]) i=if i < pa.length then txi pa i else if i=pa.length then x.2 else []:=by
 unfold txi
 rw [List.map_append,List.getD_eq_getElem?_getD,List.getD_eq_getElem?_getD]
 by_cases h:i < pa.length
 ·rw [if_pos h,List.getElem?_append_left (by rw [List.length_map]; exact h)]
 ·rw [if_neg h,List.getElem?_append_right (by rw [List.length_map]; omega),List.length_map]
  by_cases e:i=pa.length
  ·rw [if_pos e,e,Nat.sub_self]; rfl
  ·rw [if_neg e]
   obtain ⟨k,a⟩:∃ k,i - pa.length=k+1:=⟨i - pa.length - 1,by omega⟩
   rw [a]; rfl
theorem TxR.snoc {H H':Hp} {W:Addr->Prop} {pa:List (Str × List Int)} {ln tx ln2:Addr} {cx:Nat->Addr} {x:Str × List Int} (h:TxR H W pa ln cx) (hx:Kp H W tx (.lst (x.2.map V.int))) (S:y0 H H') (h2:Kp H' W ln2 (.lst (refs cx pa.length++[.ref tx]))):TxR H' W (pa++[x]) ln2 (upN cx pa.length tx):=by
 refine ⟨?_,fun i c=>?_⟩
 ·rw [List.length_append,List.length_singleton,u4,xg]
  rw [uz fun j b=>(xb (g:=cx) (x:=tx) b).symm] at h2
  exact h2
 ·rw [List.length_append,List.length_singleton] at c
  by_cases e:i < pa.length
  ·rw [xb e,ym2,if_pos e]
   exact (h.2 i e).same S
  ·have a:i=pa.length:=by omega
   rw [a,xg,ym2,if_neg (Nat.lt_irrefl _),if_pos rfl]
   exact hx.same S
def WD (d st c cl ct:Addr) (U:Addr->Prop):Addr->Prop:=fun y=>y=d\/StO st c cl ct U y
section
variable {K:W.Frag} {a:Ads} {B H H':Hp} {st ds ll d c dc p cl ct:Addr} {lk tp:Nat->Addr} {n:Nat} {kd:Nat->Fin 3} {ps:Nat->List Int} {mo w:Nat} {P P':List Pc} {L:List (Str × List Int)} {ks:List V} {U:Addr->Prop} {kvs:List (Key × V)}
theorem uk.lvd (h:uk K a H st ds ll d c dc p cl ct lk tp n kd ps mo w P L ks U):∀ x,WD d st c cl ct U x->∃ o,H x=some o:=fun x b=>by
 rcases b with z | z
 ·exact ⟨_,by rw [z]; exact h.pz.dk⟩
 ·exact h.lvO x z
theorem uk.oth (h:uk K a H st ds ll d c dc p cl ct lk tp n kd ps mo w P L ks U) {x:Addr} {o:HO} (hx:H x=some o) (ho:yqo o=true) (hi:∀ C dx fs,o≠.ins C dx fs) (nx:¬ WD d st c cl ct U x) (B:But x H H'):uk K a H' st ds ll d c dc p cl ct lk tp n kd ps mo w P L ks U:=by
 have g:∀ {y:Addr} {b:List V},H y=some (.lst b)->y≠x:=fun {y b} e z=>by rw [z,hx] at e; cases e; cases ho
 refine ⟨B _ _ h.me fun z=>nx (.inr (.inl z.symm)),h.n1,h.n6,B _ _ h.lo (g h.lo),h.row.fr fun y b e=>B _ _ e (fun z=>by rw [z,hx] at e; cases e; cases ho),h.pz.fr fun y j e i=>B _ _ e fun z=>?_,h.ch.butM hx ho (fun z=>nx (.inr (.inr z))) B,h.nw,h.mo1,h.wm,h.way⟩
 subst z
 rcases i with z | ⟨q,f,z | z⟩
 ·exact nx (.inl z)
 ·have e:=(h.pz.ob q f).1
  rw [<- z,hx] at e
  cases e
  exact hi _ _ _ rfl
 ·exact g (h.pz.ob q f).2 z.symm
structure Ph (K:W.Frag) (a:Ads) (B H:Hp) (st ds ll d c dc p cl ct:Addr) (lk tp:Nat->Addr) (n:Nat) (kd:Nat->Fin 3) (ps:Nat->List Int) (mo w:Nat) (P:List Pc) (L:List (Str × List Int)) (ks:List V) (U:Addr->Prop) (kvs:List (Key × V)):Prop where
 s:uk K a H st ds ll d c dc p cl ct lk tp n kd ps mo w P L ks U
 v:MdV H (WD d st c cl ct U) kvs P
 bs:y0 B H
 nb:∀ x,WD d st c cl ct U x->B x=none
theorem Ph.same (h:Ph K a B H st ds ll d c dc p cl ct lk tp n kd ps mo w P L ks U kvs) (S:y0 H H'):Ph K a B H' st ds ll d c dc p cl ct lk tp n kd ps mo w P L ks U kvs :=
 ⟨h.s.same S,h.v.mv fun _ _ _ k=>k.same S,h.bs.trans S,h.nb⟩
theorem Go.wd {c' cl' ct':Addr} {U':Addr->Prop} (g:Go (StO st c cl ct U) H H' (StO st c' cl' ct' U')):Go (WD d st c cl ct U) H H' (WD d st c' cl' ct' U'):=g.or (Y:=fun y=>y=d)
theorem Ph.go (h:Ph K a B H st ds ll d c dc p cl ct lk tp n kd ps mo w P L ks U kvs) {c' dc' p' cl' ct':Addr} {L':List (Str × List Int)} {ks':List V} {U':Addr->Prop} (hs:uk K a H' st ds ll d c' dc' p' cl' ct' lk tp n kd ps mo w P L' ks' U') (g:Go (WD d st c cl ct U) H H' (WD d st c' cl' ct' U')):Ph K a B H' st ds ll d c' dc' p' cl' ct' lk tp n kd ps mo w P L' ks' U' kvs :=
 ⟨hs,h.v.mv fun _ _ _ k=>k.go g,(g.bs h.bs h.nb).1,(g.bs h.bs h.nb).2⟩
theorem Ph.oth (h:Ph K a B H st ds ll d c dc p cl ct lk tp n kd ps mo w P L ks U kvs) {x:Addr} {o:HO} (hx:Kp H (WD d st c cl ct U) x o) (ho:yqo o=true) (hi:∀ C dx fs,o≠.ins C dx fs) (nB:B x=none) (b:But x H H'):Ph K a B H' st ds ll d c dc p cl ct lk tp n kd ps mo w P L ks U kvs :=
 ⟨h.s.oth hx.1 ho hi hx.2 b,h.v.mv fun y g f k=>k.oth (fun z=>by have e:=k.1; rw [z,hx.1] at e; cases e; rw [ho] at f; cases f) b,fun y o e=>b _ _ (h.bs _ _ e) (yd e nB),h.nb⟩
theorem yz8 {pa:List (Str × List Int)} {w:Nat} (h:∀ y,y∈pa->y.2.length <= w) (i:Nat):(txi pa i).length <= w:=by
 unfold txi
 rw [List.getD_eq_getElem?_getD,List.getElem?_map]
 cases e:pa[i]? with
 | none=>exact Nat.zero_le _
 | some y=>exact h y (List.mem_of_getElem? e)
end
theorem ynt {P:List Pc} {ns:List Str} {i j:Nat} {b:Str} (h:P.map (·.nm)=ns.take i) (hj:j < i) (hb:ns[j]?=some b):∃ r,r∈P/\r.nm=b:=by
 have e:b∈P.map (·.nm):=by
  rw [h]
  exact List.mem_of_getElem? (i:=j) (by rw [List.getElem?_take,if_pos hj]; exact hb)
 obtain ⟨r,a,e⟩:=List.mem_map.mp e
 exact ⟨r,a,e⟩
theorem yn4 {ns:List Str} (h:ns.Nodup) {i j:Nat} {hi:i < ns.length} {hj:j < ns.length} (e:ns[i]=ns[j]):i=j:=by
 have a:=List.pairwise_iff_getElem.mp h
 rcases Nat.lt_trichotomy i j with z | z | z
 ·exact absurd e (a i j hi hj z)
 ·exact z
 ·exact absurd e.symm (a j i hj hi z)
theorem ytn {P:List Pc} {ns:List Str} {i:Nat} (hnd:ns.Nodup) (h:P.map (·.nm)=ns.take i) (hi:i < ns.length):P.length=i/\∀ q,q∈P->q.nm≠ns[i]:=by
 refine ⟨?_,fun q d e=>?_⟩
 ·have e:=congrArg List.length h
  rw [List.length_map,List.length_take] at e
  omega
 ·have b:q.nm∈ns.take i:=by rw [<- h]; exact List.mem_map.mpr ⟨q,d,rfl⟩
  obtain ⟨j,c,a⟩:=List.mem_iff_getElem.mp b
  rw [List.getElem_take] at a
  rw [List.length_take] at c
  have:=yn4 hnd (a.trans e)
  omega
section
variable {K:W.Frag} {a:Ads} {B H H1 H2:Hp} {st ds ll d c dc p cl ct c' dc' p' cl' ct':Addr} {lk tp:Nat->Addr} {n:Nat} {kd:Nat->Fin 3} {ps:Nat->List Int} {mo w:Nat} {P P':List Pc} {L L2:List (Str × List Int)} {ks ks':List V} {U U':Addr->Prop} {kvs:List (Key × V)}
theorem Ph.put (h:Ph K a B H st ds ll d c dc p cl ct lk tp n kd ps mo w P L ks U kvs) {md tu ln tx:Addr} {cx:Nat->Addr} {q:Pc} (hs:uk K a H1 st ds ll d c' dc' p' cl' ct' lk tp n kd ps mo w (P++[q]) L2 ks' U') (g:Go (WD d st c cl ct U) H H1 (WD d st c' cl' ct' U')) (hno:∀ r,r∈P->r.nm≠q.nm)
  (hmd:Kp H (WD d st c cl ct U) md (.dK kvs)) (nB:B md=none) (hln:TxR H (WD d st c cl ct U) q.path ln cx) (htx:Kp H (WD d st c cl ct U) tx (.lst (q.tx.map V.int))) (htu0:H1 tu=none) (S:y0 H1 H2) (htu:H2 tu=some (.tup [.ref ln,.ref tx])) :
  H2 md=some (.dK kvs)/\Ph K a B (upd H2 md (.dK (ybw kvs (.inr q.nm) (.ref tu)))) st ds ll d c' dc' p' cl' ct' lk tp n kd ps mo w (P++[q]) L2 ks' U' (ybw kvs (.inr q.nm) (.ref tu))/\Kp (upd H2 md (.dK (ybw kvs (.inr q.nm) (.ref tu)))) (WD d st c' cl' ct' U') md (.dK (ybw kvs (.inr q.nm) (.ref tu))):=by
 have i:=(hmd.go g).same S
 have j:Kp H2 (WD d st c' cl' ct' U') tu (.tup [.ref ln,.ref tx]):=Kp.new hs.lvd htu0 htu
 have b:But md H2 (upd H2 md (.dK (ybw kvs (.inr q.nm) (.ref tu)))):=But.upd
 have f:∀ x o,yqo o=false->Kp H2 (WD d st c' cl' ct' U') x o->Kp (upd H2 md (.dK (ybw kvs (.inr q.nm) (.ref tu)))) (WD d st c' cl' ct' U') x o:=fun x o u k=>k.oth (fun z=>by have e:=k.1; rw [z,i.1] at e; cases e; cases u) b
 obtain ⟨g1,g2⟩:=g.bs h.bs h.nb
 refine ⟨i.1,⟨(hs.same S).oth i.1 rfl (fun _ _ _ z=>nomatch z) i.2 b,⟨?_,fun r l=>?_⟩,fun y o e=>b _ _ (S _ _ (g1 _ _ e)) (yd e nB),g2⟩,⟨ya,i.2⟩⟩
 ·have m:zd kvs (.inr q.nm)=none:=by
   unfold zd
   rw [List.find?_eq_none.mpr fun y A=>?_]
   ·rfl
   ·have s:y.1∈kvs.map (·.1):=List.mem_map.mpr ⟨y,A,rfl⟩
    rw [h.v.1] at s
    obtain ⟨r,l,e⟩:=List.mem_map.mp s
    rw [<- e]
    simpa using hno r l
  rw [ybr _ m,List.map_append,List.map_append,h.v.1]
  rfl
 ·rcases List.mem_append.mp l with z | z
  ·obtain ⟨v,m,t⟩:=h.v.2 r z
   refine ⟨v,?_,((t.mv fun _ _ _ k=>k.go g).mv fun _ _ _ k=>k.same S).mv f⟩
   rw [yad,if_neg (fun e=>hno r z (Sum.inr.inj e))]
   exact m
  ·obtain rfl:=List.mem_singleton.mp z
   exact ⟨_,by rw [yad,if_pos rfl],tu,ln,tx,cx,rfl,f _ _ rfl j,((hln.mv fun _ _ _ k=>k.go g).mv fun _ _ _ k=>k.same S).mv f,f _ _ rfl ((htx.go g).same S)⟩
end
theorem yz1:yk ["self","name"] ["self","name"] (yg yww):=wx (by right)
def yl7 (K:W.Frag) (a:Ads):Sp:=fun vs H Q E=>∃ (st ds ll d c dc p cl ct:Addr) (lk tp:Nat->Addr) (n:Nat) (kd:Nat->Fin 3) (ps:Nat->List Int) (mo w:Nat) (P:List Pc) (L:List (Str × List Int)) (ks:List V) (U:Addr->Prop) (x:V) (nt:String),vs=[.ref st,x]/\uk K a H st ds ll d c dc p cl ct lk tp n kd ps mo w P L ks U/\xz K H x (.type nt)/\(∀ s,x=.str s->s.length <= 100000) /\
 (nmV x=false->∀ H',y0 H H'->E (.ref a.C_NoName) none H')/\(∀ b,x=.str b->nmS b=true->(∀ q,q∈P->q.nm≠b)->∀ H',y0 H H'->E (.ref a.C_NoPiece) none H')/\(∀ r,r∈P->x=.str r.nm ->
 ∀ (c' dc' p' cl' ct':Addr) (L2:List (Str × List Int)) (ks':List V) (U':Addr->Prop) (q:Addr) (H1 H':Hp),uk K a H1 st ds ll d c' dc' p' cl' ct' lk tp n kd ps mo w P L2 ks' U'->Go (StO st c cl ct U) H H1 (StO st c' cl' ct' U')->y0 H1 H'->H1 q=none->H' q=some (.lst (r.tx.map V.int))->Q (.ref q) H')
theorem yyj (T:Txt K mg a):wc P w K mg base (CXe P w) 14 a.f_q76 a.d_q76 ["self","name"] (yl7 K a):=by
 refine T.y_q76.F.okE yz1 (fun vs H Q E h=>?_) (fun a1 A C s H vs Q E R h=>?_)
 ·obtain ⟨z,D,M,d,c,Z,p,J,O,X,I,n,t,q,N,w,P,L,S,U,x,W,rfl,_⟩:=h
  rfl
 ·obtain ⟨z,D,M,d,c,Z,p,J,O,X,I,n,t,q,N,w,P,L,S,U,x,W,rfl,g,ty,hz,k1,k2,k3⟩:=h
  have i:=g.me
  refine ⟨_,(yh (yu (vt (pv 0) T.cl_Store T.y_q72.m (ygf T) (R.mono (by decide)) T.y_q72.B .nil yx (yb (pv 1) ye (yc rfl)))) (yf (y7 (uf x4 (vt (pv 0) T.cl_Store T.y_q75.m (yr0 T) (R.mono (by decide)) T.y_q75.B .nil yx (yb (pv 1) ye (yc rfl))) (vc4 ysh yi) (fun _ _=>rfl))))),?_⟩
  try dsimp only [vz]
  refine yn (σ':=[some _,some _]) rfl ?_
  rfl'
  refine ⟨z,D,d,_,_,_,n,t,q,w,P,x,W,rfl,i,g.pz,ty,hz,k1,k2,fun r b e hb H1 Y=>?_⟩
  subst e
  have f:=g.same Y
  have a0:=f.me
  rfl'
  refine ⟨z,D,M,d,c,Z,p,J,O,X,I,n,t,q,N,w,P,L,S,U,some r.nm,r.path++[(r.nm,r.tx)],rfl,f,⟨r,b,rfl,rfl⟩,fun c' k p' u o L2 y U' l cx HB H2 h2 g2 SB a2 j G=>?_⟩
  rfl'
  obtain ⟨f1,f2,f3⟩:=G r.path.length (by rw [List.length_append,List.length_singleton]; omega)
  refine yal (v:=.ref (cx r.path.length)) (SqL.of j) ?_ ?_
  ·rw [List.length_append,List.length_singleton,u4]
   exact ypx _ _
  ·rfl'
   refine k3 r b rfl c' k p' u o L2 y U' _ HB H2 h2 (g2.ahead Y) SB f1 ?_
   rw [f3]
   unfold txi
   simp
theorem vcu:yk ["self","name"] ["self","name"] (yg yxi):=wx (by right)
def yl2 (K:W.Frag) (a:Ads):Sp:=fun vs H Q E=>∃ (st ds d:Addr) (vl vm vc:V) (n:Nat) (kd:Nat->Fin 3) (ps:Nat->List Int) (w:Nat) (P:List Pc) (x:V) (nt:String),vs=[.ref st,x]/\H st=some (.ins a.C_Store ds (y6 vl vm (.ref d) vc))/\ye8 a H d n kd ps w P/\xz K H x (.type nt)/\(∀ s,x=.str s->s.length <= 100000) /\
 (nmV x=false->∀ H',y0 H H'->E (.ref a.C_NoName) none H')/\(∀ b,x=.str b->nmS b=true->(∀ q,q∈P->q.nm≠b)->∀ H',y0 H H'->E (.ref a.C_NoPiece) none H')/\(∀ r,r∈P->x=.str r.nm->nmS r.nm=true->∀ H',y0 H H'->Q (baV r.bs) H')
theorem vbz (T:Txt K mg a):wc P w K mg base (CXe P w) 4 a.f_q77 a.d_q77 ["self","name"] (yl2 K a):=by
 refine T.y_q77.F.okE vcu (fun L H Q E h=>?_) (fun y A f s H L Q E I h=>?_)
 ·obtain ⟨q,u,d,l,i,g,n,p,j,w,P,x,o,rfl,_⟩:=h
  rfl
 ·obtain ⟨q,u,d,l,i,g,n,p,j,w,P,x,o,rfl,c,k,M,D,C,v,J⟩:=h
  refine ⟨_,(yf (y7 (yq (vt (pv 0) T.cl_Store T.y_q72.m (ygf T) (I.mono (by decide)) T.y_q72.B .nil yx (yb (pv 1) ye (yc rfl))) rfl))),?_⟩
  try dsimp only [vz]
  refine yn (σ':=[some _,some _]) rfl ?_
  rfl'
  refine ⟨q,u,d,l,i,g,n,p,j,w,P,x,o,rfl,c,k,M,D,C,v,fun r b e G N t=>?_⟩
  have z:=((k.same t).ob r b).1
  rfl'
  exact J r b e G _ t
theorem vbj:yk ["self","name"] ["self","name"] (yg yvm):=wx (by right)
def yfe (K:W.Frag) (a:Ads):Sp:=fun vs H Q E=>∃ (st ds ll d c dc p cl ct:Addr) (lk tp:Nat->Addr) (n:Nat) (kd:Nat->Fin 3) (ps:Nat->List Int) (mo w:Nat) (P:List Pc) (L:List (Str × List Int)) (ks:List V) (U:Addr->Prop) (x:V) (nt:String),vs=[.ref st,x]/\uk K a H st ds ll d c dc p cl ct lk tp n kd ps mo w P L ks U/\xz K H x (.type nt)/\(∀ s,x=.str s->s.length <= 100000) /\
 (nmV x=false->∀ H',y0 H H'->E (.ref a.C_NoName) none H')/\(∀ b,x=.str b->nmS b=true->(∀ q,q∈P->q.nm≠b)->∀ H',y0 H H'->E (.ref a.C_NoPiece) none H')/\(∀ r,r∈P->x=.str r.nm ->
 ∀ (c' dc' p' cl' ct':Addr) (L2:List (Str × List Int)) (ks':List V) (U':Addr->Prop) (q:Addr) (cx:Nat->Addr) (H1 H':Hp),uk K a H1 st ds ll d c' dc' p' cl' ct' lk tp n kd ps mo w P L2 ks' U'->Go (StO st c cl ct U) H H1 (StO st c' cl' ct' U')->y0 H1 H'->H1 q=none->H' q=some (.lst (refs cx r.path.length))->(∀ i,i < r.path.length->H1 (cx i)=none/\cx i≠q/\H' (cx i)=some (.lst ((txi r.path i).map V.int)))->Q (.ref q) H')
theorem yrk (T:Txt K mg a):wc P w K mg base (CXe P w) 14 a.f_q78 a.d_q78 ["self","name"] (yfe K a):=by
 refine T.y_q78.F.okE vbj (fun vs H Q E h=>?_) (fun a1 A z s H vs Q E S h=>?_)
 ·obtain ⟨y,C,M,d,c,dc,p,J,R,Y,I,n,t,q,O,w,P,L,W,U,x,X,rfl,_⟩:=h
  rfl
 ·obtain ⟨y,C,M,d,c,dc,p,J,R,Y,I,n,t,q,O,w,P,L,W,U,x,X,rfl,g,ty,hz,k1,k2,k3⟩:=h
  have i:=g.me
  refine ⟨_,(yf (y7 (vt (pv 0) T.cl_Store T.y_q75.m (yr0 T) (S.mono (by decide)) T.y_q75.B .nil yx (yb (yq (vt (pv 0) T.cl_Store T.y_q72.m (ygf T) (S.mono (by decide)) T.y_q72.B .nil yx (yb (pv 1) ye (yc rfl))) rfl) ye (yc rfl))))),?_⟩
  try dsimp only [vz]
  refine yn (σ':=[some _,some _]) rfl ?_
  rfl'
  refine ⟨y,C,d,_,_,_,n,t,q,w,P,x,X,rfl,i,g.pz,ty,hz,k1,k2,fun r f e hb H1 Z=>?_⟩
  subst e
  have b:=g.same Z
  have a0:=b.me
  have N:=(b.pz.ob r f).1
  rfl'
  refine ⟨y,C,M,d,c,dc,p,J,R,Y,I,n,t,q,O,w,P,L,W,U,r.bs,r.path,rfl,b,b.pz.wf r f,fun c' k p' u o L2 v U' l cx HB H2 h2 g2 SB D j G=>?_⟩
  exact k3 r f rfl c' k p' u o L2 v U' l cx HB H2 h2 (g2.ahead Z) SB D j G
theorem vcm (x:Option Str) (b:Str):vgf (baV x) (.str b)=true/\decide (baV x=.str b)=decide (x=some b):=by
 cases x with
 | none=>exact ⟨rfl,by rw [decide_eq_false (fun z=>nomatch z),decide_eq_false (fun z=>nomatch z)]⟩
 | some y =>
  refine ⟨rfl,?_⟩
  by_cases e:y=b
  ·rw [decide_eq_true (by rw [e]; rfl),decide_eq_true (by rw [e])]
  ·rw [decide_eq_false (fun z=>e (by cases z; rfl)),decide_eq_false (fun z=>e (by cases z; rfl))]
theorem va4:yk ["self","name"] ["self","name"] (yg ywj):=wx (by right)
def yum (K:W.Frag) (a:Ads):Sp:=fun vs H Q E=>∃ (st ds ll d c dc p cl ct:Addr) (lk tp:Nat->Addr) (n:Nat) (kd:Nat->Fin 3) (ps:Nat->List Int) (mo w:Nat) (P:List Pc) (L:List (Str × List Int)) (ks:List V) (U:Addr->Prop) (x:V) (nt:String),vs=[.ref st,x]/\uk K a H st ds ll d c dc p cl ct lk tp n kd ps mo w P L ks U/\xz K H x (.type nt)/\(∀ s,x=.str s->s.length <= 100000) /\
 (nmV x=false->∀ H',y0 H H'->E (.ref a.C_NoName) none H')/\(∀ b,x=.str b->nmS b=true->(∀ q,q∈P->q.nm≠b)->∀ H',y0 H H'->E (.ref a.C_NoPiece) none H')/\(∀ r,r∈P->x=.str r.nm->(∃ q,q∈P/\q.bs=some r.nm)->∀ H',y0 H H'->E (.ref a.C_InUse) none H')/\(∀ r,r∈P->x=.str r.nm->(∀ q,q∈P->q.bs≠some r.nm) ->
 ∀ (c' dc' p' cl' ct':Addr) (U':Addr->Prop) (H':Hp),uk K a H' st ds ll d c' dc' p' cl' ct' lk tp n kd ps mo w (P.filter fun q=>decide (q.nm≠r.nm)) [] [] U'->Go (fun y=>y=d\/StO st c cl ct U y) H H' (fun y=>y=d\/StO st c' cl' ct' U' y)->Q .non H')
theorem vcw (T:Txt K mg a):wc P w K mg base (CXe P w) 10 a.f_q79 a.d_q79 ["self","name"] (yum K a):=by
 refine T.y_q79.F.okE va4 (fun vs H Q E h=>?_) (fun aa A a3 s H vs Q E hr h=>?_)
 ·obtain ⟨st,ds,ll,d,c,dc,p,cl,ct,lk,tp,n,kd,ps,mo,w,P,L,ks,U,x,nt,rfl,_⟩:=h
  rfl
 ·obtain ⟨st,ds,ll,d,c,dc,p,cl,ct,lk,tp,n,kd,ps,mo,w,P,L,ks,U,x,nt,rfl,hS,ty,hz,k1,k2,k3,k4⟩:=h
  have a5:=hS.me
  refine ⟨_,(yh (yu (vt (pv 0) T.cl_Store T.y_q72.m (ygf T) (hr.mono (by decide)) T.y_q72.B .nil yx (yb (pv 1) ye (yc rfl)))) (yh (ww (ue (yt (yo5 rfl) rfl T.z_any (by right) (yb (yuc (w9 (js:=[1]) (ys:=["name"]) rfl (yuw (yq (pv 0) rfl)) (fun C s2 H2 fp=>(uc uw (yhq (K:=K) rfl (pv 0) rfl) (pv 1) (vg _))) rfl rfl (hyc:=(all_cons rfl vd)) (hrel:=(all_cons rfl vd)))) ye (yc rfl)))) (yf (wy rfl T.m_InUse T.r_InUse (yb xf ye (yc rfl)))) vk) (yh (yu (ypk (yq (pv 0) rfl) (pv 1) ⟨rfl,rfl,rfl,rfl⟩)) (yf (y9 (pv 0) (u7 T.k_Chain (yjk T) (hr.mono (by decide)) rfl T.m_Chain T.y_q60.B .nil yx (yb (yq (pv 0) rfl) ye (yc rfl))) rfl))))),?_⟩
  try dsimp only [vz]
  refine yn (σ':=[some _,some _]) rfl ?_
  rfl'
  refine ⟨st,ds,d,_,_,_,n,kd,ps,w,P,x,nt,rfl,a5,hS.pz,ty,hz,k1,k2,fun r I e hb H1 S1=>?_⟩
  subst e
  have g:=hS.same S1
  have a6:=g.me
  rfl'
  have k:=g.pz.dk
  refine ⟨d,pcs P,rfl,k,fun o D hD=>?_⟩
  have X:(pcs P).length=P.length:=List.length_map _
  have ab:=g.pz.z
  have a4:D≠d:=fun z=>by rw [z,ya] at hD; cases hD
  refine yj6 (fun i G=>G D=some (.lst ((P.take i).map fun q=>V.bl (decide (q.bs=some r.nm))))/\y0 (upd H1 d (.frz o (.dK (pcs P)))) G) ⟨ya,vv hD⟩ (fun i G _ z=>z.2 _ _ ya) (fun i kk v G J hi z=>?_) (fun G z=>?_)
  ·obtain ⟨gD,S⟩:=z
   rw [X] at hi
   have l:P[i]?=some P[i]:=List.getElem?_eq_getElem hi
   unfold pcs at J
   rw [List.getElem?_map,l] at J
   obtain rfl:v=.ref (P[i]).ob:=by cases J; rfl
   have t:=(g.pz.ob _ (List.getElem_mem hi)).1
   have a7:=S _ _ (yj (fun z=>by rw [z,k] at t; cases t) t)
   rfl'
   obtain ⟨b1,b2⟩:=vcm (P[i]).bs r.nm
   refine ⟨b1,?_⟩
   rw [b2]
   refine ua (n:=(pcs P).length) gD (vx (by rw [List.length_map,List.length_take]; omega)) (by omega) ⟨?_,fun y o e=>yj (yd e hD) (S _ _ e)⟩
   rw [ya,List.take_succ_eq_append_getElem hi,List.map_append]
   rfl
  ·obtain ⟨gD,S⟩:=z
   rw [X,List.take_length] at gD
   refine ⟨d,o,.dK (pcs P),(fun o u e=>by rw [k] at e; cases e),S _ _ ya,?_⟩
   have S3:y0 H1 (upd G d (.dK (pcs P))):=fun y o' e=>by
    by_cases z:y=d
    ·rw [z,ya]; rw [z,k] at e; exact e
    ·exact yj z (S _ _ (yj z e))
   have Z:(upd G d (.dK (pcs P))) D=some (.lst ((P.map fun q=>decide (q.bs=some r.nm)).map V.bl)):=yj a4 (by rw [gD,List.map_map]; rfl)
   generalize upd G d (.dK (pcs P))=H3 at S3 Z ⊢
   have f:=g.same S3
   have a9:=f.me
   rfl'
   refine ⟨D,_,rfl,SqL.of Z,?_⟩
   by_cases hu:∃ q,q∈P/\q.bs=some r.nm
   ·have e:(P.map fun q=>decide (q.bs=some r.nm)).any id=true:=by
     obtain ⟨q,l,e⟩:=hu
     exact List.any_eq_true.mpr ⟨true,List.mem_map.mpr ⟨q,l,decide_eq_true e⟩,rfl⟩
    rw [e]
    refine ⟨true,rfl,ygr ?_⟩
    rfl'
    exact ⟨by walk_at "len",k3 r I rfl hu _ (S1.trans S3)⟩
   ·have N:∀ q,q∈P->q.bs≠some r.nm:=fun q l e=>hu ⟨q,l,e⟩
    have e:(P.map fun q=>decide (q.bs=some r.nm)).any id=false:=by
     rw [List.any_map,List.any_eq_false]
     intro q l
     simpa using N q l
    rw [e]
    refine ⟨false,rfl,yfa ?_⟩
    rfl'
    refine ⟨d,rfl,.inl ⟨_,.of f.pz.dk⟩,?_⟩
    rfl'
    refine ⟨pcs P,.inr r.nm,_,f.pz.dk,rfl,yob f.pz.nd I,?_⟩
    have M:=f.b.drop N
    have gA:Go (fun y=>y=d\/StO st c cl ct U y) H3 (upd H3 d (.dK (ybj (pcs P) (.inr r.nm)))) (fun y=>y=d\/StO st c cl ct U y):=⟨fun y o e no=>yj (fun z=>no (.inl z)) e,fun y z=>.inl z,fun y o e=>by
     by_cases z:y=d
     ·exact ⟨_,by rw [z]; exact ya⟩
     ·exact ⟨o,yj z e⟩⟩
    generalize upd H3 d (.dK (ybj (pcs P) (.inr r.nm)))=H4 at M gA ⊢
    have W:=M.me
    rfl'
    intro c' j nc R ac
    have SQ:y0 H4 (upd (upd H4 j (.own c')) c' (.ins a.C_Chain j [])):=fun b o e=>by rw [ym (yd e nc),ym (yd e R)]; exact e
    refine ⟨c',j,ll,n,lk,tp,kd,ps,rfl,ya,SQ _ _ M.lo,M.n1,M.n6,M.row.same SQ,fun p' a2 a0 U' HE a1 O BE=>⟨rfl,?_⟩⟩
    obtain ⟨hR,gR,SE,hN⟩:=M.re nc R a1 O BE
    have a8:=SE _ _ W
    rfl'
    exact k4 r I rfl N c' j p' a2 a0 U' _ hR ((gA.ahead (S1.trans S3)).trans ((gR.or (Y:=fun y=>y=d)).wide fun y z=>z.imp id .inl))
theorem yns:yk ["_law_script","_law_k","_law_cell"] ["_law_script","_law_k"] (yg yw8):=wx (by right)
def yyl (K:W.Frag):Sp:=fun vs H Q _=>∃ (l:Addr) (ns:List Int) (j:Nat),vs=[.ref l,.int j]/\SqL K H l (ns.map V.int)/\j <= 1000/\∀ n:Int,0 <= n->n < 2147483647->Q (.int n) H
theorem ygk (T:Txt K mg a):wc P w K mg base CX0 1 a.f_q80 a.d_q80 ["_law_script","_law_k"] (yyl K):=by
 refine T.y_q80.F.ok yns (fun n H Q E h=>?_) (fun g A e s H n Q E p h=>?_)
 ·obtain ⟨l,b,j,rfl,_⟩:=h
  rfl
 ·obtain ⟨l,b,j,rfl,f,r,k⟩:=h
  refine ⟨_,(yh (yy (i:=2) yns.nd rfl (Or.inl rfl) yi) (yh (ut (ww (y8 ygm (pv 1) (yt yz rfl T.z_len (by right) (yb (pv 0) ye (yc rfl))) (vg _)) (yf (yy (i:=2) yns.nd rfl (Or.inl rfl) (yr xa (uf x4 (pv 0) (pv 1) (fun _ _=>rfl)) yi))) vk)) (yf (y7 (yr xa (yr wv (yr we (yr we (yr we (yr wv (pv 2) (pv 2)) (yr wv yi (pv 2))) (yr wv (yr wv yi (pv 1)) (pv 1))) yi) yi) yi))))),?_⟩
  try dsimp only [vz]
  refine yn (σ':=[some _,some _,none]) rfl ?_
  rfl'
  refine yog (fun σ' G=>H=G/\∃ c:Int,σ'=[some (.ref l),some (.int j),some (.int c)]/\0 <= c/\c < 2147483629) ?_ ?_
  ·rfl'
   refine zw f ?_
   rw [List.length_map]
   rfl'
   refine u6 (fun m=>?_) (fun m=>?_)
   ·have d:j < b.length:=by omega
    rfl'
    refine yal (v:=V.int b[j]) f (xp (by rw [List.getElem?_map,List.getElem?_eq_getElem d]; rfl)) ?_
    rfl'
    exact ⟨rfl,_,rfl,Int.emod_nonneg _ (by decide),Int.emod_lt_of_pos _ (by decide)⟩
   ·rfl'
    exact ⟨rfl,0,rfl,by decide,by decide⟩
  ·rintro σ' G ⟨rfl,c,rfl,q,t⟩
   have o:(0:Int) <= (j:Int)/\(j:Int) <= 1000:=by omega
   have u:(0:Int) <= 5 * (j:Int)/\5 * (j:Int) <= 5000:=by omega
   rfl'
   exact k _ (Int.emod_nonneg _ (by decide)) (Int.emod_lt_of_pos _ (by decide))
theorem ya7:yk ["_law_cell","_law_most","_law_many","_law_looks_here","_law_k","_law_marks","_law_places"] ["_law_cell","_law_most"] (yg ywk):=wx (by right)
def yp2:Sp:=fun vs H Q _=>∃ (c:Int) (m:Nat),vs=[.int c,.int m]/\0 <= c/\c < 2147483647/\1 <= m/\m <= 6/\∀ r (n:Nat) (lk:Nat->Addr) (kd:Nat->Fin 3) (tp:Nat->Addr) (ps:Nat->List Int) H',H r=none->H' r=some (.lst (refs lk n))->1 <= n->n <= 6->ug H' n lk kd tp ps->y0 H H'->Q (.ref r) H'
theorem vbr (T:Txt K mg a):wc P w K mg base CX0 1 a.f_q81 a.d_q81 ["_law_cell","_law_most"] yp2:=by
 refine T.y_q81.F.ok ya7 (fun vs H Q E h=>?_) (fun a1 A a0 s H vs Q E hr h=>?_)
 ·obtain ⟨c,m,rfl,_⟩:=h
  rfl
 ·obtain ⟨c,m,rfl,Y,X,m1,m6,k⟩:=h
  have mp:(0:Int) < (m:Int):=by omega
  refine ⟨_,(yh (yy (i:=2) ya7.nd rfl (Or.inl rfl) (yr we yi (yr xa (pv 0) (pv 1)))) (yh (yy (i:=3) ya7.nd rfl (Or.inl rfl) (xj ye)) (yh (jd PassesOwn.never rfl (zl rfl T.z_range (yb (pv 2) ye (yc rfl))) (xc (i:=4) ya7.nd rfl (Or.inl rfl)) (yh (yy (i:=0) ya7.nd rfl (Or.inl rfl) (yr xa (yr we (yr we (yr wv (pv 0) yi) (yr wv yi (pv 4))) yi) yi)) (yh (yy (i:=5) ya7.nd rfl (Or.inr rfl) (yr yq5 (yr xa (yr vq (pv 0) yi) yi) (yr xa (yr vq (pv 0) yi) yi))) (yh (ut (ww (y8 uw (yr xa (yr vq (pv 0) yi) yi) yi (vg _)) (yf (yy (i:=5) ya7.nd rfl (Or.inr rfl) (yr xa (yr vq (pv 0) yi) yi))) vk)) (yh (ypn (i:=6) (js:=[5]) (ys:=["_law_marks"]) ya7.nd rfl rfl rfl (ymi rfl T.z_range (yb yi (yb yi ye (yc rfl)) (yc rfl))) (fun C s2 H2 fp=>(y8 uw (yr yq5 (yr yrl (pv 1) (yr ur (pv 0) yi)) yi) yi (vg _))) (fun C s2 H2 fp=>(pv 0)) rfl rfl (hyc:=(all_cons rfl vd)) (hrel:=(all_cons rfl vd))) (yf (yu (ybh PySem.F.plainAttrs_list PySem.F.slot_list_append PySem.F.type_list_append wu (pv 3) (yb (yoc (yb (uf x4 (xj (yb xf (yb xf (yb xf ye (yc rfl)) (yc rfl)) (yc rfl))) (yr xa (pv 0) yi) (fun _ _=>rfl)) (yb (xt jz rfl T.z_tuple (by right) (yb (xn u9 (pv 6) x5 (x3 yi)) ye (yc rfl))) ye (yc rfl)) (yc rfl))) ye (yc rfl)))))))))) (yf (y7 (pv 3)))))),?_⟩
  try dsimp only [vz]
  refine yn (σ':=[some _,some _,none,none,none,none,none]) rfl ?_
  rfl'
  obtain ⟨n,hn,n1,n6⟩:∃ n:Nat,1+c % (m:Int)=(n:Int)/\1 <= n/\n <= 6:=by
   have h0:=Int.emod_nonneg c (show (m:Int)≠0 by omega)
   have h1:=Int.emod_lt_of_pos c mp
   exact ⟨(1+c % (m:Int)).toNat,by omega,by omega,by omega⟩
  rw [hn]
  refine ⟨by walk_at "len",fun L hL0=>?_⟩
  with_reducible first | refine yw hL0 fun H1 S1 hL1=>?_ | refine ve hL0 fun H1 S1 hL1=>?_
  rfl'
  refine ⟨_,rfl,by omega,by omega,j5 (n:=n) (fun i σ2 G=>∃ (c:Int) (v1 v2 W:Option V) (v:Nat->Addr) (R:Nat->Fin 3) (B:Nat->Addr) (N:Nat->List Int),σ2=[some (.int c),some (.int m),some (.int n),some (.ref L),v1,v2,W]/\0 <= c/\c < 2147483647/\G L=some (.lst (refs v i))/\ug G i v R B N/\y0 H G)
   ⟨c,_,_,_,fun _=>0,fun _=>0,fun _=>0,fun _=>[],rfl,Y,X,hL1,fun j q=>absurd q (Nat.not_lt_zero j),S1⟩ ?_ ?_⟩
  ·clear hn Y X c
   rintro i σ2 G hi ⟨c,v1,v2,W,v,R,B,N,rfl,Y,X,gL,gR,SG⟩
   rfl'
   have d0:0 <= (c * 48271+11 * (0+(i:Int))+7) % 2147483647:=Int.emod_nonneg _ (by decide)
   have d1:(c * 48271+11 * (0+(i:Int))+7) % 2147483647 < 2147483647:=Int.emod_lt_of_pos _ (by decide)
   generalize (c * 48271+11 * (0+(i:Int))+7) % 2147483647=d at d0 d1 ⊢
   refine yog (fun σ' r=>G=r/\∃ mk:Int,σ'=[some (.int d),some (.int m),some (.int n),some (.ref L),some (.int (0+(i:Int))),some (.int mk),W]) ?_ ?_
   ·rfl'
    refine u6 (fun hb=>?_) (fun hb=>?_)
    ·rfl'
     exact ⟨rfl,_,rfl⟩
    ·rfl'
     exact ⟨rfl,_,rfl⟩
   rintro σ' r ⟨rfl,mk,rfl⟩
   rfl'
   refine ⟨1,9,rfl,⟨by decide,by decide,by decide,by decide⟩,fun D hD=>?_⟩
   refine ygy (lo:=1) (n:=8) (fun j r=>∃ f:List Int,r D=some (.lst (f.map V.int))/\(∀ p∈f,1 <= p/\p <= (j:Int))/\f.Pairwise (· < ·)/\f.length <= j/\y0 G r) ⟨[],ya,fun _ z=>(nomatch z),List.Pairwise.nil,Nat.le_refl _,vv hD⟩ (fun j r q z=>?_) (fun G3 z=>?_)
   ·obtain ⟨f,h1,h2,h3,h4,S⟩:=z
    rfl'
    refine i_I (by omega) ?_
    rfl'
    refine u6 (fun hb=>?_) (fun hb=>?_)
    ·rfl'
     refine ua (n:=8) h1 (vx (by rw [List.length_map]; omega)) q ?_
     refine ⟨f++[1+(j:Int)],by rw [ya,List.map_append]; rfl,fun p J=>?_,?_,by rw [List.length_append]; show _+1 <= _; omega,fun b o e=>yj (yd e hD) (S b o e)⟩
     ·rcases List.mem_append.mp J with h | h
      ·have:=h2 p h
       omega
      ·rw [List.mem_singleton.mp h]
       omega
     ·refine List.pairwise_append.mpr ⟨h3,List.pairwise_singleton _ _,fun x hx y hy=>?_⟩
      rw [List.mem_singleton.mp hy]
      have:=h2 x hx
      omega
    ·exact ylc (n:=8) q ⟨f,h1,fun p J=>by have:=h2 p J; omega,h3,by omega,S⟩
   obtain ⟨f,Z,J,hw,_,S3⟩:=z
   have U:=S3 _ _ gL
   rfl'
   refine jr U ?_
   rfl'
   refine ⟨by walk_at "len",fun q2 hq2=>?_⟩
   with_reducible first | refine yw hq2 fun G4 T4 hq4=>?_ | refine ve hq2 fun G4 T4 hq4=>?_
   rfl'
   obtain ⟨kk,hk⟩:=yug d
   refine yal (SqL.of hq4) hk ?_
   rfl'
   refine ye5 (SqL.of (T4 _ _ Z)) fun u hu=>?_
   have ec:yic (f.map V.int) none (some 4)=(f.take 4).map V.int:=by rw [List.map_take]; exact u8 4
   rw [ec]
   with_reducible first | refine yw hu fun G5 T5 hu5=>?_ | refine ve hu fun G5 T5 hu5=>?_
   refine ⟨u,_,rfl,.inl ⟨SqL.of hu5,fun O htp=>?_⟩⟩
   with_reducible first | refine yw htp fun G6 T6 htp6=>?_ | refine ve htp fun G6 T6 htp6=>?_
   rfl'
   refine ⟨by walk_at "len",fun t ht=>?_⟩
   with_reducible first | refine yw ht fun G7 T7 ht7=>?_ | refine ve ht fun G7 T7 ht7=>?_
   have M:=T4.trans (T5.trans (T6.trans T7))
   have l:=M _ _ U
   have I:=S3.trans M
   rfl'
   refine xv l (vx (by rw [wa]; omega)) ?_
   have g7:LkG G7 (.ref t) kk O (f.take 4):=⟨t,rfl,ht7,T7 _ _ htp6,ymm (by rw [List.length_take]; omega) (fun p h=>J p (List.mem_of_mem_take h)) hw.take⟩
   rfl'
   refine ⟨d,_,_,_,upN v i t,upN R i kk,upN B i O,upN N i (f.take 4),rfl,d0,d1,?_,fun j q=>?_,fun b o e=>yj (yd e hL0) (I _ _ (SG b o e))⟩
   ·rw [ya,u4,xg]
    congr 3
    exact uz fun j q=>(xb q).symm
   ·by_cases z:j=i
    ·subst z
     rw [xg,xg,xg,xg]
     exact g7.upd l
    ·have g:j < i:=by omega
     rw [xb g,xb g,xb g,xb g]
     exact ((gR j g).same I).upd l
  ·rintro σ2 G ⟨c,v1,v2,W,v,R,B,N,rfl,Y,X,gL,gR,SG⟩
   rfl'
   exact k L n v R B N G hL0 gL n1 n6 gR SG
theorem zu:yk ["_law_cell","_law_many","_law_small","_law_odd","_law_base","_law_k","_law_at","_law_names_here","_law_cut"] ["_law_cell","_law_many"] (yg yvt):=wx (by right)
def ymw (K:W.Frag):Sp:=fun vs H Q _=>∃ (c:Int) (m:Nat),vs=[.int c,.int m]/\0 <= c/\c < 2147483647/\1 <= m/\m <= 9/\∀ (r:Addr) (ns:List Str) (H':Hp),H r=none->H' r=some (.lst (ns.map V.str))->y0 H H'->ns.length=m->ns.Nodup->(∀ x,x∈ns->nmS x=true/\PyData.strOk x=true)->Q (.ref r) H'
theorem va0 (T:Txt K mg a):wc P w K mg base CX0 1 a.f_q82 a.d_q82 ["_law_cell","_law_many"] (ymw K):=by
 refine T.y_q82.F.ok zu (fun vs H Q E h=>?_) (fun a1 A W s H vs Q E hr h=>?_)
 ·obtain ⟨c,m,rfl,_⟩:=h
  rfl
 ·obtain ⟨c,m,rfl,c0,c1,m1,m9,k⟩:=h
  refine yo (yy (i:=2) zu.nd rfl (Or.inr rfl) xf) ?_
  refine yo (yy (i:=3) zu.nd rfl (Or.inr rfl) (yr xa (pv 0) yi)) ?_
  refine yo (yy (i:=0) zu.nd rfl (Or.inl rfl) (yr vq (pv 0) yi)) ?_
  refine yo (yy (i:=4) zu.nd rfl (Or.inr rfl) xf) ?_
  refine yo (jd PassesOwn.never rfl (zl rfl T.z_range (yb (yr xa (pv 0) yi) ye (yc rfl))) (xc (i:=5) zu.nd rfl (Or.inl rfl)) (yf (yy (i:=4) zu.nd rfl (Or.inr rfl) (yr yay (pv 4) (ycc (pv 2) (yr xa (yr vq (yr wv (pv 0) (yr we (pv 5) yi)) yi) yi) (fun _ _=>rfl)))))) ?_
  refine yo (yy (i:=6) zu.nd rfl (Or.inr rfl) (yr xa (yr vq (pv 0) yi) (yr we (yt ya6 rfl T.z_len (by right) (yb (pv 4) ye (yc rfl))) yi))) ?_
  refine yo (yip (i:=7) (js:=[2,3,4,6]) (ys:=["_law_small","_law_odd","_law_base","_law_at"]) zu.nd rfl rfl rfl (zl rfl T.z_range (yb (pv 1) ye (yc rfl))) (fun C s2 H2 fp=>(yr yay (yr yay (xn (r:=vfj) yr8 (pv 3) x5 (x3 (pv 4))) (ycc (pv 1) (yr we (pv 2) (pv 0)) (fun _ _=>rfl))) (xn (r:=vfj) yr8 (pv 3) (x3 (pv 4)) x5))) rfl rfl (hyc:=(all_cons rfl (all_cons rfl (all_cons rfl (all_cons rfl vd))))) (hrel:=(all_cons rfl (all_cons rfl (all_cons rfl (all_cons rfl vd)))))) ?_
  refine yo (yy (i:=8) zu.nd rfl (Or.inl rfl) (yr xa (yr vq (pv 0) yi) (pv 1))) ?_
  refine yo (yy (i:=7) zu.nd rfl (Or.inl rfl) (yr yjh (xn u9 (pv 7) (x3 (pv 8)) x5) (xn u9 (pv 7) x5 (x3 (pv 8))))) ?_
  refine yo (ut (ww (y8 uw (yr xa (yr vq (pv 0) yi) yi) yi (vg _)) (yf (yu (yjc PySem.F.plainAttrs_list PySem.F.slot_list_reverse PySem.F.type_list_reverse yaz (pv 7)))) vk)) ?_
  refine ⟨_,(yf (y7 (pv 7))),?_⟩
  try dsimp only [vz]
  refine yn (σ':=[some _,some _,none,none,none,none,none,none,none]) rfl ?_
  rfl'
  obtain ⟨o,ho,Z⟩:∃ o:Nat,c % 17=(o:Int)/\o <= 16:=⟨(c % 17).toNat,by omega,by omega⟩
  obtain ⟨d,t,a4,a0⟩:∃ d:Int,c / 17=d/\0 <= d/\d < 2147483647:=⟨c / 17,rfl,by omega,by omega⟩
  rw [ho,t]
  obtain ⟨l7,Y,hl⟩:∃ l:Nat,d % 8=(l:Int)/\l <= 7:=⟨(d % 8).toNat,by omega,by omega⟩
  rw [Y]
  clear c0 c1 ho t c
  refine ⟨_,rfl,by omega,by omega,j5 (n:=l7) (fun i σ2 G=>∃ (z:Str) (v:Option V),σ2=[some (.int d),some (.int m),some (.str smS),some (.int o),some (.str z),v,none,none,none]/\yib z.cps.toList/\z.length=i/\H=G)
   ⟨_,_,rfl,(fun c hc=>by cases (show c∈[] from hc)),rfl,rfl⟩ ?_ ?_⟩
  ·rintro i σ2 G L ⟨z,v,rfl,O,g,rfl⟩
   rfl'
   have y:=Int.emod_nonneg (d * (0+(i:Int)+3) / 7) (show (26:Int)≠0 by decide)
   have h1:=Int.emod_lt_of_pos (d * (0+(i:Int)+3) / 7) (show (0:Int) < 26 by decide)
   generalize d * (0+(i:Int)+3) / 7 % 26=q at y h1 ⊢
   refine ⟨smS,q,97+q.toNat,rfl,rfl,y,by omega,by rw [ysm]; exact h1,vdj y h1,?_⟩
   refine ⟨z,_,rfl,rfl,?_,?_⟩
   ·rw [g,sizeLine_eq]
    show i+1 <= _
    omega
   ·rfl'
    refine ⟨_,_,rfl,?_,?_,rfl⟩
    ·rw [ycp]
     exact O.app (.one (by omega))
    ·rw [ycq,ycp,List.length_append,<- ycq,g]
     rfl
  ·rintro σ2 G ⟨z,v,rfl,O,g,rfl⟩
   rfl'
   refine ⟨z,rfl,by rw [g,sizeLine_eq]; omega,?_⟩
   rfl'
   obtain ⟨j,hj,B⟩:∃ j:Nat,d / 8 % ((z.length:Int)+1)=(j:Int)/\j <= z.length:=by
    have y:=Int.emod_nonneg (d / 8) (show ((z.length:Int)+1)≠0 by omega)
    have h1:=Int.emod_lt_of_pos (d / 8) (show 0 < ((z.length:Int)+1) by omega)
    exact ⟨(d / 8 % ((z.length:Int)+1)).toNat,by omega,by omega⟩
   rw [hj]
   refine ⟨_,rfl,by omega,by omega,fun D hD=>?_⟩
   refine yfu (n:=m) (fun i=>.str (yqr z j (97+o+i))) hD (fun i G L S N=>?_) (fun G S N=>?_)
   ·rfl'
    have a5:=Txt.slice_le z none (some (j:Int))
    have a2:=Txt.slice_le z (some (j:Int)) none
    refine ⟨z,rfl,by rw [sizeLine_eq]; omega,?_⟩
    rfl'
    have ei:((o:Int)+(0+(i:Int))).toNat=o+i:=by omega
    refine ⟨smS,_,_,rfl,rfl,by omega,by omega,by rw [ysm]; omega,vdj (by omega) (by omega),?_⟩
    rw [ei]
    refine ⟨_,_,rfl,rfl,by rw [sizeLine_eq]; show _+1 <= _; omega,?_⟩
    rfl'
    refine ⟨z,rfl,by rw [sizeLine_eq]; omega,?_⟩
    refine ⟨_,_,rfl,rfl,?_,?_⟩
    ·rw [sizeLine_eq,ycq,ycp,List.length_append,<- ycq]
     show _+1+_ <= _
     omega
    ·refine Mp.doneR hD (vx (by omega)) L S N ?_
     rw [Nat.add_assoc]
     rfl
   ·rfl'
    obtain ⟨q,hq,a3⟩:∃ q:Nat,d / 72 % (m:Int)=(q:Int)/\q < m:=by
     have y:=Int.emod_nonneg (d / 72) (show (m:Int)≠0 by omega)
     have h1:=Int.emod_lt_of_pos (d / 72) (show 0 < (m:Int) by omega)
     exact ⟨(d / 72 % (m:Int)).toNat,by omega,by omega⟩
    rw [hq]
    obtain ⟨f,p⟩:∃ f,f=(List.range m).map fun i=>yqr z j (97+o+i):=⟨_,rfl⟩
    have u:G D=some (.lst (f.map V.str)):=by rw [N,p,List.map_map]; rfl
    have nl:f.length=m:=by rw [p,List.length_map,List.length_range]
    have nd:f.Nodup:=by rw [p]; exact yls B o m
    have no:∀ x,x∈f->nmS x=true/\PyData.strOk x=true:=fun x I=>by
     rw [p] at I
     obtain ⟨i,L,rfl⟩:=List.mem_map.mp I
     have:=List.mem_range.mp L
     exact yuq B O (by omega) (by omega)
    refine ye5 (SqL.of u) fun r1 h1=>?_
    rw [yik]
    with_reducible first | refine yw h1 fun G1 T1 e1=>?_ | refine ve h1 fun G1 T1 e1=>?_
    rfl'
    refine ye5 (SqL.of (T1 _ _ u)) fun r2 h2=>?_
    rw [u8]
    with_reducible first | refine yw h2 fun G2 T2 e2=>?_ | refine ve h2 fun G2 T2 e2=>?_
    rfl'
    refine ⟨r1,r2,_,_,rfl,rfl,T2 _ _ e1,e2,by rw [List.length_drop,List.length_take,List.length_map,sizeLine_eq]; omega,fun X h3=>?_⟩
    rw [<- List.map_drop,<- List.map_take,<- List.map_append]
    with_reducible first | refine yw h3 fun G3 T3 e3=>?_ | refine ve h3 fun G3 T3 e3=>?_
    have S3:=S.trans (T1.trans (T2.trans T3))
    have R:(f.drop q++f.take q).Perm f:=List.perm_append_comm.trans (by rw [List.take_append_drop])
    generalize f.drop q++f.take q=M at e3 R
    rfl'
    refine ⟨fun σ2 F=>∃ J:List Str,σ2=[some (.int d),some (.int m),some (.str smS),some (.int o),some (.str z),v,some (.int j),some (.ref X),some (.int q)]/\F X=some (.lst (J.map V.str))/\y0 H F/\J.Perm f,?_,?_⟩
    ·rfl'
     refine u6 (fun hb=>?_) (fun hb=>?_)
     ·rfl'
      refine jr e3 ?_
      rfl'
      refine yci e3 ?_
      rfl'
      refine ⟨M.reverse,rfl,by rw [ya,List.map_reverse],fun b o e=>yj (yd e (S.free (T1.free (T2.free h3)))) (S3 _ _ e),(List.reverse_perm M).trans R⟩
     ·exact ⟨M,rfl,e3,S3,R⟩
    ·rintro σ2 F ⟨J,rfl,hF,SF,U⟩
     rfl'
     exact k X J F (S.free (T1.free (T2.free h3))) hF SF (by rw [U.length_eq,nl]) (U.symm.nodup nd) fun x I=>no x (U.mem_iff.mp I)
structure Iv (K:W.Frag) (a:Ads) (B H:Hp) (st ds ll d c dc p cl ct:Addr) (lk tp:Nat->Addr) (n:Nat) (kd:Nat->Fin 3) (ps:Nat->List Int) (P:List Pc) (L:List (Str × List Int)) (ks:List V) (U:Addr->Prop) (kvs:List (Key × V)) (md:Addr) (ns:List Str) (i:Nat):Prop where
 ph:Ph K a B H st ds ll d c dc p cl ct lk tp n kd ps 1000 1 P L ks U kvs
 kp:Kp H (WD d st c cl ct U) md (.dK kvs)
 nb:B md=none
 nms:P.map (·.nm)=ns.take i
 pl:∀ q,q∈P->q.path.length+1 <= i
 bas:∀ q,q∈P->∀ b,q.bs=some b->∃ j,j+1 < i/\ns[j]?=some b
theorem vcb {c k:Int} (k2:k=0\/k=1):∃ ts:List Int,(List.replicate k.toNat [V.int (c % 256)]).flatten=ts.map V.int/\Sgs ts/\ts.length <= 1:=by
 rcases k2 with rfl | rfl
 ·exact ⟨[],rfl,(fun x a=>by cases a),Nat.zero_le _⟩
 ·exact ⟨[c % 256],rfl,(fun x a=>by rw [List.mem_singleton.mp a]; omega),Nat.le_refl _⟩
theorem xh:yk ["_law_script","_law_looks_here","_law_many","_law_names_here","_law_store","_law_model","_law_k","_law_cell","_law_text","_law_base","_law_learned","_law_turn","_law_name","_law_found","_law_last"] ["_law_script"] (yg yw2):=wx (by right)
def yju (K:W.Frag):Sp:=fun vs H Q _=>∃ (l:Addr) (ns:List Int),vs=[.ref l]/\SqL K H l (ns.map V.int)/\ns.length <= 63/\∀ H',Q (.bl true) H'
theorem vbo (T:Txt K mg a):wc P w K mg base CX0 15 a.f_law a.d_law ["_law_script"] (yju K):=by
 refine T.y_law.F.ok xh (fun vs H Q E h=>?_) (fun cj A bN s H vs Q E M h=>?_)
 ·obtain ⟨l,I,rfl,_⟩:=h
  rfl
 ·obtain ⟨l,zs,rfl,hS,bV,k⟩:=h
  refine yo (yy (i:=1) xh.nd rfl (Or.inl rfl) (vn (vbr T) (M.mono (by decide)) rfl T.y_q81.m T.y_q81.F.kp T.y_q81.B .nil vj (yb (vn (ygk T) (M.mono (by decide)) rfl T.y_q80.m T.y_q80.F.kp T.y_q80.B .nil vj (yb (pv 0) (yb yi ye (yc rfl)) (yc rfl))) (yb yi ye (yc rfl)) (yc rfl)))) ?_
  refine yo (yy (i:=2) xh.nd rfl (Or.inl rfl) (yr we yi (yr xa (vn (ygk T) (M.mono (by decide)) rfl T.y_q80.m T.y_q80.F.kp T.y_q80.B .nil vj (yb (pv 0) (yb yi ye (yc rfl)) (yc rfl))) yi))) ?_
  refine yo (ut (ww (y8 uw (yr xa (yr vq (vn (ygk T) (M.mono (by decide)) rfl T.y_q80.m T.y_q80.F.kp T.y_q80.B .nil vj (yb (pv 0) (yb yi ye (yc rfl)) (yc rfl))) yi) yi) yi (vg _)) (yf (yy (i:=2) xh.nd rfl (Or.inl rfl) yi)) vk)) ?_
  refine yo (yy (i:=3) xh.nd rfl (Or.inl rfl) (vn (va0 T) (M.mono (by decide)) rfl T.y_q82.m T.y_q82.F.kp T.y_q82.B .nil vj (yb (vn (ygk T) (M.mono (by decide)) rfl T.y_q80.m T.y_q80.F.kp T.y_q80.B .nil vj (yb (pv 0) (yb yi ye (yc rfl)) (yc rfl))) (yb (pv 2) ye (yc rfl)) (yc rfl)))) ?_
  refine yo (yy (i:=4) xh.nd rfl (Or.inl rfl) (u7 T.k_Store (yzp T) (M.mono (by decide)) rfl T.m_Store T.B1_q68 (show wt [V.int 1000] _ from (.cons ⟨_,rfl⟩ .nil)) wj (yb (pv 1) ye (yc rfl)))) ?_
  refine yo (yy (i:=5) xh.nd rfl (Or.inl rfl) yis) ?_
  refine yo (jd PassesOwn.never rfl (zl rfl T.z_range (yb (pv 2) ye (yc rfl))) (xc (i:=6) xh.nd rfl (Or.inl rfl)) (yh (yy (i:=7) xh.nd rfl (Or.inl rfl) (vn (ygk T) (M.mono (by decide)) rfl T.y_q80.m T.y_q80.F.kp T.y_q80.B .nil vj (yb (pv 0) (yb (yr we yi (pv 6)) ye (yc rfl)) (yc rfl)))) (yh (yy (i:=8) xh.nd rfl (Or.inl rfl) (yr ysp (xj (yb (yr xa (pv 7) yi) ye (yc rfl))) (yr xa (yr vq (pv 7) yi) yi))) (yh (yy (i:=9) xh.nd rfl (Or.inl rfl) yaj) (yh (yy (i:=10) xh.nd rfl (Or.inl rfl) (xj ye)) (yh (ut (ww (PW.pt (yqx (y8 yh5 (pv 6) yi (vg _)) (ym4 (PW.pt (ye4 (y8 uw (pv 2) yi (vg _)) (ydm (y8 yh5 (yr xa (yr vq (pv 7) yi) yi) yi (vg _)))))))) (yh (yy (i:=9) xh.nd rfl (Or.inl rfl) (uf x4 (pv 3) (yr ur (pv 6) yi) (fun _ _=>rfl))) (yh (ut (ww (PW.pt (yqx (y8 ygm (pv 2) yi (vg _)) (ym4 (y8 yh5 (yr xa (yr vq (pv 7) yi) yi) yi (vg _))))) (yf (yy (i:=9) xh.nd rfl (Or.inl rfl) (uf x4 (pv 3) (yr xa (yr vq (pv 7) yi) (pv 6)) (fun _ _=>rfl)))) vk)) (yf (yy (i:=10) xh.nd rfl (Or.inl rfl) (yr yjh (uf zt (za (jt M) (pv 5) (pv 9) (fun _ _=>rfl)) yi (fun _ _=>rfl)) (xj (yb (uf zt (za (jt M) (pv 5) (pv 9) (fun _ _=>rfl)) yi (fun _ _=>rfl)) ye (yc rfl)))))))) vk)) (yh (yu (vt (pv 4) T.cl_Store T.M_q69 (ysx T) (M.mono (by decide)) T.B_q69 .nil wj (yb (uf x4 (pv 3) (pv 6) (fun _ _=>rfl)) (yb (xt xq rfl T.z_list (by right) (yb (pv 8) ye (yc rfl))) (yb (pv 9) ye (yc rfl)) (yc rfl)) (yc rfl)))) (yf (yhz (jt M) (pv 5) (uf x4 (pv 3) (pv 6) (fun _ _=>rfl)) (yoc (yb (pv 10) (yb (pv 8) ye (yc rfl)) (yc rfl))) rfl))))))))) ?_
  refine yo (jd PassesOwn.never rfl (zl rfl T.z_range (yb yi ye (yc rfl))) (xc (i:=11) xh.nd rfl (Or.inl rfl)) (yf (ytb (jd PassesOwn.never rfl (ytv (pv 5)) (xc (i:=12) xh.nd rfl (Or.inl rfl)) (yh (yy (i:=13) xh.nd rfl (Or.inl rfl) (vt (pv 4) T.cl_Store T.y_q78.m (yrk T) (M.mono (by decide)) T.y_q78.B .nil wj (yb (pv 12) ye (yc rfl)))) (yh (ww (PW.pt (ye4 (x6 (ue (yt wn rfl T.z_isinstance (by right) (yb (pv 13) (yb (jc (T:="list") rfl T.z_list (by right)) ye (yc rfl)) (yc rfl))))) (ydm (y8 (yjo M.units) (pv 13) (uf zt (za (jt M) (pv 5) (pv 12) (fun _ _=>rfl)) yi (fun _ _=>rfl)) (vg _))))) (yf (y7 vdt)) vk) (yh (jd PassesOwn.never rfl (xx (pv 13)) (xc (i:=8) xh.nd rfl (Or.inl rfl)) (yf (yu (ybh PySem.F.plainAttrs_list PySem.F.slot_list_append PySem.F.type_list_append wu (pv 8) (yb yi ye (yc rfl)))))) (yf (yu (ybh PySem.F.plainAttrs_list PySem.F.slot_list_append PySem.F.type_list_append wu (pv 13) (yb (xj (yb yi ye (yc rfl))) ye (yc rfl)))))))))))) ?_
  refine yo (yy (i:=14) xh.nd rfl (Or.inl rfl) (uf x4 (pv 3) (yr ur (pv 2) yi) (fun _ _=>rfl))) ?_
  refine yo (ut (yy (i:=9) xh.nd rfl (Or.inl rfl) (uf x4 (xj (yb (uf x4 (pv 3) yi (fun _ _=>rfl)) (yb yaj ye (yc rfl)) (yc rfl))) (xt ymv rfl T.z_int (by right) (yb (vep (uc uw (pv 2) yi (vg _)) (zv (uc yco (vt (pv 4) T.cl_Store T.y_q77.m (vbz T) (M.mono (by decide)) T.y_q77.B .nil wj (yb (pv 14) ye (yc rfl))) yaj (vg _)))) ye (yc rfl))) (fun _ _=>rfl)))) ?_
  refine yo (yy (i:=10) xh.nd rfl (Or.inl rfl) (xj ye)) ?_
  refine yo (ut (ww (y8 yco (pv 9) yaj (vg _)) (yf (yy (i:=10) xh.nd rfl (Or.inl rfl) (yr yjh (uf zt (za (jt M) (pv 5) (pv 9) (fun _ _=>rfl)) yi (fun _ _=>rfl)) (xj (yb (uf zt (za (jt M) (pv 5) (pv 9) (fun _ _=>rfl)) yi (fun _ _=>rfl)) ye (yc rfl)))))) vk)) ?_
  refine yo (yu (vt (pv 4) T.cl_Store T.y_q79.m (vcw T) (M.mono (by decide)) T.y_q79.B .nil wj (yb (pv 14) ye (yc rfl)))) ?_
  refine yo (yu (vt (pv 4) T.cl_Store T.M_q69 (ysx T) (M.mono (by decide)) T.B_q69 .nil wj (yb (pv 14) (yb (xj (yb yi ye (yc rfl))) (yb (pv 9) ye (yc rfl)) (yc rfl)) (yc rfl)))) ?_
  refine ⟨_,(yf (y7 (ul (uc (yr3 M.units) (vt (pv 4) T.cl_Store T.y_q78.m (yrk T) (M.mono (by decide)) T.y_q78.B .nil wj (yb (pv 14) ye (yc rfl))) (pv 10) (vg _)) (zv (uc (yr3 M.units) (vt (pv 4) T.cl_Store T.y_q76.m (yyj T) (M.mono (by decide)) T.y_q76.B .nil wj (yb (pv 14) ye (yc rfl))) (xj (yb yi ye (yc rfl))) (vg _)))))),?_⟩
  try dsimp only [vz]
  refine yn (σ':=[some _,none,none,none,none,none,none,none,none,none,none,none,none,none,none]) rfl ?_
  rfl'
  refine ⟨l,zs,0,rfl,hS,by decide,fun c1 bK bx=>?_⟩
  rfl'
  refine ⟨c1,1,rfl,bK,bx,by decide,by decide,fun lo n lk kd tp ps H1 bY b6 n1 n6 bw S1=>?_⟩
  have aG:=S1.seq hS
  rfl'
  refine ⟨l,zs,12,rfl,aG,by decide,fun c2 cf ch=>?_⟩
  rfl'
  refine ⟨fun σ2 G=>H1=G/\∃ m:Nat,σ2=[some (.ref l),some (.ref lo),some (.int m),none,none,none,none,none,none,none,none,none,none,none,none]/\1 <= m/\m <= 9,?_,?_⟩
  ·rfl'
   refine ⟨l,zs,12,rfl,aG,by decide,fun c3 cq cr=>?_⟩
   rfl'
   refine u6 (fun hb=>?_) (fun hb=>?_)
   ·rfl'
    exact ⟨rfl,9,rfl,by decide,by decide⟩
   ·obtain ⟨m,hm,cu⟩:∃ m:Nat,1+c2 % 5=(m:Int)/\1 <= m/\m <= 5:=⟨(1+c2 % 5).toNat,by omega,by omega,by omega⟩
    rw [hm]
    exact ⟨rfl,m,rfl,by omega,by omega⟩
  rintro σ2 G ⟨rfl,m,rfl,m1,m9⟩
  rfl'
  refine ⟨l,zs,1,rfl,aG,by decide,fun c4 bQ bM=>?_⟩
  rfl'
  refine ⟨c4,m,rfl,bQ,bM,m1,m9,fun nl I H2 bX a7 S2 cv aJ bP=>?_⟩
  have bT:=S1.trans S2
  rfl'
  intro C ds aj aU cw
  have SQ:y0 H2 (upd (upd H2 ds (.own C)) C (.ins a.C_Store ds [])):=fun b o e=>by rw [ym (yd e aj),ym (yd e aU)]; exact e
  refine ⟨C,ds,lo,1000,1,n,lk,tp,kd,ps,rfl,ya,SQ _ _ (S2 _ _ b6),n1,n6,(bw.same S2).same SQ,by decide,by decide,by decide,fun ll d c J p g D U H3 ar aD az aN B3=>⟨rfl,?_⟩⟩
  have S3:y0 H2 H3:=fun y o e=>B3 _ _ (SQ _ _ e) (yd e aj)
  rfl'
  intro O hmd0
  with_reducible first | refine yw hmd0 fun H4 T4 hmd4=>?_ | refine ve hmd0 fun H4 T4 hmd4=>?_
  have as:∀ x,WD d C c g D U x->H2 x=none:=fun x hx=>by
   rcases hx with z | z | z
   ·rw [z]; exact SQ.free aN
   ·rw [z]; exact aj
   ·exact SQ.free (aD x z)
  have am:=ar.same T4
  rfl'
  refine ⟨_,rfl,by omega,by omega,j5 (n:=m) (fun i σ2 G=>∃ (c J p g D:Addr) (P:List Pc) (L:List (Str × List Int)) (X:List V) (U:Addr->Prop) (kvs:List (Key × V)) (v6 v7 W v9 a5:Option V),σ2=[some (.ref l),some (.ref lo),some (.int m),some (.ref nl),some (.ref C),some (.ref O),v6,v7,W,v9,a5,none,none,none,none]/\Iv K a H2 G C ds ll d c J p g D lk tp n kd ps P L X U kvs O I i)
   ⟨c,J,p,g,D,[],[],[],U,[],none,none,none,none,none,rfl,⟨⟨am,⟨rfl,fun q hq=>by cases hq⟩,S3.trans T4,as⟩,Kp.new ar.lvd hmd0 hmd4,S3.free hmd0,rfl,(fun q hq=>by cases hq),(fun q hq=>by cases hq)⟩⟩ ?_ ?_⟩
  ·clear ar am as aD az aN B3 S3 T4 hmd0 hmd4 c J p g D U
   rintro i σ2 G hi ⟨c,J,p,g,D,P,L,X,U,kvs,v6,v7,W,v9,a5,rfl,f⟩
   have bG:=f.ph.bs.seq (bT.seq hS)
   rfl'
   refine ⟨l,zs,2+i,by rw [show ((2+i:Nat):Int)=2+(0+(i:Int)) by omega]; rfl,bG,by omega,fun ce cb cp=>?_⟩
   rfl'
   refine ⟨by walk_at "len",fun r1 hr1=>?_⟩
   with_reducible first | refine yw hr1 fun G1 S1 er1=>?_ | refine ve hr1 fun G1 S1 er1=>?_
   rfl'
   obtain ⟨ts,bH,bJ,bA⟩:=vcb (c:=ce) (k:=ce / 256 % 2) (by omega)
   refine ⟨r1,_,_,rfl,rfl,er1,by omega,by omega,by rw [sizeLine_eq]; show 1 * _ <= _; omega,fun tx htx0=>?_⟩
   rw [bH]
   with_reducible first | refine yw htx0 fun G2 S2 htx2=>?_ | refine ve htx0 fun G2 S2 htx2=>?_
   rfl'
   refine ⟨by walk_at "len",fun ln hln0=>?_⟩
   with_reducible first | refine yw hln0 fun G3 S3 hln3=>?_ | refine ve hln0 fun G3 S3 hln3=>?_
   have T3:=S1.trans (S2.trans S3)
   have au:=f.ph.same T3
   have aA:=f.kp.same T3
   have bm:Kp G3 (WD d C c g D U) tx (.lst (ts.map V.int)):=(Kp.new (f.ph.same S1).s.lvd htx0 htx2).same S3
   have hln3:Kp G3 (WD d C c g D U) ln (.lst []):=Kp.new ((f.ph.same S1).same S2).s.lvd hln0 hln3
   clear hln0 htx0 er1 hr1
   rfl'
   refine ⟨fun σ2 F=>∃ (x:Option Str) (Y:List (Str × List Int)) (ln:Addr) (cx:Nat->Addr),σ2=[some (.ref l),some (.ref lo),some (.int m),some (.ref nl),some (.ref C),some (.ref O),some (.int (0+(i:Int))),some (.int ce),some (.ref tx),some (baV x),some (.ref ln),none,none,none,none]/\To P x Y/\Y.length <= i/\(∀ b,x=some b->∃ j,j < i/\I[j]?=some b)/\TxR F (WD d C c g D U) Y ln cx/\y0 G3 F,?_,?_⟩
   ·have a8:=au.bs _ _ a7
    refine ifI (0 < i) (fun Qb qT qF=>?_) (fun i0=>?_) ?_
    ·rfl'
     refine u6 (fun h1=>?_) (fun h1=>qF)
     rfl'
     refine u6 (fun h2=>qT (by omega)) (fun h2=>?_)
     rfl'
     by_cases h3:0 < ce / 1024 % 5
     ·rw [decide_eq_true h3]
      exact qT (by omega)
     ·rw [decide_eq_false h3]
      exact qF
    ·rfl'
     have bk:i - 1 < I.length:=by omega
     refine yal (v:=.str I[i - 1]) (SqL.of a8) (by rw [show (0+(i:Int) - 1)=((i - 1:Nat):Int) by omega]; exact xp (by rw [List.getElem?_map,List.getElem?_eq_getElem bk]; rfl)) ?_
     rfl'
     refine ⟨fun σ2 F=>G3=F/\∃ (b:Str) (j:Nat),σ2=[some (.ref l),some (.ref lo),some (.int m),some (.ref nl),some (.ref C),some (.ref O),some (.int (0+(i:Int))),some (.int ce),some (.ref tx),some (.str b),some (.ref ln),none,none,none,none]/\j < i/\I[j]?=some b,?_,?_⟩
     ·refine ifI True (fun Qb qT qF=>?_) (fun _=>?_) ?_
      ·rfl'
       refine u6 (fun h1=>?_) (fun h1=>qF)
       rfl'
       by_cases h3:2 < ce / 1024 % 5
       ·rw [decide_eq_true h3]
        exact qT trivial
       ·rw [decide_eq_false h3]
        exact qF
      ·rfl'
       obtain ⟨j,hj,ap⟩:∃ j:Nat,ce / 8192 % (0+(i:Int))=(j:Int)/\j < i:=by
        have h0:=Int.emod_nonneg (ce / 8192) (show (0+(i:Int))≠0 by omega)
        have h1:=Int.emod_lt_of_pos (ce / 8192) (show 0 < (0+(i:Int)) by omega)
        exact ⟨(ce / 8192 % (0+(i:Int))).toNat,by omega,by omega⟩
       rw [hj]
       have ag:j < I.length:=by omega
       refine yal (v:=.str I[j]) (SqL.of a8) (xp (by rw [List.getElem?_map,List.getElem?_eq_getElem ag]; rfl)) ?_
       rfl'
       exact ⟨rfl,_,j,rfl,ap,List.getElem?_eq_getElem ag⟩
      ·exact ⟨rfl,_,i - 1,rfl,by omega,List.getElem?_eq_getElem bk⟩
     rintro σ2 F ⟨rfl,b,j,rfl,ap,b1⟩
     obtain ⟨r,a0,rfl⟩:=ynt f.nms ap b1
     obtain ⟨v,hv,tu,lr,tr,cx,rfl,a3,a4,ao⟩:=au.v.2 r a0
     have a1:∀ {F:Hp},y0 G3 F->ybo F O (.str r.nm) (some (.ref tu)):=fun {F} S=>by
      rw [<- hv]
      exact ybo.k (k:=.inr r.nm) (S _ _ aA.1)
     rfl'
     refine ⟨O,_,rfl,a1 (y0.refl _),?_⟩
     rfl'
     refine ⟨tu,_,0,_,rfl,rfl,SqT.of a3.1,rfl,?_⟩
     rfl'
     refine ⟨O,_,rfl,a1 (y0.refl _),?_⟩
     rfl'
     refine ⟨tu,_,1,_,rfl,rfl,SqT.of a3.1,rfl,?_⟩
     rfl'
     refine ⟨by walk_at "len",fun q hq0=>?_⟩
     with_reducible first | refine yw hq0 fun F1 T1 hq1=>?_ | refine ve hq0 fun F1 T1 hq1=>?_
     have aO:=f.pl r a0
     refine ⟨lr,q,_,_,rfl,rfl,T1 _ _ a4.1.1,hq1,by rw [wa,sizeLine_eq]; show _+1 <= _; omega,fun l3 hl30=>?_⟩
     with_reducible first | refine yw hl30 fun F2 T2 hl32=>?_ | refine ve hl30 fun F2 T2 hl32=>?_
     rfl'
     have ah:=T1.trans T2
     exact ⟨some r.nm,r.path++[(r.nm,r.tx)],l3,_,rfl,⟨r,a0,rfl,rfl⟩,by rw [List.length_append,List.length_singleton]; omega,(fun b' e=>⟨j,ap,by rw [b1]; exact e⟩),a4.snoc (x:=(r.nm,r.tx)) ao ah (Kp.new (au.same T1).s.lvd hl30 hl32),ah⟩
    ·exact ⟨none,[],ln,fun _=>0,rfl,rfl,Nat.zero_le _,(fun b e=>by cases e),⟨hln3,fun i hi=>absurd hi (Nat.not_lt_zero i)⟩,y0.refl _⟩
   ·rintro σ2 F ⟨x,Y,ln,cx,rfl,aI,ck,bu,aC,SF⟩
    have ad:=au.same SF
    have b7:=aA.same SF
    have aB:=bm.same SF
    have aW:=ad.s.me
    have al:i < I.length:=by omega
    obtain ⟨bB,aw⟩:=ytn aJ f.nms al
    have aS:=bP I[i] (List.getElem_mem al)
    rfl'
    refine yal (v:=.str I[i]) (SqL.of (ad.bs _ _ a7)) (by rw [show (0+(i:Int))=((i:Nat):Int) by omega]; exact xp (by rw [List.getElem?_map,List.getElem?_eq_getElem al]; rfl)) ?_
    rfl'
    refine ⟨tx,_,rfl,.inl (SqL.of aB.1),fun t2 ht20=>?_⟩
    with_reducible first | refine yw ht20 fun F1 T1 ht21=>?_ | refine ve ht20 fun F1 T1 ht21=>?_
    have a2:=ad.same T1
    rfl'
    refine ⟨C,ds,ll,d,c,J,p,g,D,lk,tp,n,kd,ps,1000,1,P,L,X,U,I[i],x,Y,t2,ts,rfl,a2.s,aS.1,aS.2,⟨ht21,bJ,bA⟩,aI,aw,by omega,by omega,fun ob od dl c' af p' ab aa aP U' F2 bp bi aR g2=>?_⟩
    rfl'
    refine ⟨by walk_at "len",fun tu htu0=>?_⟩
    with_reducible first | refine yw htu0 fun F3 T3 htu3=>?_ | refine ve htu0 fun F3 T3 htu3=>?_
    obtain ⟨e1,e2,e3⟩:=a2.put (q:=⟨I[i],x,Y,ts,ob,od,dl⟩) bp g2 aw (b7.same T1) f.nb (aC.mv fun _ _ _ k=>k.same T1) (aB.same T1) htu0 T3 htu3
    have a8:F3 nl=some (.lst (I.map V.str)):=T3 _ _ ((g2.bs a2.bs a2.nb).1 _ _ a7)
    have bS:kvs.length=i:=by
     have e:=congrArg List.length f.ph.v.1
     rw [List.length_map,List.length_map] at e
     omega
    rfl'
    refine yal (v:=.str I[i]) (SqL.of a8) (by rw [show (0+(i:Int))=((i:Nat):Int) by omega]; exact xp (by rw [List.getElem?_map,List.getElem?_eq_getElem al]; rfl)) ?_
    refine ⟨O,_,rfl,yok.k (k:=.inr I[i]) e1 (vx (by omega)),?_⟩
    refine ⟨c',af,p',ab,aa,_,_,aP,U',_,_,_,_,_,_,rfl,⟨e2,e3,f.nb,?_,fun q hq=>?_,fun q hq b hb=>?_⟩⟩
    ·rw [List.map_append,f.nms,List.take_succ_eq_append_getElem al]
     rfl
    ·rcases List.mem_append.mp hq with z | z
     ·have:=f.pl q z
      omega
     ·rw [List.mem_singleton.mp z]
      show Y.length+1 <= _
      omega
    ·rcases List.mem_append.mp hq with z | z
     ·obtain ⟨j,h1,h2⟩:=f.bas q z b hb
      exact ⟨j,by omega,h2⟩
     ·rw [List.mem_singleton.mp z] at hb
      obtain ⟨j,h1,h2⟩:=bu b hb
      exact ⟨j,by omega,h2⟩
  ·rintro σ2 G ⟨c,J,p,g,D,P,L,X,U,kvs,v6,v7,W,v9,a5,rfl,f⟩
   clear ar am as aD az aN B3 S3 T4 hmd0 hmd4
   rfl'
   refine ⟨_,rfl,by omega,by omega,j5 (n:=2) (fun t σ2 G=>∃ (c J p g D:Addr) (L:List (Str × List Int)) (X:List V) (U:Addr->Prop) (W ak R N:Option V),σ2=[some (.ref l),some (.ref lo),some (.int m),some (.ref nl),some (.ref C),some (.ref O),v6,v7,W,v9,a5,ak,R,N,none]/\Iv K a H2 G C ds ll d c J p g D lk tp n kd ps P L X U kvs O I m)
    ⟨c,J,p,g,D,L,X,U,_,_,_,_,rfl,f⟩ ?_ ?_⟩
   ·clear f W c J p g D L X U
    rintro t σ2 G ht ⟨c,J,p,g,D,L,X,U,W,ak,R,N,rfl,f⟩
    rfl'
    refine ⟨O,kvs,rfl,f.kp.1,fun o=>?_⟩
    have bS:kvs.length=P.length:=by
     have e:=congrArg List.length f.ph.v.1
     rw [List.length_map,List.length_map] at e
     exact e
    refine yot (o:=o) (d:=O) (kvs:=kvs) (fun i σ2 F=>∃ (c J p g D:Addr) (L:List (Str × List Int)) (X:List V) (U:Addr->Prop) (W R N:Option V),σ2=[some (.ref l),some (.ref lo),some (.int m),some (.ref nl),some (.ref C),some (.ref O),v6,v7,W,v9,a5,some (.int (0+(t:Int))),R,N,none]/\Ph K a H2 F C ds ll d c J p g D lk tp n kd ps 1000 1 P L X U kvs/\Kp F (WD d C c g D U) O (.frz o (.dK kvs)))
     ⟨c,J,p,g,D,L,X,U,_,_,_,rfl,f.ph.oth f.kp rfl (fun _ _ _ z=>nomatch z) f.nb But.upd,ya,f.kp.2⟩ ?_ ?_ ?_
    ·rintro i σ2 F _ ⟨c,J,p,g,D,L,X,U,W,R,N,rfl,hP,hm⟩
     exact hm.1
    ·have c8:=f.nms
     have as:=f.nb
     have aO:=f.pl
     clear f W R N c J p g D L X U
     rintro i kk v σ2 F bI ⟨c,J,p,g,D,L,X,U,W,R,N,rfl,hP,hm⟩
     obtain ⟨q,ac,rfl⟩:∃ q,q∈P/\kk=.inr q.nm:=by
      have e:kk∈kvs.map (·.1):=List.mem_map.mpr ⟨_,List.mem_of_getElem? bI,rfl⟩
      rw [hP.v.1] at e
      obtain ⟨q,hq,e⟩:=List.mem_map.mp e
      exact ⟨q,hq,e.symm⟩
     have aW:=hP.s.me
     have bo:=hP.s.pz.nm q ac
     have cg:=yey bo.1
     rfl'
     refine ⟨C,ds,ll,d,c,J,p,g,D,lk,tp,n,kd,ps,1000,1,P,L,X,U,.str q.nm,"str",rfl,hP.s,.str _,(fun s e=>by cases e; omega),(fun z=>by rw [show nmV (.str q.nm)=nmS q.nm from rfl,bo.1] at z; cases z),(fun b e _ Z=>by cases e; exact absurd rfl (Z q ac)),fun r a0 er c' af p' ab aa L2 aP U' fq cx HB H3 h3 g3 SB ax a6 aH=>?_⟩
     obtain rfl:q=r:=yoe hP.s.pz.nd ac a0 (V.str.inj er)
     have bn:=hP.go h3 g3.wd
     have aQ:=hm.go (g3.wd (d:=d))
     obtain ⟨v,hv,tu,lr,tr,dx,rfl,a3,a4,ao⟩:=(bn.same SB).v.2 q ac
     have ca:=aO q ac
     have aL:Sd K H3 (.ref fq) (.list ((List.range q.path.length).map fun i=>.list ((txi q.path i).map PyData.int))) 2:=Sd.lst (SqL.of a6) (Sds.refs _ fun i hi=>Sd.lst (SqL.of (aH i hi).2.2) (Sds.ints _))
     rfl'
     refine ybg (.lst a6) (yqb _ _) ?_
     rfl'
     refine ⟨O,_,rfl,(show ybo H3 O (.str q.nm) (some (.ref tu)) by rw [<- hv]; exact .inl ⟨kvs,.inr q.nm,.inr ⟨o,SB _ _ aQ.1⟩,rfl,rfl⟩),?_⟩
     rfl'
     refine ⟨tu,_,0,_,rfl,rfl,SqT.of a3.1,rfl,?_⟩
     refine yvs aL a4.sd (by decide) ?_
     rfl'
     have bO:∀ i,(txi q.path i).length <= 1:=yz8 fun y hy=>((hP.s.pz.sz q ac).2.2.2 y hy).2
     refine ⟨fq,rfl,⟨_,SqL.of a6⟩,yab (K:=K) (a:=fq) (xs:=refs cx q.path.length) (fun j σ2 F3=>∃ (W:Option V),σ2=[some (.ref l),some (.ref lo),some (.int m),some (.ref nl),some (.ref C),some (.ref O),v6,v7,W,v9,a5,some (.int (0+(t:Int))),some (kV (.inr q.nm)),some (.ref fq),none]/\y0 HB F3/\F3 fq=some (.lst (refs cx q.path.length))/\∀ i,i < q.path.length->∃ xs,F3 (cx i)=some (.lst xs)/\xs.length <= 1+j)
      ⟨_,rfl,SB,a6,fun i hi=>⟨_,(aH i hi).2.2,by rw [List.length_map]; have:=bO i; omega⟩⟩ (by rintro j σ2 F3 _ ⟨_,_,_,h,_⟩; exact SqL.of h) ?_ ?_⟩
     ·rintro j z σ2 F3 hz ⟨W,rfl,S3,av,b2⟩
      obtain ⟨rfl,ag⟩:=j8 hz
      obtain ⟨xs,aT,cn⟩:=b2 j ag
      rfl'
      refine jr aT ?_
      rfl'
      refine xv aT (vx (by omega)) ?_
      rfl'
      obtain ⟨f1,f2,f3⟩:=aH j ag
      refine ⟨_,rfl,fun b o e=>yj (yd e f1) (S3 _ _ e),yj f2.symm av,fun i hi=>?_⟩
      by_cases e:cx i=cx j
      ·exact ⟨_,by rw [e]; exact ya,by rw [List.length_append,List.length_singleton]; omega⟩
      ·obtain ⟨ys,h1,h2⟩:=b2 i hi
       exact ⟨ys,yj e h1,by omega⟩
     ·rintro σ2 F3 ⟨W,rfl,S3,av,_⟩
      rfl'
      refine jr av ?_
      rfl'
      refine ⟨by walk_at "len",fun z hz0=>?_⟩
      with_reducible first | refine yw hz0 fun F4 S4 hz4=>?_ | refine ve hz0 fun F4 S4 hz4=>?_
      rfl'
      refine xv (S4 _ _ av) (vx (by rw [wa]; omega)) ?_
      rfl'
      have S5:y0 HB (upd F4 fq (.lst (refs cx q.path.length++[V.ref z]))):=fun b o e=>yj (yd e ax) (S4 _ _ (S3 _ _ e))
      exact ⟨c',af,p',ab,aa,L2,aP,U',_,_,_,rfl,bn.same S5,aQ.same S5⟩
    ·rintro σ2 F ⟨c,J,p,g,D,L,X,U,W,R,N,rfl,hP,hm⟩
     refine ⟨O,o,.dK kvs,(fun o u e=>by rw [f.kp.1] at e; cases e),hm.1,?_⟩
     exact ⟨c,J,p,g,D,L,X,U,_,_,_,_,rfl,⟨hP.oth hm rfl (fun _ _ _ z=>nomatch z) f.nb But.upd,⟨ya,hm.2⟩,f.nb,f.nms,f.pl,f.bas⟩⟩
   ·clear f W c J p g D L X U
    rintro σ2 G ⟨c,J,p,g,D,L,X,U,W,ak,R,N,rfl,f⟩
    have ay:=f.ph.bs _ _ a7
    have bf:m - 1 < I.length:=by omega
    have b4:0 < I.length:=by omega
    obtain ⟨r,a0,aF⟩:=ynt (j:=m - 1) (b:=I[m - 1]) f.nms (by omega) (List.getElem?_eq_getElem bf)
    have aq:=f.ph.s.pz.nm r a0
    have cs:=yey aq.1
    have aY:=f.ph.s.me
    have an:nmV (.str r.nm)=false->False:=fun z=>by rw [show nmV (.str r.nm)=nmS r.nm from rfl,aq.1] at z; cases z
    rfl'
    refine yal (v:=.str r.nm) (SqL.of ay) (by rw [show ((m:Int) - 1)=((m - 1:Nat):Int) by omega]; exact xp (by rw [List.getElem?_map,List.getElem?_eq_getElem bf,aF]; rfl)) ?_
    rfl'
    refine ⟨fun σ2 F=>∃ x:Option Str,σ2=[some (.ref l),some (.ref lo),some (.int m),some (.ref nl),some (.ref C),some (.ref O),v6,v7,W,some (baV x),a5,ak,R,N,some (.str r.nm)]/\(∀ b,x=some b->m≠1/\b=I[0])/\y0 G F,?_,?_⟩
    ·rfl'
     refine yal (v:=.str I[0]) (SqL.of ay) (by exact xp (j:=0) (by rw [List.getElem?_map,List.getElem?_eq_getElem b4]; rfl)) ?_
     rfl'
     refine ⟨by walk_at "len",fun z hz0=>?_⟩
     with_reducible first | refine yw hz0 fun G1 S1 hz1=>?_ | refine ve hz0 fun G1 S1 hz1=>?_
     have aZ:=S1 _ _ aY
     rfl'
     refine u6 (fun h1=>?_) (fun h1=>?_)
     ·rfl'
      refine .inr ⟨true,rfl,?_⟩
      refine yal (v:=.non) (SqL.of hz1) (xp (j:=1) rfl) ?_
      rfl'
      exact ⟨none,rfl,(fun b e=>by cases e),S1⟩
     ·rfl'
      refine ⟨C,ds,d,_,_,_,n,kd,ps,1,P,.str r.nm,"str",rfl,aZ,f.ph.s.pz.same S1,.str _,(fun s e=>by cases e; omega),(fun z=>(an z).elim),(fun b e _ Z=>by cases e; exact absurd rfl (Z r a0)),fun r' ba e hb H' S'=>?_⟩
      rfl'
      cases r'.bs with
      | none =>
       refine .inr ⟨false,rfl,?_⟩
       refine yal (v:=.str I[0]) (SqL.of (S' _ _ hz1)) (xp (j:=0) rfl) ?_
       rfl'
       exact ⟨some I[0],rfl,(fun b e=>⟨by omega,(Option.some.inj e).symm⟩),S1.trans S'⟩
      | some y =>
       refine .inr ⟨true,rfl,?_⟩
       refine yal (v:=.non) (SqL.of (S' _ _ hz1)) (xp (j:=1) rfl) ?_
       rfl'
       exact ⟨none,rfl,(fun b e=>by cases e),S1.trans S'⟩
    rintro σ2 F ⟨x,rfl,hx,SF⟩
    have ad:=f.ph.same SF
    have bR:=f.kp.same SF
    rfl'
    refine ⟨by walk_at "len",fun ln hln0=>?_⟩
    with_reducible first | refine yw hln0 fun F1 S1 hln1=>?_ | refine ve hln0 fun F1 S1 hln1=>?_
    have a2:=ad.same S1
    have bt:=bR.same S1
    rfl'
    refine ⟨fun σ2 F2=>∃ (Y:List (Str × List Int)) (ln:Addr) (cx:Nat->Addr),σ2=[some (.ref l),some (.ref lo),some (.int m),some (.ref nl),some (.ref C),some (.ref O),v6,v7,W,some (baV x),some (.ref ln),ak,R,N,some (.str r.nm)]/\To P x Y/\Y.length <= m/\TxR F2 (WD d C c g D U) Y ln cx/\y0 F1 F2,?_,?_⟩
    ·rfl'
     cases x with
     | none =>
      refine ys0 (fun _=>?_) (fun z=>absurd rfl z)
      exact ⟨[],ln,fun _=>0,rfl,rfl,Nat.zero_le _,⟨Kp.new ad.s.lvd hln0 hln1,fun i hi=>absurd hi (Nat.not_lt_zero i)⟩,y0.refl _⟩
     | some b =>
      refine ys0 (fun z=>nomatch z) (fun _=>?_)
      obtain ⟨hm,rfl⟩:=hx b rfl
      obtain ⟨r0,ai,aX⟩:=ynt (j:=0) (b:=I[0]) f.nms (by omega) (List.getElem?_eq_getElem b4)
      rw [<- aX]
      obtain ⟨v,hv,tu,lr,tr,cx,rfl,a3,a4,ao⟩:=a2.v.2 r0 ai
      have a1:∀ {F:Hp},y0 F1 F->ybo F O (.str r0.nm) (some (.ref tu)):=fun {F} S=>by
       rw [<- hv]
       exact ybo.k (k:=.inr r0.nm) (S _ _ bt.1)
      rfl'
      refine ⟨O,_,rfl,a1 (y0.refl _),?_⟩
      rfl'
      refine ⟨tu,_,0,_,rfl,rfl,SqT.of a3.1,rfl,?_⟩
      rfl'
      refine ⟨O,_,rfl,a1 (y0.refl _),?_⟩
      rfl'
      refine ⟨tu,_,1,_,rfl,rfl,SqT.of a3.1,rfl,?_⟩
      rfl'
      refine ⟨by walk_at "len",fun q hq0=>?_⟩
      with_reducible first | refine yw hq0 fun F3 T1 hq1=>?_ | refine ve hq0 fun F3 T1 hq1=>?_
      have aO:=f.pl r0 ai
      refine ⟨lr,q,_,_,rfl,rfl,T1 _ _ a4.1.1,hq1,by rw [wa,sizeLine_eq]; show _+1 <= _; omega,fun l3 hl30=>?_⟩
      with_reducible first | refine yw hl30 fun F4 T2 hl32=>?_ | refine ve hl30 fun F4 T2 hl32=>?_
      rfl'
      have ah:=T1.trans T2
      exact ⟨r0.path++[(r0.nm,r0.tx)],l3,_,rfl,⟨r0,ai,rfl,rfl⟩,by rw [List.length_append,List.length_singleton]; omega,a4.snoc (x:=(r0.nm,r0.tx)) ao ah (Kp.new (a2.same T1).s.lvd hl30 hl32),ah⟩
    rintro σ2 F2 ⟨Y,aM,cx,rfl,aI,ci,aC,S2⟩
    have aV:=a2.same S2
    have c0:=aV.s.me
    have bL:∀ q,q∈P->q.bs≠some r.nm:=fun q hq e=>by
     obtain ⟨j,h1,h2⟩:=f.bas q hq _ e
     rw [aF] at h2
     have h3:j < I.length:=by omega
     rw [List.getElem?_eq_getElem h3] at h2
     have:=yn4 aJ (Option.some.inj h2)
     omega
    have bD:x≠some r.nm:=fun e=>by
     obtain ⟨h1,h2⟩:=hx _ e
     rw [aF] at h2
     have:=yn4 aJ h2
     omega
    rfl'
    refine ⟨C,ds,ll,d,c,J,p,g,D,lk,tp,n,kd,ps,1000,1,P,L,X,U,.str r.nm,"str",rfl,aV.s,.str _,(fun s e=>by cases e; omega),(fun z=>(an z).elim),(fun b e _ Z=>by cases e; exact absurd rfl (Z r a0)),(fun r' ba e hu=>?_),fun r' ba e hu c' af p' ab aa U' F3 aE g3=>?_⟩
    ·obtain ⟨q,hq,e2⟩:=hu
     rw [<- V.str.inj e] at e2
     exact absurd e2 (bL q hq)
    rw [<- V.str.inj e] at aE
    have bd:TxR F3 (WD d C c' ab aa U') Y aM cx:=aC.mv fun _ _ _ k=>k.go g3
    have c9:=aE.me
    have bB:(P.filter fun q=>decide (q.nm≠r.nm)).length <= 9:=by
     have h1:=List.length_filter_le (fun q:Pc=>decide (q.nm≠r.nm)) P
     have h2:=congrArg List.length f.nms
     rw [List.length_map,List.length_take] at h2
     omega
    rfl'
    refine ⟨by walk_at "len",fun t7 ht70=>?_⟩
    with_reducible first | refine yw ht70 fun F4 S4 ht74=>?_ | refine ve ht70 fun F4 S4 ht74=>?_
    have bC:=aE.same S4
    rfl'
    refine ⟨C,ds,ll,d,c',af,p',ab,aa,lk,tp,n,kd,ps,1000,1,_,[],[],U',r.nm,x,Y,t7,[7],rfl,bC,aq.1,aq.2,⟨ht74,(fun i hi=>by rw [List.mem_singleton.mp hi]; omega),Nat.le_refl _⟩,aI.less bD,(fun q hq=>by simpa using (List.mem_filter.mp hq).2),by omega,by omega,fun ob od dl c5 bq p5 be bl br U5 F5 ae bi aR g5=>?_⟩
    have b0:TxR F5 (WD d C c5 be bl U5) Y aM cx:=(bd.mv fun _ _ _ k=>k.same S4).mv fun _ _ _ k=>k.go g5
    have bU:=ae.me
    generalize aK:(⟨r.nm,x,Y,[7],ob,od,dl⟩:Pc)=q9 at ae
    have a9:q9∈(P.filter fun q=>decide (q.nm≠r.nm))++[q9]:=List.mem_append_right _ (List.mem_singleton.mpr rfl)
    have n9:q9.nm=r.nm:=by rw [<- aK]
    have p9:q9.path=Y:=by rw [<- aK]
    have t9:q9.tx=[7]:=by rw [<- aK]
    rfl'
    refine ⟨C,ds,ll,d,c5,bq,p5,be,bl,lk,tp,n,kd,ps,1000,1,_,_,br,U5,.str r.nm,"str",rfl,ae,.str _,(fun s e=>by cases e; omega),(fun z=>(an z).elim),(fun b e _ Z=>absurd (V.str.inj e ▸ n9) (Z q9 a9)),fun r6 b3 bv c6 bF p6 bh b9 L6 bE U6 fq cy HB F6 h6 g6 S6 ax a6 bc=>?_⟩
    obtain rfl:q9=r6:=yoe ae.pz.nd a9 b3 (by rw [n9]; exact V.str.inj bv)
    rw [p9] at a6 bc
    have bg:TxR F6 (WD d C c6 bh b9 U6) Y aM cx:=(b0.mv fun _ _ _ k=>k.go (g6.wd (d:=d))).mv fun _ _ _ k=>k.same S6
    have aL:Sd K F6 (.ref fq) (.list ((List.range Y.length).map fun i=>.list ((txi Y i).map PyData.int))) 2:=Sd.lst (SqL.of a6) (Sds.refs _ fun i hi=>Sd.lst (SqL.of (bc i hi).2.2) (Sds.ints _))
    have bj:=h6.same S6
    have bW:=bj.me
    rfl'
    refine yvs aL bg.sd (by decide) ?_
    rfl'
    refine ⟨C,ds,ll,d,c6,bF,p6,bh,b9,lk,tp,n,kd,ps,1000,1,_,L6,bE,U6,.str r.nm,"str",rfl,bj,.str _,(fun s e=>by cases e; omega),(fun z=>(an z).elim),(fun b e _ Z=>absurd (V.str.inj e ▸ n9) (Z q9 a9)),fun r7 bb bz c7 cm p7 cd cz L7 cc U7 gq co F7 h7 g7 S7 bZ b5=>?_⟩
    obtain rfl:q9=r7:=yoe ae.pz.nd a9 bb (by rw [n9]; exact V.str.inj bz)
    rw [t9] at b5
    rfl'
    refine ⟨by walk_at "len",fun z7 hz70=>?_⟩
    with_reducible first | refine yw hz70 fun F8 S8 hz78=>?_ | refine ve hz70 fun F8 S8 hz78=>?_
    rfl'
    refine yvs (d:=.list ([7].map PyData.int)) (k:=1) (Sd.lst (SqL.of (S8 _ _ b5)) (Sds.ints _)) (Sd.lst (SqL.of hz78) (Sds.ints [7])) (by decide) ?_
    exact k _
end
theorem all_mk {l:W.OpenLaw} {w:World} {K:W.Frag} {h:Heap} {mg:Str->Option Value} (X:K.In h) (G:h.Ns mainGlobals mg) (hfa:mg "law"=some (.ref fa))
  (aC_Even:W.nsIn K mainGlobals "Even"=some (some (.ref C_Even)))
  (aC_Quick:W.nsIn K mainGlobals "Quick"=some (some (.ref C_Quick)))
  (aC_Run:W.nsIn K mainGlobals "Run"=some (some (.ref C_Run)))
  (aC_Mx:W.nsIn K mainGlobals "Mixer"=some (some (.ref C_Mx)))
  (aC_Book:W.nsIn K mainGlobals "Book"=some (some (.ref C_Book)))
  (aC_Span:W.nsIn K mainGlobals "Span"=some (some (.ref C_Span)))
  (aC_Sk:W.nsIn K mainGlobals "Seeker"=some (some (.ref C_Sk)))
  (aC_Ft:W.nsIn K mainGlobals "Foreteller"=some (some (.ref C_Ft)))
  (aC_Chain:W.nsIn K mainGlobals "Chain"=some (some (.ref C_Chain)))
  (aC_Piece:W.nsIn K mainGlobals "Piece"=some (some (.ref C_Piece)))
  (aC_Store:W.nsIn K mainGlobals "Store"=some (some (.ref C_Store)))
  (aC_NT:W.nsIn K mainGlobals "NoText"=some (some (.ref C_NT)))
  (aC_NY:W.nsIn K mainGlobals "NoBytes"=some (some (.ref C_NY)))
  (aC_NoMost:W.nsIn K mainGlobals "NoMost"=some (some (.ref C_NoMost)))
  (aC_NC:W.nsIn K mainGlobals "NoChance"=some (some (.ref C_NC)))
  (aC_NB:W.nsIn K mainGlobals "NoBit"=some (some (.ref C_NB)))
  (aC_NL:W.nsIn K mainGlobals "NoLooks"=some (some (.ref C_NL)))
  (aC_NP:W.nsIn K mainGlobals "NoPress"=some (some (.ref C_NP)))
  (aC_NoName:W.nsIn K mainGlobals "NoName"=some (some (.ref C_NoName)))
  (aC_TooLong:W.nsIn K mainGlobals "TooLong"=some (some (.ref C_TooLong)))
  (aC_Taken:W.nsIn K mainGlobals "Taken"=some (some (.ref C_Taken)))
  (aC_Full:W.nsIn K mainGlobals "Full"=some (some (.ref C_Full)))
  (aC_NoPiece:W.nsIn K mainGlobals "NoPiece"=some (some (.ref C_NoPiece)))
  (aC_InUse:W.nsIn K mainGlobals "InUse"=some (some (.ref C_InUse)))
  (y_q1:Dgf K mg "is_whole" vfs f_q1 d_q1)
  (y_q2:Dgf K mg "is_bit" vfy f_q2 d_q2)
  (y_q3:Dgf K mg "is_chance" vfl f_q3 d_q3)
  (y_q4:Dgf K mg "is_sign" vfz f_q4 d_q4)
  (y_q5:Dgf K mg "is_list_of_signs" vfp f_q5 d_q5)
  (y_q6:Dgf K mg "checked_text" vfx f_q6 d_q6)
  (y_q7:Dgf K mg "checked_bytes" vfq f_q7 d_q7)
  (y_q8:Dgf K mg "check_most" vfk f_q8 d_q8)
  (y_q9:Dgf K mg "check_chance" vfm f_q9 d_q9)
  (y_q10:Dgf K mg "check_bit" yv2 f_q10 d_q10)
  (y_q11:Dgf K mg "gives" ywn f_q11 d_q11)
  (y_q12:Dgm K C_Even "__init__" "Even.__init__" ywp f_q12 d_q12)
  (y_q13:Dgm K C_Even "chance" "Even.chance" ywh f_q13 d_q13)
  (y_q14:Dgm K C_Even "seen" "Even.seen" yv7 f_q14 d_q14)
  (y_q15:Dgm K C_Quick "__init__" "Quick.__init__" ywr f_q15 d_q15)
  (y_q16:Dgm K C_Quick "chance" "Quick.chance" ywm f_q16 d_q16)
  (y_q17:Dgm K C_Quick "seen" "Quick.seen" ywu f_q17 d_q17)
  (y_q18:Dgm K C_Run "__init__" "Run.__init__" yw5 f_q18 d_q18)
  (y_q19:Dgm K C_Run "chance" "Run.chance" yxd f_q19 d_q19)
  (y_q20:Dgm K C_Run "seen" "Run.seen" yxf f_q20 d_q20)
  (y_q21:Dgf K mg "slot_of" yvn f_q21 d_q21)
  (y_q22:Dgf K mg "is_kind" yxr f_q22 d_q22)
  (y_q23:Dgf K mg "is_place" yw9 f_q23 d_q23)
  (y_q24:Dgf K mg "are_places" yxh f_q24 d_q24)
  (y_q25:Dgf K mg "is_look" yvy f_q25 d_q25)
  (y_q26:Dgf K mg "checked_looks" ywg f_q26 d_q26)
  (y_q27:Dgf K mg "sign_back" yxp f_q27 d_q27)
  (y_q28:Dgf K mg "context_of" yxk f_q28 d_q28)
  (y_q29:Dgm K C_Book "__init__" "Book.__init__" yw0 f_q29 d_q29)
  (y_q30:Dgm K C_Book "slot_at" "Book.slot_at" yxe f_q30 d_q30)
  (y_q31:Dgm K C_Mx "__init__" "Mixer.__init__" yvv f_q31 d_q31)
  (y_q32:Dgm K C_Mx "mixed" "Mixer.mixed" yv5 f_q32 d_q32)
  (y_q33:Dgm K C_Mx "learn" "Mixer.learn" yxg f_q33 d_q33)
  (y_q34:Dgm K C_Ft "__init__" "Foreteller.__init__" yw6 f_q34 d_q34)
  (y_q35:Dgm K C_Ft "arrive" "Foreteller.arrive" ywv f_q35 d_q35)
  (y_q36:Dgm K C_Ft "chances" "Foreteller.chances" yws f_q36 d_q36)
  (y_q37:Dgm K C_Ft "chance" "Foreteller.chance" yvq f_q37 d_q37)
  (y_q38:Dgm K C_Ft "see" "Foreteller.see" yxt f_q38 d_q38)
  (y_q39:Dgm K C_Ft "step" "Foreteller.step" yv0 f_q39 d_q39)
  (y_q40:Dgm K C_Ft "step_in_sign" "Foreteller.step_in_sign" ywz f_q40 d_q40)
  (y_q41:Dgf K mg "bits_of" yvl f_q41 d_q41)
  (y_q42:Dgf K mg "decisions_of" ywt f_q42 d_q42)
  (y_q43:Dgf K mg "written" ywa f_q43 d_q43)
  (y_q44:Dgf K mg "first_block" yv6 f_q44 d_q44)
  (y_q45:Dgm K C_Span "__init__" "Span.__init__" ywo f_q45 d_q45)
  (y_q46:Dgm K C_Span "cut" "Span.cut" ywc f_q46 d_q46)
  (y_q47:Dgm K C_Span "narrow" "Span.narrow" yvz f_q47 d_q47)
  (y_q48:Dgm K C_Span "holds_block" "Span.holds_block" yxm f_q48 d_q48)
  (y_q49:Dgm K C_Span "told" "Span.told" yv4 f_q49 d_q49)
  (y_q50:Dgm K C_Sk "__init__" "Seeker.__init__" yxa f_q50 d_q50)
  (y_q51:Dgm K C_Sk "follow" "Seeker.follow" yxn f_q51 d_q51)
  (y_q52:Dgm K C_Sk "byte_at" "Seeker.byte_at" ywi f_q52 d_q52)
  (y_q53:Dgm K C_Sk "bit" "Seeker.bit" ywe f_q53 d_q53)
  (y_q54:Dgm K C_Sk "told" "Seeker.told" yxc f_q54 d_q54)
  (y_q55:Dgf K mg "press_by" yxl f_q55 d_q55)
  (y_q56:Dgf K mg "bit_by" yvu f_q56 d_q56)
  (y_q57:Dgf K mg "sign_by" yw1 f_q57 d_q57)
  (y_q58:Dgf K mg "text_by" yxb f_q58 d_q58)
  (y_q59:Dgf K mg "read_by" yvx f_q59 d_q59)
  (y_q60:Dgm K C_Chain "__init__" "Chain.__init__" yxj f_q60 d_q60)
  (y_q61:Dgm K C_Chain "grow" "Chain.grow" yw4 f_q61 d_q61)
  (y_q62:Dgm K C_Chain "press" "Chain.press" ywd f_q62 d_q62)
  (y_q63:Dgm K C_Chain "read" "Chain.read" yxs f_q63 d_q63)
  (y_q64:Dgf K mg "is_name" yv9 f_q64 d_q64)
  (y_q65:Dgf K mg "checked_name" yxo f_q65 d_q65)
  (y_q66:Dgf K mg "check_base" yvp f_q66 d_q66)
  (y_q67:Dgm K C_Piece "__init__" "Piece.__init__" ywb f_q67 d_q67)
  (a_q68:W.findIn K (.ref C_Store) "__init__"=some (some (.ref f_q68)))
  (i_q68:W.isFn K (.ref f_q68)=true)
  (l_q68:K.lookup f_q68=some ⟨oc_q68,od_q68,.func (W.fnOf "__init__" "Store.__init__" (w6 yk2) (wq yk2) (yg yk2) (.ref D_q68) kV_q68 dc_q68 pm_q68 an_q68 cd_q68 ct_q68),sl_q68⟩)
  (ld_q68:K.lookup D_q68=some ⟨.type "tuple",Do_q68,.seq #[.int 1000 Dt_q68_0] Dn_q68,Ds_q68⟩)
  (c_q68:W.codeIn K cd_q68 "Store.__init__"=true)
  (k_q68:W.keepIn K (.ref f_q68)=true)
  (a_q69:W.findIn K (.ref C_Store) "put"=some (some (.ref f_q69)))
  (i_q69:W.isFn K (.ref f_q69)=true)
  (l_q69:K.lookup f_q69=some ⟨oc_q69,od_q69,.func (W.fnOf "put" "Store.put" (w6 yk1) (wq yk1) (yg yk1) (.ref D_q69) kV_q69 dc_q69 pm_q69 an_q69 cd_q69 ct_q69),sl_q69⟩)
  (ld_q69:K.lookup D_q69=some ⟨.type "tuple",Do_q69,.seq #[.none] Dn_q69,Ds_q69⟩)
  (c_q69:W.codeIn K cd_q69 "Store.put"=true)
  (k_q69:W.keepIn K (.ref f_q69)=true)
  (y_q70:Dgm K C_Store "check_length" "Store.check_length" ywq f_q70 d_q70)
  (y_q71:Dgm K C_Store "check_room" "Store.check_room" yw7 f_q71 d_q71)
  (y_q72:Dgm K C_Store "piece_at" "Store.piece_at" yv1 f_q72 d_q72)
  (y_q73:Dgm K C_Store "links_to" "Store.links_to" ywy f_q73 d_q73)
  (y_q74:Dgm K C_Store "chain_to" "Store.chain_to" yvw f_q74 d_q74)
  (y_q75:Dgm K C_Store "texts_to" "Store.texts_to" ywl f_q75 d_q75)
  (y_q76:Dgm K C_Store "text_of" "Store.text_of" yww f_q76 d_q76)
  (y_q77:Dgm K C_Store "base_of" "Store.base_of" yxi f_q77 d_q77)
  (y_q78:Dgm K C_Store "learned_of" "Store.learned_of" yvm f_q78 d_q78)
  (y_q79:Dgm K C_Store "drop" "Store.drop" ywj f_q79 d_q79)
  (y_q80:Dgf K mg "_law_mixed" yw8 f_q80 d_q80)
  (y_q81:Dgf K mg "_law_looks" ywk f_q81 d_q81)
  (y_q82:Dgf K mg "_law_names" yvt f_q82 d_q82)
  (y_law:Dgf K mg "law" yw2 f_law d_law)
  (pg_Even:W.plainGet K C_Even Str.empty=true)
  (hd_Even:W.hasDictIn K C_Even=true)
  (po_Even:W.plainOver K C_Even=true)
  (sa_Even:W.findIn K (.ref C_Even) "__setattr__"=some (some (.builtin "object.__setattr__")))
  (mk_Even:W.makesIn K C_Even=true)
  (kc_Even:W.keepIn K (.ref C_Even)=true)
  (n_Even_noughts:W.findIn K (.ref C_Even) "noughts"=some none)
  (n_Even_ones:W.findIn K (.ref C_Even) "ones"=some none)
  (pg_Quick:W.plainGet K C_Quick Str.empty=true)
  (hd_Quick:W.hasDictIn K C_Quick=true)
  (po_Quick:W.plainOver K C_Quick=true)
  (sa_Quick:W.findIn K (.ref C_Quick) "__setattr__"=some (some (.builtin "object.__setattr__")))
  (mk_Quick:W.makesIn K C_Quick=true)
  (kc_Quick:W.keepIn K (.ref C_Quick)=true)
  (n_Quick_held:W.findIn K (.ref C_Quick) "held"=some none)
  (pg_Run:W.plainGet K C_Run Str.empty=true)
  (hd_Run:W.hasDictIn K C_Run=true)
  (po_Run:W.plainOver K C_Run=true)
  (sa_Run:W.findIn K (.ref C_Run) "__setattr__"=some (some (.builtin "object.__setattr__")))
  (mk_Run:W.makesIn K C_Run=true)
  (kc_Run:W.keepIn K (.ref C_Run)=true)
  (n_Run_last:W.findIn K (.ref C_Run) "last"=some none)
  (n_Run_length:W.findIn K (.ref C_Run) "length"=some none)
  (pg_Mx:W.plainGet K C_Mx Str.empty=true)
  (hd_Mx:W.hasDictIn K C_Mx=true)
  (po_Mx:W.plainOver K C_Mx=true)
  (sa_Mx:W.findIn K (.ref C_Mx) "__setattr__"=some (some (.builtin "object.__setattr__")))
  (mk_Mx:W.makesIn K C_Mx=true)
  (kc_Mx:W.keepIn K (.ref C_Mx)=true)
  (n_Mx_kept:W.findIn K (.ref C_Mx) "kept"=some none)
  (pg_Book:W.plainGet K C_Book Str.empty=true)
  (hd_Book:W.hasDictIn K C_Book=true)
  (po_Book:W.plainOver K C_Book=true)
  (sa_Book:W.findIn K (.ref C_Book) "__setattr__"=some (some (.builtin "object.__setattr__")))
  (mk_Book:W.makesIn K C_Book=true)
  (kc_Book:W.keepIn K (.ref C_Book)=true)
  (n_Book_look:W.findIn K (.ref C_Book) "look"=some none)
  (n_Book_slots:W.findIn K (.ref C_Book) "slots"=some none)
  (pg_Span:W.plainGet K C_Span Str.empty=true)
  (hd_Span:W.hasDictIn K C_Span=true)
  (po_Span:W.plainOver K C_Span=true)
  (sa_Span:W.findIn K (.ref C_Span) "__setattr__"=some (some (.builtin "object.__setattr__")))
  (mk_Span:W.makesIn K C_Span=true)
  (kc_Span:W.keepIn K (.ref C_Span)=true)
  (n_Span_low:W.findIn K (.ref C_Span) "low"=some none)
  (n_Span_width:W.findIn K (.ref C_Span) "width"=some none)
  (n_Span_size:W.findIn K (.ref C_Span) "size"=some none)
  (pg_Sk:W.plainGet K C_Sk Str.empty=true)
  (hd_Sk:W.hasDictIn K C_Sk=true)
  (po_Sk:W.plainOver K C_Sk=true)
  (sa_Sk:W.findIn K (.ref C_Sk) "__setattr__"=some (some (.builtin "object.__setattr__")))
  (mk_Sk:W.makesIn K C_Sk=true)
  (kc_Sk:W.keepIn K (.ref C_Sk)=true)
  (n_Sk_data:W.findIn K (.ref C_Sk) "data"=some none)
  (n_Sk_span:W.findIn K (.ref C_Sk) "span"=some none)
  (n_Sk_number:W.findIn K (.ref C_Sk) "number"=some none)
  (n_Sk_reached:W.findIn K (.ref C_Sk) "reached"=some none)
  (pg_Ft:W.plainGet K C_Ft Str.empty=true)
  (hd_Ft:W.hasDictIn K C_Ft=true)
  (po_Ft:W.plainOver K C_Ft=true)
  (sa_Ft:W.findIn K (.ref C_Ft) "__setattr__"=some (some (.builtin "object.__setattr__")))
  (mk_Ft:W.makesIn K C_Ft=true)
  (kc_Ft:W.keepIn K (.ref C_Ft)=true)
  (n_Ft_looks:W.findIn K (.ref C_Ft) "looks"=some none)
  (n_Ft_books:W.findIn K (.ref C_Ft) "books"=some none)
  (n_Ft_mixer:W.findIn K (.ref C_Ft) "mixer"=some none)
  (n_Ft_ended:W.findIn K (.ref C_Ft) "ended"=some none)
  (n_Ft_place:W.findIn K (.ref C_Ft) "place"=some none)
  (n_Ft_present:W.findIn K (.ref C_Ft) "present"=some none)
  (pg_Chain:W.plainGet K C_Chain Str.empty=true)
  (hd_Chain:W.hasDictIn K C_Chain=true)
  (po_Chain:W.plainOver K C_Chain=true)
  (sa_Chain:W.findIn K (.ref C_Chain) "__setattr__"=some (some (.builtin "object.__setattr__")))
  (mk_Chain:W.makesIn K C_Chain=true)
  (kc_Chain:W.keepIn K (.ref C_Chain)=true)
  (n_Chain_foreteller:W.findIn K (.ref C_Chain) "foreteller"=some none)
  (n_Chain_links:W.findIn K (.ref C_Chain) "links"=some none)
  (n_Chain_texts:W.findIn K (.ref C_Chain) "texts"=some none)
  (pg_Piece:W.plainGet K C_Piece Str.empty=true)
  (hd_Piece:W.hasDictIn K C_Piece=true)
  (po_Piece:W.plainOver K C_Piece=true)
  (sa_Piece:W.findIn K (.ref C_Piece) "__setattr__"=some (some (.builtin "object.__setattr__")))
  (mk_Piece:W.makesIn K C_Piece=true)
  (kc_Piece:W.keepIn K (.ref C_Piece)=true)
  (n_Piece_base:W.findIn K (.ref C_Piece) "base"=some none)
  (n_Piece_data:W.findIn K (.ref C_Piece) "data"=some none)
  (pg_Store:W.plainGet K C_Store Str.empty=true)
  (hd_Store:W.hasDictIn K C_Store=true)
  (po_Store:W.plainOver K C_Store=true)
  (sa_Store:W.findIn K (.ref C_Store) "__setattr__"=some (some (.builtin "object.__setattr__")))
  (mk_Store:W.makesIn K C_Store=true)
  (kc_Store:W.keepIn K (.ref C_Store)=true)
  (n_Store_looks:W.findIn K (.ref C_Store) "looks"=some none)
  (n_Store_most:W.findIn K (.ref C_Store) "most"=some none)
  (n_Store_pieces:W.findIn K (.ref C_Store) "pieces"=some none)
  (n_Store_chain:W.findIn K (.ref C_Store) "chain"=some none)
  (x_NT:XCls K C_NT)
  (r_NT:W.excIn K C_NT [.type "ValueError",.type "Exception",.type "BaseException",.type "object"] "ValueError.__new__"=true)
  (x_NY:XCls K C_NY)
  (r_NY:W.excIn K C_NY [.type "ValueError",.type "Exception",.type "BaseException",.type "object"] "ValueError.__new__"=true)
  (x_NoMost:XCls K C_NoMost)
  (r_NoMost:W.excIn K C_NoMost [.type "ValueError",.type "Exception",.type "BaseException",.type "object"] "ValueError.__new__"=true)
  (x_NC:XCls K C_NC)
  (r_NC:W.excIn K C_NC [.type "ValueError",.type "Exception",.type "BaseException",.type "object"] "ValueError.__new__"=true)
  (x_NB:XCls K C_NB)
  (r_NB:W.excIn K C_NB [.type "ValueError",.type "Exception",.type "BaseException",.type "object"] "ValueError.__new__"=true)
  (x_NL:XCls K C_NL)
  (r_NL:W.excIn K C_NL [.type "ValueError",.type "Exception",.type "BaseException",.type "object"] "ValueError.__new__"=true)
  (x_NP:XCls K C_NP)
  (r_NP:W.excIn K C_NP [.type "ValueError",.type "Exception",.type "BaseException",.type "object"] "ValueError.__new__"=true)
  (x_NoName:XCls K C_NoName)
  (r_NoName:W.excIn K C_NoName [.type "ValueError",.type "Exception",.type "BaseException",.type "object"] "ValueError.__new__"=true)
  (x_TooLong:XCls K C_TooLong)
  (r_TooLong:W.excIn K C_TooLong [.type "ValueError",.type "Exception",.type "BaseException",.type "object"] "ValueError.__new__"=true)
  (x_Taken:XCls K C_Taken)
  (r_Taken:W.excIn K C_Taken [.type "ValueError",.type "Exception",.type "BaseException",.type "object"] "ValueError.__new__"=true)
  (x_Full:XCls K C_Full)
  (r_Full:W.excIn K C_Full [.type "ValueError",.type "Exception",.type "BaseException",.type "object"] "ValueError.__new__"=true)
  (x_NoPiece:XCls K C_NoPiece)
  (r_NoPiece:W.excIn K C_NoPiece [.type "ValueError",.type "Exception",.type "BaseException",.type "object"] "ValueError.__new__"=true)
  (x_InUse:XCls K C_InUse)
  (r_InUse:W.excIn K C_InUse [.type "ValueError",.type "Exception",.type "BaseException",.type "object"] "ValueError.__new__"=true)
  (z_isinstance:W.nsIn K mainGlobals "isinstance"=some none)
  (z_int:W.nsIn K mainGlobals "int"=some none)
  (z_bool:W.nsIn K mainGlobals "bool"=some none)
  (z_list:W.nsIn K mainGlobals "list"=some none)
  (z_all:W.nsIn K mainGlobals "all"=some none)
  (z_len:W.nsIn K mainGlobals "len"=some none)
  (z_min:W.nsIn K mainGlobals "min"=some none)
  (z_max:W.nsIn K mainGlobals "max"=some none)
  (z_str:W.nsIn K mainGlobals "str"=some none)
  (z_tuple:W.nsIn K mainGlobals "tuple"=some none)
  (z_zip:W.nsIn K mainGlobals "zip"=some none)
  (z_sum:W.nsIn K mainGlobals "sum"=some none)
  (z_any:W.nsIn K mainGlobals "any"=some none)
  (z_range:W.nsIn K mainGlobals "range"=some none)
  (v_LEAST:W.nsIn K mainGlobals "LEAST"=some (some (.int 32768 t_LEAST)))
  (v_ONE:W.nsIn K mainGlobals "ONE"=some (some (.int 16777216 t_ONE)))
  (v_MOST_SIGNS:W.nsIn K mainGlobals "MOST_SIGNS"=some (some (.int 1000 t_MOST_SIGNS)))
  (v_MOST_BYTES:W.nsIn K mainGlobals "MOST_BYTES"=some (some (.int 12000 t_MOST_BYTES)))
  (v_MOST_COUNTED:W.nsIn K mainGlobals "MOST_COUNTED"=some (some (.int 255 t_MOST_COUNTED)))
  (v_FARTHEST:W.nsIn K mainGlobals "FARTHEST"=some (some (.int 8 t_FARTHEST)))
  (v_MOST_PLACES:W.nsIn K mainGlobals "MOST_PLACES"=some (some (.int 4 t_MOST_PLACES)))
  (v_MOST_LOOKS:W.nsIn K mainGlobals "MOST_LOOKS"=some (some (.int 6 t_MOST_LOOKS)))
  (v_NO_SIGN:W.nsIn K mainGlobals "NO_SIGN"=some (some (.int 256 t_NO_SIGN)))
  (v_FIRST_WEIGHT:W.nsIn K mainGlobals "FIRST_WEIGHT"=some (some (.int 1099511627776 t_FIRST_WEIGHT)))
  (v_OWN_PARTS:W.nsIn K mainGlobals "OWN_PARTS"=some (some (.int 31 t_OWN_PARTS)))
  (v_MOST_FIGURES:W.nsIn K mainGlobals "MOST_FIGURES"=some (some (.int 48 t_MOST_FIGURES)))
  (v_NODES_END:W.nsIn K mainGlobals "NODES_END"=some (some (.int 256 t_NODES_END)))
  (v_FIRST_WIDTH:W.nsIn K mainGlobals "FIRST_WIDTH"=some (some (.int 1099511627776 t_FIRST_WIDTH)))
  (v_FIRST_SIZE:W.nsIn K mainGlobals "FIRST_SIZE"=some (some (.int 5 t_FIRST_SIZE)))
  (v_LEAST_WIDTH:W.nsIn K mainGlobals "LEAST_WIDTH"=some (some (.int 4294967296 t_LEAST_WIDTH)))
  (v_MOST_LETTERS:W.nsIn K mainGlobals "MOST_LETTERS"=some (some (.int 8 t_MOST_LETTERS)))
  (v_LETTERS:W.nsIn K mainGlobals "LETTERS"=some (some (.str "abcdefghijklmnopqrstuvwxyz" t_LETTERS)))
  (v_MOST_PIECES:W.nsIn K mainGlobals "MOST_PIECES"=some (some (.int 60 t_MOST_PIECES)))
  (wa_KINDS:W.nsIn K mainGlobals "KINDS"=some (some (.ref W_KINDS)))
  (wl_KINDS:K.lookup W_KINDS=some ⟨.type "tuple",wd_KINDS,.seq #[.str "even" wt_KINDS_0,.str "quick" wt_KINDS_1,.str "run" wt_KINDS_2] wn_KINDS,ws_KINDS⟩)
  (wa_WORTHS:W.nsIn K mainGlobals "WORTHS"=some (some (.ref W_WORTHS)))
  (wl_WORTHS:K.lookup W_WORTHS=some ⟨.type "tuple",wd_WORTHS,.seq #[.int 128 wt_WORTHS_0,.int 64 wt_WORTHS_1,.int 32 wt_WORTHS_2,.int 16 wt_WORTHS_3,.int 8 wt_WORTHS_4,.int 4 wt_WORTHS_5,.int 2 wt_WORTHS_6,.int 1 wt_WORTHS_7] wn_WORTHS,ws_WORTHS⟩)
 :∃ fd:FuncData,(∀ (s:Shared) (v:Value),BindsTo s fd ⟨[v],[]⟩ [("_law_script",v)])/\∀ base:Heap,K.In base->base.Ns mainGlobals mg->wc l.prog w K mg base CX0 15 fa fd ["_law_script"] (yju K):=by
 have e:=hfa.symm.trans y_law.m
 cases e
 have a:=ynh (st:=yk2) l_q68 c_q68 k_q68
 have b:=ynh (st:=yk1) l_q69 c_q69 k_q69
 have T:Txt K mg ⟨f_q1,d_q1,f_q2,d_q2,f_q3,d_q3,f_q4,d_q4,f_q5,d_q5,f_q6,d_q6,f_q7,d_q7,f_q8,d_q8,f_q9,d_q9,f_q10,d_q10,f_q11,d_q11,f_q12,d_q12,f_q13,d_q13,f_q14,d_q14,f_q15,d_q15,f_q16,d_q16,f_q17,d_q17,f_q18,d_q18,f_q19,d_q19,f_q20,d_q20,f_q21,d_q21,f_q22,d_q22,f_q23,d_q23,f_q24,d_q24,f_q25,d_q25,f_q26,d_q26,f_q27,d_q27,f_q28,d_q28,f_q29,d_q29,f_q30,d_q30,f_q31,d_q31,f_q32,d_q32,f_q33,d_q33,f_q34,d_q34,f_q35,d_q35,f_q36,d_q36,f_q37,d_q37,f_q38,d_q38,f_q39,d_q39,f_q40,d_q40,f_q41,d_q41,f_q42,d_q42,f_q43,d_q43,f_q44,d_q44,f_q45,d_q45,f_q46,d_q46,f_q47,d_q47,f_q48,d_q48,f_q49,d_q49,f_q50,d_q50,f_q51,d_q51,f_q52,d_q52,f_q53,d_q53,f_q54,d_q54,f_q55,d_q55,f_q56,d_q56,f_q57,d_q57,f_q58,d_q58,f_q59,d_q59,f_q60,d_q60,f_q61,d_q61,f_q62,d_q62,f_q63,d_q63,f_q64,d_q64,f_q65,d_q65,f_q66,d_q66,f_q67,d_q67,f_q68,_,D_q68,Dt_q68_0,f_q69,_,D_q69,f_q70,d_q70,f_q71,d_q71,f_q72,d_q72,f_q73,d_q73,f_q74,d_q74,f_q75,d_q75,f_q76,d_q76,f_q77,d_q77,f_q78,d_q78,f_q79,d_q79,f_q80,d_q80,f_q81,d_q81,f_q82,d_q82,fa,d_law,C_Even,C_Quick,C_Run,C_Mx,C_Book,C_Span,C_Sk,C_Ft,C_Chain,C_Piece,C_Store,C_NT,C_NY,C_NoMost,C_NC,C_NB,C_NL,C_NP,C_NoName,C_TooLong,C_Taken,C_Full,C_NoPiece,C_InUse,t_LEAST,t_ONE,t_MOST_SIGNS,t_MOST_BYTES,t_MOST_COUNTED,t_FARTHEST,t_MOST_PLACES,t_MOST_LOOKS,t_NO_SIGN,t_FIRST_WEIGHT,t_OWN_PARTS,t_MOST_FIGURES,t_NODES_END,t_FIRST_WIDTH,t_FIRST_SIZE,t_LEAST_WIDTH,t_MOST_LETTERS,t_LETTERS,t_MOST_PIECES,W_KINDS,W_WORTHS⟩:=⟨
  y_q1.d1 fun _ _ _ _ _ _ _=>rfl,
  y_q2.d1 fun _ _ _ _ _ _ _=>rfl,
  y_q3.d1 fun _ _ _ _ _ _ _=>rfl,
  y_q4.d1 fun _ _ _ _ _ _ _=>rfl,
  y_q5.d2 fun _ _ _ _ _ _ _ _=>rfl,
  y_q6.d1 fun _ _ _ _ _ _ _=>rfl,
  y_q7.d1 fun _ _ _ _ _ _ _=>rfl,
  y_q8.d1 fun _ _ _ _ _ _ _=>rfl,
  y_q9.d1 fun _ _ _ _ _ _ _=>rfl,
  y_q10.d1 fun _ _ _ _ _ _ _=>rfl,
  y_q11.d2 fun _ _ _ _ _ _ _ _=>rfl,
  y_q12.d1 fun _ _ _ _ _ _ _=>rfl,
  y_q13.d1 fun _ _ _ _ _ _ _=>rfl,
  y_q14.d2 fun _ _ _ _ _ _ _ _=>rfl,
  y_q15.d1 fun _ _ _ _ _ _ _=>rfl,
  y_q16.d1 fun _ _ _ _ _ _ _=>rfl,
  y_q17.d2 fun _ _ _ _ _ _ _ _=>rfl,
  y_q18.d1 fun _ _ _ _ _ _ _=>rfl,
  y_q19.d1 fun _ _ _ _ _ _ _=>rfl,
  y_q20.d2 fun _ _ _ _ _ _ _ _=>rfl,
  y_q21.d1 fun _ _ _ _ _ _ _=>rfl,
  y_q22.d1 fun _ _ _ _ _ _ _=>rfl,
  y_q23.d1 fun _ _ _ _ _ _ _=>rfl,
  y_q24.d1 fun _ _ _ _ _ _ _=>rfl,
  y_q25.d1 fun _ _ _ _ _ _ _=>rfl,
  y_q26.d1 fun _ _ _ _ _ _ _=>rfl,
  y_q27.d2 fun _ _ _ _ _ _ _ _=>rfl,
  y_q28.d3 fun _ _ _ _ _ _ _ _ _=>rfl,
  y_q29.d2 fun _ _ _ _ _ _ _ _=>rfl,
  y_q30.d3 fun _ _ _ _ _ _ _ _ _=>rfl,
  y_q31.d2 fun _ _ _ _ _ _ _ _=>rfl,
  y_q32.d2 fun _ _ _ _ _ _ _ _=>rfl,
  y_q33.d3 fun _ _ _ _ _ _ _ _ _=>rfl,
  y_q34.d2 fun _ _ _ _ _ _ _ _=>rfl,
  y_q35.d1 fun _ _ _ _ _ _ _=>rfl,
  y_q36.d1 fun _ _ _ _ _ _ _=>rfl,
  y_q37.d1 fun _ _ _ _ _ _ _=>rfl,
  y_q38.d2 fun _ _ _ _ _ _ _ _=>rfl,
  y_q39.d2 fun _ _ _ _ _ _ _ _=>rfl,
  y_q40.d2 fun _ _ _ _ _ _ _ _=>rfl,
  y_q41.d1 fun _ _ _ _ _ _ _=>rfl,
  y_q42.d1 fun _ _ _ _ _ _ _=>rfl,
  y_q43.d2 fun _ _ _ _ _ _ _ _=>rfl,
  y_q44.d2 fun _ _ _ _ _ _ _ _=>rfl,
  y_q45.d1 fun _ _ _ _ _ _ _=>rfl,
  y_q46.d2 fun _ _ _ _ _ _ _ _=>rfl,
  y_q47.d3 fun _ _ _ _ _ _ _ _ _=>rfl,
  y_q48.d2 fun _ _ _ _ _ _ _ _=>rfl,
  y_q49.d1 fun _ _ _ _ _ _ _=>rfl,
  y_q50.d2 fun _ _ _ _ _ _ _ _=>rfl,
  y_q51.d1 fun _ _ _ _ _ _ _=>rfl,
  y_q52.d2 fun _ _ _ _ _ _ _ _=>rfl,
  y_q53.d2 fun _ _ _ _ _ _ _ _=>rfl,
  y_q54.d1 fun _ _ _ _ _ _ _=>rfl,
  y_q55.d2 fun _ _ _ _ _ _ _ _=>rfl,
  y_q56.d2 fun _ _ _ _ _ _ _ _=>rfl,
  y_q57.d2 fun _ _ _ _ _ _ _ _=>rfl,
  y_q58.d3 fun _ _ _ _ _ _ _ _ _=>rfl,
  y_q59.d3 fun _ _ _ _ _ _ _ _ _=>rfl,
  y_q60.d2 fun _ _ _ _ _ _ _ _=>rfl,
  y_q61.d3 fun _ _ _ _ _ _ _ _ _=>rfl,
  y_q62.d3 fun _ _ _ _ _ _ _ _ _=>rfl,
  y_q63.d4 fun _ _ _ _ _ _ _ _ _ _=>rfl,
  y_q64.d1 fun _ _ _ _ _ _ _=>rfl,
  y_q65.d1 fun _ _ _ _ _ _ _=>rfl,
  y_q66.d1 fun _ _ _ _ _ _ _=>rfl,
  y_q67.d3 fun _ _ _ _ _ _ _ _ _=>rfl,
  a,
  yoi.binds (ps:=["self","looks","most"]) (ds:=[.int 1000 Dt_q68_0]) (j:=2) rfl a ld_q68 rfl fun _ _ _ _ _ _ c d=>match c,d with | [_,_],_=>⟨_,rfl,rfl⟩,
  yoi.binds (ps:=["self","looks","most"]) (ds:=[]) (j:=3) rfl a ld_q68 rfl fun _ _ _ _ _ _ c d=>match c,d with | [_,_,_],_=>⟨_,rfl,rfl⟩,
  b,
  yoi.binds (ps:=["self","name","text","base"]) (ds:=[.none]) (j:=3) rfl b ld_q69 rfl fun _ _ _ _ _ _ c d=>match c,d with | [_,_,_],_=>⟨_,rfl,rfl⟩,
  yoi.binds (ps:=["self","name","text","base"]) (ds:=[]) (j:=4) rfl b ld_q69 rfl fun _ _ _ _ _ _ c d=>match c,d with | [_,_,_,_],_=>⟨_,rfl,rfl⟩,
  ⟨a_q69,i_q69,k_q69⟩,
  y_q70.d2 fun _ _ _ _ _ _ _ _=>rfl,
  y_q71.d3 fun _ _ _ _ _ _ _ _ _=>rfl,
  y_q72.d2 fun _ _ _ _ _ _ _ _=>rfl,
  y_q73.d2 fun _ _ _ _ _ _ _ _=>rfl,
  y_q74.d2 fun _ _ _ _ _ _ _ _=>rfl,
  y_q75.d2 fun _ _ _ _ _ _ _ _=>rfl,
  y_q76.d2 fun _ _ _ _ _ _ _ _=>rfl,
  y_q77.d2 fun _ _ _ _ _ _ _ _=>rfl,
  y_q78.d2 fun _ _ _ _ _ _ _ _=>rfl,
  y_q79.d2 fun _ _ _ _ _ _ _ _=>rfl,
  y_q80.d2 fun _ _ _ _ _ _ _ _=>rfl,
  y_q81.d2 fun _ _ _ _ _ _ _ _=>rfl,
  y_q82.d2 fun _ _ _ _ _ _ _ _=>rfl,
  y_law.d1 fun _ _ _ _ _ _ _=>rfl,
  ⟨pg_Even,hd_Even,po_Even,sa_Even⟩,
  W.mg_of X G aC_Even,
  ⟨mk_Even,y_q12.m.1,y_q12.m.2,kc_Even⟩,
  n_Even_noughts,
  n_Even_ones,
  ⟨pg_Quick,hd_Quick,po_Quick,sa_Quick⟩,
  W.mg_of X G aC_Quick,
  ⟨mk_Quick,y_q15.m.1,y_q15.m.2,kc_Quick⟩,
  n_Quick_held,
  ⟨pg_Run,hd_Run,po_Run,sa_Run⟩,
  W.mg_of X G aC_Run,
  ⟨mk_Run,y_q18.m.1,y_q18.m.2,kc_Run⟩,
  n_Run_last,
  n_Run_length,
  ⟨pg_Mx,hd_Mx,po_Mx,sa_Mx⟩,
  W.mg_of X G aC_Mx,
  ⟨mk_Mx,y_q31.m.1,y_q31.m.2,kc_Mx⟩,
  n_Mx_kept,
  ⟨pg_Book,hd_Book,po_Book,sa_Book⟩,
  W.mg_of X G aC_Book,
  ⟨mk_Book,y_q29.m.1,y_q29.m.2,kc_Book⟩,
  n_Book_look,
  n_Book_slots,
  ⟨pg_Span,hd_Span,po_Span,sa_Span⟩,
  W.mg_of X G aC_Span,
  ⟨mk_Span,y_q45.m.1,y_q45.m.2,kc_Span⟩,
  n_Span_low,
  n_Span_width,
  n_Span_size,
  ⟨pg_Sk,hd_Sk,po_Sk,sa_Sk⟩,
  W.mg_of X G aC_Sk,
  ⟨mk_Sk,y_q50.m.1,y_q50.m.2,kc_Sk⟩,
  n_Sk_data,
  n_Sk_span,
  n_Sk_number,
  n_Sk_reached,
  ⟨pg_Ft,hd_Ft,po_Ft,sa_Ft⟩,
  W.mg_of X G aC_Ft,
  ⟨mk_Ft,y_q34.m.1,y_q34.m.2,kc_Ft⟩,
  n_Ft_looks,
  n_Ft_books,
  n_Ft_mixer,
  n_Ft_ended,
  n_Ft_place,
  n_Ft_present,
  ⟨pg_Chain,hd_Chain,po_Chain,sa_Chain⟩,
  W.mg_of X G aC_Chain,
  ⟨mk_Chain,y_q60.m.1,y_q60.m.2,kc_Chain⟩,
  n_Chain_foreteller,
  n_Chain_links,
  n_Chain_texts,
  ⟨pg_Piece,hd_Piece,po_Piece,sa_Piece⟩,
  W.mg_of X G aC_Piece,
  ⟨mk_Piece,y_q67.m.1,y_q67.m.2,kc_Piece⟩,
  n_Piece_base,
  n_Piece_data,
  ⟨pg_Store,hd_Store,po_Store,sa_Store⟩,
  W.mg_of X G aC_Store,
  ⟨mk_Store,a_q68,i_q68,kc_Store⟩,
  n_Store_looks,
  n_Store_most,
  n_Store_pieces,
  n_Store_chain,
  W.mg_of X G aC_NT,
  W.mg_of X G aC_NY,
  W.mg_of X G aC_NoMost,
  W.mg_of X G aC_NC,
  W.mg_of X G aC_NB,
  W.mg_of X G aC_NL,
  W.mg_of X G aC_NP,
  W.mg_of X G aC_NoName,
  W.mg_of X G aC_TooLong,
  W.mg_of X G aC_Taken,
  W.mg_of X G aC_Full,
  W.mg_of X G aC_NoPiece,
  W.mg_of X G aC_InUse,
  x_NT,
  r_NT,
  x_NY,
  r_NY,
  x_NoMost,
  r_NoMost,
  x_NC,
  r_NC,
  x_NB,
  r_NB,
  x_NL,
  r_NL,
  x_NP,
  r_NP,
  x_NoName,
  r_NoName,
  x_TooLong,
  r_TooLong,
  x_Taken,
  r_Taken,
  x_Full,
  r_Full,
  x_NoPiece,
  r_NoPiece,
  x_InUse,
  r_InUse,
  W.mg_none_of X G z_isinstance,
  W.mg_none_of X G z_int,
  W.mg_none_of X G z_bool,
  W.mg_none_of X G z_list,
  W.mg_none_of X G z_all,
  W.mg_none_of X G z_len,
  W.mg_none_of X G z_min,
  W.mg_none_of X G z_max,
  W.mg_none_of X G z_str,
  W.mg_none_of X G z_tuple,
  W.mg_none_of X G z_zip,
  W.mg_none_of X G z_sum,
  W.mg_none_of X G z_any,
  W.mg_none_of X G z_range,
  W.mg_of X G v_LEAST,
  W.mg_of X G v_ONE,
  W.mg_of X G v_MOST_SIGNS,
  W.mg_of X G v_MOST_BYTES,
  W.mg_of X G v_MOST_COUNTED,
  W.mg_of X G v_FARTHEST,
  W.mg_of X G v_MOST_PLACES,
  W.mg_of X G v_MOST_LOOKS,
  W.mg_of X G v_NO_SIGN,
  W.mg_of X G v_FIRST_WEIGHT,
  W.mg_of X G v_OWN_PARTS,
  W.mg_of X G v_MOST_FIGURES,
  W.mg_of X G v_NODES_END,
  W.mg_of X G v_FIRST_WIDTH,
  W.mg_of X G v_FIRST_SIZE,
  W.mg_of X G v_LEAST_WIDTH,
  W.mg_of X G v_MOST_LETTERS,
  W.mg_of X G v_LETTERS,
  W.mg_of X G v_MOST_PIECES,
  W.mg_of X G wa_KINDS,
  fun H=>.inr ⟨_,_,_,wl_KINDS,rfl,rfl,(by show 3 <= sizeLine; decide),(.cons ⟨_,rfl⟩ (.cons ⟨_,rfl⟩ (.cons ⟨_,rfl⟩ .nil)))⟩,
  W.mg_of X G wa_WORTHS,
  fun H=>.inr ⟨_,_,_,wl_WORTHS,rfl,rfl,(by show 8 <= sizeLine; decide),(.cons ⟨_,rfl⟩ (.cons ⟨_,rfl⟩ (.cons ⟨_,rfl⟩ (.cons ⟨_,rfl⟩ (.cons ⟨_,rfl⟩ (.cons ⟨_,rfl⟩ (.cons ⟨_,rfl⟩ (.cons ⟨_,rfl⟩ .nil))))))))⟩⟩
 refine ⟨d_law,fun s v=>?_,fun base _ _=>vbo T⟩
 obtain ⟨_,_,_,_,_,_,_,_,_,rfl,_,_⟩:=y_law.F.ex
 exact .of_eq rfl
theorem walk {l:W.OpenLaw} {q:Program} {loose:List Str} {XP:(Str->Option Value)->Heap->Prop} {YP:World->Heap->Prop} {d:DefRec} {K:Params->W.Frag} (hn:l.most=some 63) (hdf:d.params.defaults=[])
  (hY:∀ (w:World) (h:Heap),YP w h->(K w.params).In h)
  (F:∀ (w:World) (mg:Str->Option Value) (fa:Addr) (h:Heap),(K w.params).In h->h.Ns mainGlobals mg->mg d.name=some (.ref fa) ->
   ∃ fd:FuncData,(∀ (s:Shared) (u:Value),BindsTo s fd ⟨[u],[]⟩ [("_law_script",u)])/\∀ base:Heap,(K w.params).In base->base.Ns mainGlobals mg->wc l.prog w (K w.params) mg base CX0 15 fa fd ["_law_script"] (yju (K w.params))) :
  W.WalkO q loose XP YP l.row.toRowW d [] (fun f vs=>PySem.call f vs) :=
 L2.walk_of (n:=63) (k:=15) (x:="_law_script") (CX:=fun _=>CX0) (sp:=fun w=>yju (K w.params)) hn (by decide) hdf ⟨rfl,by decide,by decide⟩ hY F (fun _ _ a b c _ e=>⟨a,b,rfl,e,c,fun _=>rfl⟩) fun _ _ _ _ _ z=>z
end Law
open PySem PySem.W PyProof.Rows
set_option maxRecDepth 100000 in
set_option maxHeartbeats 0 in
theorem PySem.Challenge.cw_foretell_k41_learned_of_holds : PySem.Challenge.rw_foretell_k41_learned_of.Holds := by
 refine H0.2 ?_
 unfold H0
 dsimp only []
 k_fill
 refine Law.walk (l := PySem.Challenge.rw_foretell_k41_learned_of) rfl rfl (fun w h Y => PySem.W.kIn_of Y) ?F
 case F =>
  intro w mg fa h KX G hmg
  refine' Law.all_mk KX G hmg ?_ ?_ ?_ ?_ ?_ ?_ ?_ ?_ ?_ ?_ ?_ ?_ ?_ ?_ ?_ ?_ ?_ ?_ ?_ ?_ ?_ ?_ ?_ ?_ ?_ ?_ ?_ ?_ ?_ ?_ ?_ ?_ ?_ ?_ ?_ ?_ ?_ ?_ ?_ ?_ ?_ ?_ ?_ ?_ ?_ ?_ ?_ ?_ ?_ ?_ ?_ ?_ ?_ ?_ ?_ ?_ ?_ ?_ ?_ ?_ ?_ ?_ ?_ ?_ ?_ ?_ ?_ ?_ ?_ ?_ ?_ ?_ ?_ ?_ ?_ ?_ ?_ ?_ ?_ ?_ ?_ ?_ ?_ ?_ ?_ ?_ ?_ ?_ ?_ ?_ ?_ ?_ ?_ ?_ ?_ ?_ ?_ ?_ ?_ ?_ ?_ ?_ ?_ ?_ ?_ ?_ ?_ ?_ ?_ ?_ ?_ ?_ ?_ ?_ ?_ ?_ ?_ ?_ ?_ ?_ ?_ ?_ ?_ ?_ ?_ ?_ ?_ ?_ ?_ ?_ ?_ ?_ ?_ ?_ ?_ ?_ ?_ ?_ ?_ ?_ ?_ ?_ ?_ ?_ ?_ ?_ ?_ ?_ ?_ ?_ ?_ ?_ ?_ ?_ ?_ ?_ ?_ ?_ ?_ ?_ ?_ ?_ ?_ ?_ ?_ ?_ ?_ ?_ ?_ ?_ ?_ ?_ ?_ ?_ ?_ ?_ ?_ ?_ ?_ ?_ ?_ ?_ ?_ ?_ ?_ ?_ ?_ ?_ ?_ ?_ ?_ ?_ ?_ ?_ ?_ ?_ ?_ ?_ ?_ ?_ ?_ ?_ ?_ ?_ ?_ ?_ ?_ ?_ ?_ ?_ ?_ ?_ ?_ ?_ ?_ ?_ ?_ ?_ ?_ ?_ ?_ ?_ ?_ ?_ ?_ ?_ ?_ ?_ ?_ ?_ ?_ ?_ ?_ ?_ ?_ ?_ ?_ ?_ ?_ ?_ ?_ ?_ ?_ ?_ ?_ ?_ ?_ ?_ ?_ ?_ ?_ ?_ ?_ ?_ ?_ ?_ ?_ ?_ ?_ ?_ ?_ ?_ ?_ ?_ ?_ ?_ ?_ ?_ ?_ ?_ ?_ ?_ ?_ ?_ ?_ ?_
  any_goals first | (refine' L2.dgf_mk KX G ?_ ?_ ?_ ?_; any_goals k_is; done) | (refine' L2.dgm_mk ?_ ?_ ?_ ?_ ?_; any_goals k_is; done) | (refine' L2.XCls.mk ?_ ?_ ?_ ?_ ?_ ?_ ?_ ?_ <;> k_is) | k_is | kit_is | k_exc
#print axioms PySem.Challenge.cw_foretell_k41_learned_of_holds
