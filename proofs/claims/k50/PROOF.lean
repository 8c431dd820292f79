import PyProof.Rows.All
import Wide.All
import OpenK.AllK
import Wide.FinOn
import PyProof.EqAt
import PyProof.EqKinds
import PyProof.TupleCall
import Lean
import PySem.Challenge.RW_foretell_k50_shelf
set_option Elab.async false
set_option linter.all false
set_option compiler.extract_closed false
set_option maxRecDepth 100000
set_option maxHeartbeats 4000000
local macro_rules | `(tactic| exists $ts,*)=>`(tactic| refine ⟨$ts,*⟩)
namespace PySem.W.Fast
local macro_rules
 | `(#synth $k:ident $ns*)=>do return Lean.mkNullNode ((<-ns.mapM fun n=>`(theorem $(Lean.mkIdent (.mkSimple s!"tw{((`H0).str s!"{k.getId}_{n.raw.isNatLit?.get!}").hash}")) : True:=⟨⟩)).map (·.raw))
 | `(#synth $k:ident)=>`(theorem $(Lean.mkIdent (.mkSimple s!"tw{k.getId.hash}")) : True:=⟨⟩)
#synth PySem.Challenge.pw_foretell_k50_shelf
#synth heap 1341 39 46
#synth tree 1340 1170 1256 1028 986 935 900 842 827 740 693 642 597 532 516 466 423 380 343 298 250 235 220 205 190 175 160 145 130 115 100 85 70
#synth view 39
#synth sts 1260 1029 741 598 694 901 533 299 843 643 467 936 251 987 381 424 828 517 344 49 116 191 101 221 71 161 86 146 176 131 206
#synth o 1260 1029 987 936 901 843 828 741 694 643 598 533 517 1340 467 1338 424 381 344 299 1330 1328 726 724 251 1306 1304 1325 1323 1287 1285 236 1074 1215 1156 1165 1116 618 221 1154 1033 754 1313 1072 1213 206 1114 1255 616 569 752 191 630 1311 935 176 567 628 1236 1095 161 933 928 454 146 1234 1093 799 926 721 131 879 1335 298 993 822 452 909 411 672 116 1320 665 797 719 877 296 1333 745 991 1045 1186 101 590 642 497 972 516 907 409 670 1318 921 759 86 663 858 813 640 588 1174 1250 1109 1043 1184 842 970 514 71 865 495 919 965 592 757 1243 1102 314 625 307 1301 856 525 679 811 1273 1107 1248 49 1280 1088 1229 490 806 895 863 537 840 583 963 321 1241 1100 958 312 523 305 981 1268 623 735 677 1271 688 951 548 1299 847 764 1227 1086 342 1278 488 804 581 916 1137 872 404 940 835 698 319 647 956 1000 1081 1222 328 1294 949 637 1266 546 762 286 272 375 335 709 429 386 472 606 562 340 1135 914 1144 771 402 833 870 1021 506 420 463 998 1220 1079 348 613 326 635 658 1292 1023 333 707 284 270 979 483 440 792 560 1151 397 1163 366 1142 1123 1130 1207 1066 604 1052 1193 769 293 532 279 1007 1010 1019 893 611 656 778 716 820 733 461 359 576 886 686 418 555 504 373 785 481 66 395 60 1200 1059 447 121 790 196 91 76 106 1205 1064 226 181 166 211 136 256 438 151 977 1149 1191 1050 241 1161 364 1121 1128 253 238 223 208 193 178 163 202 112 127 97 187 262 142 232 82 217 247 172 157 891 148 291 277 133 1005 118 530 103 88 73 128 776 67 113 233 714 173 98 783 1057 203 83 1198 188 158 357 143 218 263 459 818 574 731 684 821 884 445 371 248 502 416 553 931 1211 1070 1283 1309 1316 57 812 1087 1228 582 777 1051 1199 1150 1192 1058 978 791 1136 1108 1249 1221 1080 770 715 1162 1143 1256 1115 1122 819 1129 784 864 857 1094 1235 708 763 871 805 885 753 1242 1101 798 1065 1206 892 396 657 1185 1044 971 950 575 732 446 439 758 403 678 358 957 878 453 664 968 964 547 685 365 554 410 1020 417 671 489 482 568 460 372 1073 589 1214 496 720 1155 503 561 725 313 841 531 306 999 1006 327 320 1267 297 629 636 1293 1286 1312 271 1300 285 334 1279 605 1319 908 524 515 624 292 1334 1272 612 1305 341 641 934 278 617 894 834 905 1324 927 1329 920 1164 992 668 915 63 924 56 565 124 675 169 661 748 45 961 79 109 199 1253 1218 94 1112 1077 259 229 1339 850 184 701 1177 1036 214 389 154 943 139 650 464 469 823 432 1013 540 351 421 475 426 244 507 383 736 1166 982 1297 896 1024 376 593 689 521 55 980 912 875 450 591 1105 1246 586 954 1041 1276 343 1182 1017 838 1232 1091 795
end PySem.W.Fast
section
open PySem PySem.W PyProof.Rows
local macro_rules | `(tactic| refine $f:ident $as*)=>do
 unless f.getId==`PySem.W.holds_open do Lean.Macro.throwUnsupported
 `(tactic| (refine ($f $as*); case $(Lean.mkIdent `hc):ident=>exact $(Lean.mkIdent `hP)))
set_option maxRecDepth 100000 in
set_option maxHeartbeats 0 in
def H0:PSigma fun P:Prop=>P->PySem.Challenge.rw_foretell_k50_shelf.Holds:=by
 refine' ⟨_,fun hP=>?_⟩
 rotate_left
 w_on; o_law; k_head
 w_witness2
end
section
open PySem PySem.Spec PyProof.Rows
theorem bf:type_of% @List.length_map:=@List.length_map
theorem bi:type_of% @wpAny_bind:=@wpAny_bind
theorem bj:type_of% @List.length_append:=@List.length_append
theorem bn:type_of% @Heap.get?_push_of_some:=@Heap.get?_push_of_some
theorem bo:type_of% @List.getElem?_eq_getElem:=@List.getElem?_eq_getElem
theorem bp:type_of% @Nat.le_refl:=@Nat.le_refl
theorem bq:type_of% @List.mem_map:=@List.mem_map
theorem br:type_of% @List.getElem?_map:=@List.getElem?_map
theorem bv:type_of% @Heap.lt_size:=@Heap.lt_size
theorem bw:type_of% @wpAny_pure:=@wpAny_pure
theorem bx:type_of% @decide_eq_true:=@decide_eq_true
theorem bz:type_of% @List.map_append:=@List.map_append
theorem bA:type_of% @decide_eq_false:=@decide_eq_false
theorem bB:type_of% @List.mem_cons:=@List.mem_cons
theorem bC:type_of% @Heap.get?_push_size:=@Heap.get?_push_size
theorem bD:type_of% @List.size_toArray:=@List.size_toArray
theorem bE:type_of% @Bool.false_ne_true:=@Bool.false_ne_true
theorem bF:type_of% @Option.some.inj:=@Option.some.inj
theorem bH:type_of% @List.mem_append_right:=@List.mem_append_right
theorem bI:type_of% @List.mem_of_getElem?:=@List.mem_of_getElem?
theorem bJ:type_of% @List.mem_singleton:=@List.mem_singleton
theorem bK:type_of% @List.length_cons:=@List.length_cons
theorem bL:type_of% @Nat.zero_le:=@Nat.zero_le
theorem bM:type_of% @List.getElem?_eq_some_iff:=@List.getElem?_eq_some_iff
theorem bN:type_of% @Nat.le_trans:=@Nat.le_trans
theorem bO:type_of% @Bool.and_eq_true:=@Bool.and_eq_true
theorem bP:type_of% @List.mem_append:=@List.mem_append
theorem bQ:type_of% @Nat.ne_of_lt:=@Nat.ne_of_lt
theorem bR:type_of% @List.append_assoc:=@List.append_assoc
theorem bS:type_of% @List.map_map:=@List.map_map
theorem bT:type_of% @Nat.lt_of_lt_of_le:=@Nat.lt_of_lt_of_le
theorem bU:type_of% @List.length_range:=@List.length_range
theorem bV:type_of% @List.getElem?_eq_none:=@List.getElem?_eq_none
theorem bW:type_of% @List.map_cons:=@List.map_cons
theorem bX:type_of% @List.length_take:=@List.length_take
theorem bY:type_of% @Nat.not_lt_zero:=@Nat.not_lt_zero
theorem bZ:type_of% @List.take_succ_eq_append_getElem:=@List.take_succ_eq_append_getElem
theorem cb:type_of% @List.getElem?_append_right:=@List.getElem?_append_right
theorem cc:type_of% @List.mem_cons_of_mem:=@List.mem_cons_of_mem
theorem ce:type_of% @List.eq_nil_of_length_eq_zero:=@List.eq_nil_of_length_eq_zero
theorem cg:type_of% @List.getElem_mem:=@List.getElem_mem
theorem ci:type_of% @List.replicate_succ:=@List.replicate_succ
theorem cj:type_of% @List.mem_range:=@List.mem_range
theorem ck:type_of% @Int.mul_le_mul_of_nonneg_right:=@Int.mul_le_mul_of_nonneg_right
theorem cn:type_of% @wpAny_truthy_bool:=@wpAny_truthy_bool
theorem cq:type_of% @wpAny_field:=@wpAny_field
theorem cr:type_of% @Int.emod_lt_of_pos:=@Int.emod_lt_of_pos
theorem cu:type_of% @List.mem_cons_self:=@List.mem_cons_self
theorem cy:type_of% @List.take_length:=@List.take_length
theorem cz:type_of% @Int.mul_le_mul_of_nonneg_left:=@Int.mul_le_mul_of_nonneg_left
theorem cA:type_of% @List.nodup_cons:=@List.nodup_cons
theorem cB:type_of% @Option.map_some:=@Option.map_some
theorem cC:type_of% @Array.length_toList:=@Array.length_toList
theorem cD:type_of% @List.getElem?_range:=@List.getElem?_range
theorem cE:type_of% @List.take_of_length_le:=@List.take_of_length_le
theorem cF:type_of% @List.length_singleton:=@List.length_singleton
theorem cG:type_of% @List.getElem?_append_left:=@List.getElem?_append_left
theorem cH:type_of% @Int.emod_nonneg:=@Int.emod_nonneg
theorem cI:type_of% @Nat.lt_irrefl:=@Nat.lt_irrefl
theorem cJ:type_of% @wpAny_mono:=@wpAny_mono
theorem cK:type_of% @List.getElem_map:=@List.getElem_map
theorem cL:type_of% @List.getD_eq_getElem?_getD:=@List.getD_eq_getElem?_getD
theorem cM:type_of% @List.length_drop:=@List.length_drop
theorem cN:type_of% @beq_eq_false_iff_ne:=@beq_eq_false_iff_ne
theorem cO:type_of% @List.mem_filter:=@List.mem_filter
theorem cP:type_of% @Nat.lt_succ_self:=@Nat.lt_succ_self
end
namespace L2
open PySem PySem.Spec PyProof.Rows
variable {C a:Addr} {op:CmpOp} {e tg:Expr} {fd:FuncData} {h':Heap} {pins:List (Addr × Obj)} {kw:List (Str × Value)} {fp:List Addr} {es:List Expr} {body:List Stmt} {us:List Value} {M:Model} {i j t':Nat} {p:Pos} {P:Program} {s':Shared} {x:Str} {mA:Str->Option Value} {u:Value} {E Q:Value->Shared->Prop}
abbrev Key:=Sum Int Str
def ye9:Key->Value->Bool
 | .inl k,v=>Value.isInt k v
 | .inr x,v=>Value.isStrOf x v
def ved (w:World):Key->Int
 | .inl k=>hashInt k
 | .inr x=>hashStr w x
theorem wq:∀ {k:Key} {v:Value},ye9 k v=true->(∃ i t,k=Sum.inl i/\v=Value.int i t)\/(∃ x t,k=Sum.inr x/\v=Value.str x t)
 | .inl i,v,h=>by
  obtain ⟨t,e⟩:=Value.isInt_shape (k:=i) (v:=v) h;exact .inl ⟨i,t,rfl,e⟩
 | .inr x,v,h=>by
  obtain ⟨t,e⟩:=Value.isStrOf_shape (x:=x) (v:=v) h;exact .inr ⟨x,t,rfl,e⟩
theorem ygj (i:Int) (t:Tok):ye9 (.inl i) (.int i t)=true:=by simp [ye9,Value.isInt]
theorem yf1 (x:Str) (t:Tok):ye9 (.inr x) (.str x t)=true:=by simp [ye9,Value.isStrOf]
theorem yzn (a b:Int):decide ((Sum.inl a:Key)=Sum.inl b)=(a == b):=by
 by_cases e:a=b
 .subst e; simp
 .have h:¬ (Sum.inl a:Key)=Sum.inl b:=fun q=>e (Sum.inl.inj q);rw [bA h];exact (cN.mpr e).symm
theorem yv1 (a b:Str):decide ((Sum.inr a:Key)=Sum.inr b)=decide (a=b):=by
 by_cases e:a=b
 .subst e; simp
 .have h:¬ (Sum.inr a:Key)=Sum.inr b:=fun q=>e (Sum.inr.inj q);rw [bA h,bA e]
theorem yu3 (a:Int) (b:Str):decide ((Sum.inl a:Key)=Sum.inr b)=false:=bA (fun q=>nomatch q)
theorem yy8 (a:Str) (b:Int):decide ((Sum.inr a:Key)=Sum.inl b)=false:=bA (fun q=>nomatch q)
def vy (prog:Program) (w:World):PySem.KeyKind prog w Key where
 is:=ye9
 hash:=ved w
 inj:=fun v a b ha hb=>by
  rcases wq ha with ⟨i,t,rfl,rfl⟩ | ⟨x,t,rfl,rfl⟩
  .rcases wq hb with ⟨j,u,rfl,e⟩ | ⟨y,u,rfl,e⟩
   .injection e with e1 _; rw [e1]
   .exact nomatch e
  .rcases wq hb with ⟨j,u,rfl,e⟩ | ⟨y,u,rfl,e⟩
   .exact nomatch e
   .injection e with e1 _; rw [e1]
 byValue:=fun k v h=>by
  rcases wq h with ⟨i,t,rfl,rfl⟩ | ⟨x,t,rfl,rfl⟩ <;> rfl
 pyHash:=fun hv h=>by
  rcases wq hv with ⟨i,t,rfl,rfl⟩ | ⟨x,t,rfl,rfl⟩
  .exact wpAny_pyHash_int h
  .exact wpAny_pyHash_str h
 eqBool:=fun hu hv h=>by
  rcases wq hu with ⟨i,t,rfl,rfl⟩ | ⟨x,t,rfl,rfl⟩
  .rcases wq hv with ⟨j,u,rfl,rfl⟩ | ⟨y,u,rfl,rfl⟩
   .rw [yzn] at h; exact wpAny_eqBool_int h
   .rw [yu3] at h; exact SeqAt.EqAt.int_str i t y u _ _ _ _ h
  .rcases wq hv with ⟨j,u,rfl,rfl⟩ | ⟨y,u,rfl,rfl⟩
   .rw [yy8] at h; exact SeqAt.EqAt.str_int x t j u _ _ _ _ h
   .rw [yv1] at h; exact wpAny_eqBool_str h
 «strs»:=fun k x t v h=>by
  rcases wq h with ⟨i,u,rfl,e⟩ | ⟨y,u,rfl,e⟩
  .exact nomatch e
  .injection e with e1 _;subst e1;cases v <;> rfl
theorem ybj (prog:Program) (w:World) (i:Int) (t:Tok):(vy prog w).is (.inl i) (.int i t)=true:=ygj i t
theorem ybe (prog:Program) (w:World) (x:Str) (t:Tok):(vy prog w).is (.inr x) (.str x t)=true:=yf1 x t
inductive V where
 | non | bl (b:Bool) | int (i:Int) | str (x:Str) | byt (b:Array UInt8) | flt (b:UInt64) | ref (a:Addr) | ty (n:String)
 deriving DecidableEq
variable {vs xs:List V} {v y:V}
def w8:V->Value->Prop
 | .non,u=>u=Value.none
 | .bl b,u=>u=Value.bool b
 | .int i,u=>∃ t,u=Value.int i t
 | .str x,u=>∃ t,u=Value.str x t
 | .byt b,u=>∃ t,u=Value.bytes b t
 | .flt b,u=>∃ t,u=Value.float b t
 | .ref a,u=>u=Value.ref a
 | .ty n,u=>u=Value.type n
abbrev wd:List V->List Value->Prop:=Paired w8
theorem wd.length (r:wd xs us):xs.length=us.length:=Paired.length r
theorem wd.get:∀ {xs:List V} {us:List Value} {i:Nat} {x:V},wd xs us->xs[i]?=some x->∃ u,us[i]?=some u/\w8 x u
 | _,_,_,_,.nil,e=>by simp at e
 | _,_,0,_,.cons r _,e=>by simp at e; subst e; exists _,rfl,r
 | _,_,i+1,x,.cons _ t,e=>by
  obtain ⟨u,b,a⟩:=wd.get (i:=i) (x:=x) t (by simpa using e);exists u,by simpa using b,a
theorem wd.set {x:V} (r:w8 x u):∀ {xs:List V} {us:List Value} (i:Nat),wd xs us->wd (xs.set i x) (us.set i u)
 | _,_,_,.nil=>.nil
 | _,_,0,.cons _ t=>.cons r t
 | _,_,i+1,.cons q t=>.cons q (wd.set r i t)
theorem wd.append:∀ {xs ys:List V} {us ws:List Value},wd xs us->wd ys ws->wd (xs++ys) (us++ws)
 | _,_,_,_,.nil,s=>s
 | _,_,_,_,.cons r t,s=>.cons r (wd.append t s)
theorem wd.take:∀ {xs:List V} {us:List Value} (n:Nat),wd xs us->wd (xs.take n) (us.take n)
 | _,_,0,_=>.nil
 | _,_,_+1,.nil=>.nil
 | _,_,n+1,.cons r t=>.cons r (wd.take n t)
theorem wd.drop:∀ {xs:List V} {us:List Value} (n:Nat),wd xs us->wd (xs.drop n) (us.drop n)
 | _,_,0,r=>r
 | _,_,_+1,.nil=>.nil
 | _,_,n+1,.cons _ t=>wd.drop n t
theorem wd.none_of:∀ {xs:List V} {us:List Value} {i:Nat},wd xs us->xs[i]?=none->us[i]?=none:=fun {xs us i} r e=>by
 have b:=r.length;have a:xs.length <= i:=List.getElem?_eq_none_iff.mp e;exact List.getElem?_eq_none_iff.mpr (by omega)
def Ū:Option V->Option Value->Prop
 | some v,some u=>w8 v u
 | none,none=>True
 | _,_=>False
def KV {κ:Type}:List (κ × V)->List (κ × Value)->Prop:=Paired fun (p:κ × V) (q:κ × Value)=>p.1=q.1/\w8 p.2 q.2
def kV:Key->V
 | .inl i=>.int i
 | .inr x=>.str x
inductive HO where
 | lst (xs:List V)
 | tup (xs:List V)
 | dK (kvs:List (Key × V)) | dT (kvs:List (List Key × V))
 | set (S:Int->Bool) (n:Nat)
 | ins (C dx:Addr) (fs:List (Str × V))
 | own (x:Addr)
 | xd (fs:List (Str × V))
 | met (f x:Addr)
 | rng (lo hi:Int)
 | frz (o:Obj) (u:HO)
 | tbl (ps:Array Value)
 | ext (φ:Heap->Prop)
abbrev Hp:=Addr->Option HO
variable {H H':Hp}
def upd (H:Hp) (a:Addr) (o:HO):Hp:=fun b=>if b=a then some o else H b
theorem ya {o:HO}:upd H a o a=some o:=by unfold upd; rw [if_pos rfl]
theorem yk {b:Addr} {o:HO} (h:b≠a):upd H a o b=H b:=by unfold upd; rw [if_neg h]
theorem wu {b:Addr} {o u:HO} (h:H a=some o) (h':H b=some u) (d:o≠u):a≠b:=by
 intro e; subst e; rw [h] at h'; exact d (bF h')
theorem yb {b:Addr} {o:HO} (h:H a=some o) (h':H b=none):a≠b:=by
 intro e; subst e; rw [h] at h'; cases h'
section
variable (P:Program) (w:World)
def xc (H:Hp) (h:Heap) (a:Addr):HO->Prop
 | .lst xs=>xs.length <= sizeLine/\∃ (its:List Value) (n:Nat),wd xs its/\h.get? a=some { cls:=.type "list",data:=.seq its.toArray n }
 | .tup xs=>xs.length <= sizeLine/\∃ its:List Value,wd xs its/\IsTup h a its.toArray
 | .dK kvs=>kvs.length <= sizeLine/\(a == sysModules)=false/\∃ vs,KV kvs vs/\h.DictOf (vy P w) a vs
 | .dT kvs=>kvs.length <= sizeLine/\(a == sysModules)=false/\∃ xs:List (List Key × Addr × Value),
   Paired (fun (p:List Key × V) (q:List Key × Addr × Value)=>p.1=q.1/\H q.2.1=some (.tup (p.1.map kV))/\w8 p.2 q.2.2) kvs xs /\
   ∃ o es ep,h.get? a=some o/\o.ExactDict/\o.data=.dict es ep/\es.toList=xs.map (entryOfKey (tupleKind (vy P w)))/\(xs.map (·.1)).Nodup
 | .set S n=>h.SetOf (intKind P w) a S n
 | .ins C dx fs=>H dx=some (.own a)/\fs.length <= 1000/\dx≠a/\h.get? a=some (W.instObj C dx) /\
   ∃ mA,h.Ns1 dx mA/\(∀ f,Ū (fs.lookup f) (mA f))/\PySem.Within mA (fs.map (·.1))
 | .own _=>∃ o,h.get? a=some o
 | .xd fs=>∃ mA,h.Ns1 a mA/\∀ f,Ū (fs.lookup f) (mA f)
 | .rng lo hi=>∃ t u v,h.get? a=some { cls:=.type "range",data:=.fields #[.int lo t,.int hi u,.int 1 v] }
 | .frz o u=>h.get? a=some o/\xc H h a u
 | .tbl ps=>h.get? a=some { cls:=.none,data:=.fields ps }
 | .met f x=>h.get? a=some (W.methodObj (.ref f) (.ref x))
 | .ext φ=>φ h/\(∃ o,h.get? a=some o)/\∀ h1 h2:Heap,φ h1->(∀ o,h1.get? a=some o->h2.get? a=some o)->φ h2
def HOk (H:Hp) (h:Heap):Prop:=∀ a o,H a=some o->xc P w H h a o
end
section
variable {w:World} {h:Heap} {o:HO}
theorem xc.lt (x:xc P w H h a o):a < h.objs.size:=by
 cases o with
 | lst xs=>obtain ⟨_,_,_,_,e⟩:=x; exact bv e
 | tup xs=>obtain ⟨_,_,_,p⟩:=x; exact p.lt
 | dK kvs=>obtain ⟨_,_,_,_,o,_,_,e,_⟩:=x; exact bv e
 | dT kvs=>obtain ⟨_,_,_,_,o,_,_,e,_⟩:=x; exact bv e
 | set S n=>obtain ⟨o,_,_,_,e,_⟩:=x; exact bv e
 | ins C dx fs=>obtain ⟨_,_,_,e,_⟩:=x; exact bv e
 | own y=>obtain ⟨_,e⟩:=x; exact bv e
 | xd fs=>obtain ⟨_,⟨_,_,_,e,_⟩,_⟩:=x; exact bv e
 | rng lo hi=>obtain ⟨_,_,_,e⟩:=x; exact bv e
 | frz ob u=>obtain ⟨e,_⟩:=x; exact bv e
 | tbl ps=>exact bv (show h.get? a=some _ from x)
 | met f y=>exact bv (show h.get? a=some _ from x)
 | ext φ=>obtain ⟨_,⟨_,e⟩,_⟩:=x; exact bv e
theorem Paired.mapP {α β:Type} {F G:α->β->Prop}:∀ {l₁:List α} {l₂:List β},Paired F l₁ l₂->(∀ a b,F a b->G a b)->Paired G l₁ l₂
 | _,_,.nil,_=>.nil
 | _,_,.cons r t,f=>.cons (f _ _ r) (Paired.mapP t f)
theorem xc.stay (x:xc P w H h a o) (k:∀ b u,(b=a\/H b=some (.own a))->h.get? b=some u->h'.get? b=some u)
  (ho:∀ b,H b=some (.own a)->H' b=some (.own a)) (ht:∀ b xs,H b=some (.tup xs)->H' b=some (.tup xs)):xc P w H' h' a o:=by
 induction o with
 | lst xs=>obtain ⟨z,j,n,r,e⟩:=x; exists z,j,n,r,k _ _ (.inl rfl) e
 | tup xs=>obtain ⟨z,j,r,ob,e,c⟩:=x; exists z,j,r,ob,k _ _ (.inl rfl) e,c
 | dK kvs=>obtain ⟨z,y,A,r,ob,g,i,e,c⟩:=x; exists z,y,A,r,ob,g,i,k _ _ (.inl rfl) e,c
 | dT kvs =>
  obtain ⟨z,y,xs,r,ob,g,i,e,c⟩:=x;exists z,y,xs,Paired.mapP r fun p q z=>⟨z.1,ht _ _ z.2.1,z.2.2⟩,ob,g,i,k _ _ (.inl rfl) e,c
 | set S n=>obtain ⟨ob,g,i,t,e,c⟩:=x; exists ob,g,i,t,k _ _ (.inl rfl) e,c
 | ins C dx fs =>
  obtain ⟨d,z,D,e,m,⟨l,g,i,B,c⟩,r⟩:=x;exists ho _ d,z,D,k _ _ (.inl rfl) e,m,⟨l,g,i,k _ _ (.inr d) B,c⟩,r
 | own y=>obtain ⟨ob,e⟩:=x; exists ob,k _ _ (.inl rfl) e
 | xd fs=>obtain ⟨m,⟨l,g,i,e,c⟩,r⟩:=x; exists m,⟨l,g,i,k _ _ (.inl rfl) e,c⟩,r
 | rng lo hi=>obtain ⟨t,u,v,e⟩:=x; exists t,u,v,k _ _ (.inl rfl) e
 | frz ob u ih=>obtain ⟨e,q⟩:=x; exists k _ _ (.inl rfl) e,ih q
 | tbl ps =>
  have e:h.get? a=some { cls:=.none,data:=.fields ps }:=x;show h'.get? a=some { cls:=.none,data:=.fields ps };exact k a _ (.inl rfl) e
 | met f y =>
  have e:h.get? a=some (W.methodObj (.ref f) (.ref y)):=x;show h'.get? a=some (W.methodObj (.ref f) (.ref y));exact k a _ (.inl rfl) e
 | ext φ=>obtain ⟨p,⟨o,e⟩,s⟩:=x; exists s _ _ p fun o q=>k _ _ (.inl rfl) q,⟨o,k _ _ (.inl rfl) e⟩,s
theorem HOk.lt (x:HOk P w H h) (e:H a=some o):a < h.objs.size:=(x a o e).lt
theorem HOk.fresh (x:HOk P w H h) (e:h.objs.size <= a):H a=none:=by
 cases q:H a with
 | none=>rfl
 | some u=>exact absurd (bT (x.lt q) e) (cI _)
theorem HOk.kept (x:HOk P w H h) (k:∀ b u,h.get? b=some u->h'.get? b=some u):HOk P w H h':=fun a o e =>
 (x a o e).stay (fun b u _ q=>k b u q) (fun _ q=>q) fun _ _ q=>q
theorem HOk.laid (x:HOk P w H h) (k:∀ b u,h.get? b=some u->h'.get? b=some u) (hp:h.objs.size <= a) (new:xc P w (upd H a o) h' a o):HOk P w (upd H a o) h':=fun b u e=>by
 have d:=x.fresh hp;by_cases hb:b=a
 .subst hb; rw [ya] at e; cases e; exact new
 .rw [yk hb] at e;exact (x b u e).stay (fun c v _ q=>k c v q) (fun c q=>by rw [yk (yb q d)]; exact q) fun c f q=>by rw [yk (yb q d)]; exact q
end
def Rd (H:Hp) (a:Addr) (u:HO):Prop:=H a=some u\/∃ o,H a=some (.frz o u)
theorem Rd.of {u:HO} (h:H a=some u):Rd H a u:=.inl h
theorem Rd.ok {w:World} {h:Heap} {u:HO} (r:Rd H a u) (x:HOk P w H h):xc P w H h a u:=by
 rcases r with r | ⟨o,r⟩
 .exact x a u r
 .obtain ⟨_,q⟩:=x a _ r;exact q
def Mut:Option HO->Prop
 | some (.lst _)=>True
 | some (.dK _)=>True
 | some (.dT _)=>True
 | some (.set _ _)=>True
 | some (.ins _ _ _)=>True
 | some (.ext _)=>True
 | _=>False
section
variable {w:World} {h:Heap} {x e:Addr} {o':HO}
theorem HOk.write (ok:HOk P w H h) (mu:Mut (H x)) (he:e=x\/H e=some (.own x)) (k:∀ b u,b≠e->h.get? b=some u->h'.get? b=some u) (heo:∃ u,h'.get? e=some u)
  (new:xc P w (upd H x o') h' x o'):HOk P w (upd H x o') h':=fun b u q=>by
 have a:∀ c y,H c=some (.own y)->c≠x:=fun c y r z=>by subst z; rw [r] at mu; exact mu
 have d:∀ c g,H c=some (.tup g)->c≠x:=fun c g r z=>by subst z; rw [r] at mu; exact mu
 by_cases hb:b=x
 .subst hb; rw [ya] at q; cases q; exact new
 .rw [yk hb] at q;by_cases hbe:b=e
  .have i:H b=some (.own x):=by
    rcases he with z | z
    .exact absurd (hbe.trans z) hb
    .rw [hbe]; exact z
   rw [q] at i; cases i;obtain ⟨v,j⟩:=heo;exists v,by rw [hbe]; exact j
  .refine (ok b u q).stay (fun c v f r=>k c v ?_ r) (fun c r=>by rw [yk (a c b r)]; exact r) fun c g r=>by rw [yk (d c g r)]; exact r
   rcases f with rfl | f
   .exact hbe
   .rintro rfl;rcases he with z | z
    .exact a c b f z
    .rw [f] at z; cases z; exact hb rfl
end
structure Un (fs ex:List Addr) (H H':Hp) (h h':Heap):Prop where
 keep:∀ b o,h.get? b=some o->H b=none->b∉fs->b∉ex->h'.get? b=some o
 slot:∀ b o,h.get? b=some o->H b=none->b∈fs->b∉ex->∃ sl,h'.get? b=some { o with slots:=sl }
 free:∀ b o,h.get? b=some o->H b=none->b∉ex->H' b=none
 there:∀ b o,h.get? b=some o->b∉ex->∃ o',h'.get? b=some o'
 tups:∀ b xs,H b=some (.tup xs)->H' b=some (.tup xs)
 frzs:∀ b o u,H b=some (.frz o u)->H' b=some (.frz o u)
 tbls:∀ b ps,H b=some (.tbl ps)->∃ more,H' b=some (.tbl (ps++more))
section
variable {fs fs' ex ex':List Addr} {H1 H2:Hp} {h h1 h2:Heap} {x e:Addr} {o:HO}
theorem Un.any (u:Un fs ex H H1 h h1) {b:Addr} {ob:Obj} (q:h.get? b=some ob) (n:H b=none) (hx:b∉ex):∃ sl,h1.get? b=some { ob with slots:=sl }:=by
 by_cases hb:b∈fs
 .exact u.slot b ob q n hb hx
 .exists ob.slots,u.keep b ob q n hb hx
theorem Un.trans (a:Un fs ex H H1 h h1) (b:Un fs ex H1 H2 h1 h2):Un fs ex H H2 h h2 where
 keep:=fun c d q n g e=>b.keep c d (a.keep c d q n g e) (a.free c d q n e) g e
 slot:=fun c d q n g e=>by
  obtain ⟨r,f⟩:=a.slot c d q n g e;obtain ⟨l,k⟩:=b.slot c _ f (a.free c d q n e) g e;exists l,k
 free:=fun c d q n e=>by
  obtain ⟨j,f⟩:=a.there c d q e;exact b.free c j f (a.free c d q n e) e
 there:=fun c d q e=>by
  obtain ⟨j,f⟩:=a.there c d q e;exact b.there c j f e
 tups:=fun c i q=>b.tups c i (a.tups c i q)
 frzs:=fun c d i q=>b.frzs c d i (a.frzs c d i q)
 tbls:=fun c m q=>by
  obtain ⟨p,f⟩:=a.tbls c m q;obtain ⟨o,k⟩:=b.tbls c _ f;exists p++o,by rw [k,Array.append_assoc]
theorem Un.kept (k:∀ b u,h.get? b=some u->h'.get? b=some u):Un fs ex H H h h' :=
 ⟨fun b a q _ _ _=>k b a q,fun b a q _ _ _=>⟨a.slots,k b a q⟩,fun _ _ _ n _=>n,fun b a q _=>⟨a,k b a q⟩,fun _ _ q=>q,fun _ _ _ q=>q,fun _ c q=>⟨#[],by rw [q]; simp⟩⟩
theorem Un.refl:Un fs ex H H h h:=Un.kept fun _ _ q=>q
theorem Un.laid (k:∀ b u,h.get? b=some u->h'.get? b=some u) (hp:h.objs.size <= a) (hn:H a=none):Un fs ex H (upd H a o) h h' where
 keep:=fun b u q _ _ _=>k b u q
 slot:=fun b u q _ _ _=>⟨u.slots,k b u q⟩
 free:=fun b u q n _=>by rw [yk (bQ (bT (bv q) hp))]; exact n
 there:=fun b u q _=>⟨u,k b u q⟩
 tups:=fun b c q=>by rw [yk (yb q hn)]; exact q
 frzs:=fun b u c q=>by rw [yk (yb q hn)]; exact q
 tbls:=fun b d q=>⟨#[],by rw [yk (yb q hn),q]; simp⟩
theorem Un.write (mu:Mut (H x)) (he:e=x\/H e=some (.own x)) (k:∀ b u,b≠e->h.get? b=some u->h'.get? b=some u) (heo:∃ u,h'.get? e=some u):Un fs ex H (upd H x o) h h':=by
 have c:∀ b,H b=none->b≠x:=fun b n z=>by subst z; rw [n] at mu; exact mu
 have d:∀ b,H b=none->b≠e:=fun b n z=>by
  subst z;rcases he with r | r
  .exact c b n r
  .rw [n] at r; cases r
 have a:∀ b u,H b=some u->¬ Mut (some u)->b≠x:=fun b u q f z=>by subst z; rw [q] at mu; exact f mu
 refine ⟨fun b u q n _ _=>k b u (d b n) q,fun b u q n _ _=>⟨u.slots,k b u (d b n) q⟩,fun b u q n _=>by rw [yk (c b n)]; exact n,fun b u q _=>?_,
  fun b g q=>by rw [yk (a b _ q fun z=>z)]; exact q,fun b u g q=>by rw [yk (a b _ q fun z=>z)]; exact q,fun b i q=>⟨#[],by rw [yk (a b _ q fun z=>z),q]; simp⟩⟩
 by_cases hbe:b=e
 .subst hbe; exact heo
 .exists u,k b u hbe q
theorem Un.mono (u:Un fs ex H H1 h h1) (hs:∀ b∈fs,b∈fs') (hx:∀ b∈ex,b∈ex'):Un fs' ex' H H1 h h1 :=
 ⟨fun b c q n d a=>u.keep b c q n (fun z=>d (hs b z)) fun z=>a (hx b z),fun _ _ q n _ a=>u.any q n fun z=>a (hx _ z),fun b c q n a=>u.free b c q n fun z=>a (hx b z),fun b c q a=>u.there b c q fun z=>a (hx b z),u.tups,u.frzs,u.tbls⟩
end
def trk (h:Heap) (H:Hp):List Addr:=(List.range h.objs.size).filter fun a=>(H a).isSome
def ylw (h:Heap) (H:Hp):Heap:=W.hideAll h (trk h H)
theorem ygn (h:Heap) (H:Hp):(ylw h H).objs.size=h.objs.size:=W.hideAll_size _ _
theorem ykl {h:Heap} {b:Addr} {o:Obj} (e:h.get? b=some o) (n:H b=none):(ylw h H).get? b=some o :=
 W.hideAll_get _ e fun a=>by
  have q:(H b).isSome=true:=(cO.mp a).2;rw [n] at q; simp at q
theorem yos {h:Heap} {b:Addr} {o:Obj} (e:(ylw h H).get? b=some o):h.get? b=some o/\H b=none:=by
 have a:h.get? b=some o:=W.of_hideAll (trk h H) e;exists a,?_
 cases q:H b with
 | none=>rfl
 | some x =>
  have c:b∈trk h H:=cO.mpr ⟨cj.mpr (bv a),by simp [q]⟩;have z:(ylw h H).get? b=none:=W.hideAll_none (trk h H) c;rw [z] at e; cases e
def yoq (g h:Heap) (L:Addr):List (Addr × Obj):=(List.range h.objs.size).filterMap fun a=>if a=L\/(g.get? a).isSome=true then none else (h.get? a).map fun o=>(a,o)
def jj (g h:Heap) (L d:Addr):List (Addr × Obj):=(yoq g h L).filter fun p=>decide (p.1≠d)
structure Mod (K:W.Frag) (mg:Str->Option Value) (base:Heap):Prop where
 kin:K.In base
 glob:base.Ns mainGlobals mg
 blt:∃ mb,base.Ns builtinsNs mb/\∀ x:Str,x≠"__name__"->mb x=bootBuiltins x
 nolimit:base.NoLimit
structure Cx where
 prog:Program
 w:World
 K:W.Frag
 mg:Str->Option Value
 base:Heap
 A:Around
 N:List Str
 s₀:Shared
 H₀:Hp
 env:Env
 outer:List Env
 stack:List Env
 ex:List Addr
 fn:Str->Bool
 calm:Bool
 pn:List (Addr × Obj)
 xe:Value->Shared->Prop
variable {X:Cx}
def frs (l:List Env):List Addr:=l.filterMap (·.frame)
abbrev Cx.fs (X:Cx):List Addr:=frs X.outer
def Vis (sc:Scope) (x:Str):Prop:=sc.names.lookup x=some .local\/sc.names.lookup x=some .cell\/sc.names.lookup x=some .free
def Loc (sc:Scope) (x:Str):Prop:=sc.names.lookup x=some .local\/sc.names.lookup x=some .cell
def ves (env:Env) (h:Heap) (m:Str->Option Value) (x:Str) (u:Value):Prop :=
 (env.kindOf x=some .local/\m x=some u)\/((env.kindOf x=some .cell\/env.kindOf x=some .free)/\∃ c,env.cells.lookup x=some c/\h.IsCell c (some u))
structure Cx.Ok (X:Cx):Prop where
 mod:Mod X.K X.mg X.base
 kind:X.env.scope.kind=.function
 glob:X.env.globals=mainGlobals
 blt:X.env.builtins=builtinsNs
 above:X.s₀.heap.objs.size <= X.env.locals
 inj:∀ x y c,X.env.cells.lookup x=some c->X.env.cells.lookup y=some c->x=y
 has:∀ x,(X.env.kindOf x=some .cell\/X.env.kindOf x=some .free)->∃ c,X.env.cells.lookup x=some c
 cab:∀ x c,X.fn x=true->X.env.cells.lookup x=some c->X.s₀.heap.objs.size <= c
 hd:X.calm=true->X.A.handled=none
 frames:X.A.frames=some X.stack
 stk:X.stack=X.outer\/(X.stack=X.env :: X.outer/\X.env.frame=some X.env.locals)
 exf:∀ b∈X.ex,b≠X.env.locals/\∀ x c,X.env.cells.lookup x=some c->c≠b
 bs:∀ b o,X.base.get? b=some o->X.s₀.heap.get? b=some o/\X.H₀ b=none
 bsz:X.base.objs.size <= X.s₀.heap.objs.size
 noex:∀ b o,X.base.get? b=some o->b∉X.ex
 exfs:∀ b∈X.ex,b∉X.fs
 funs:X.s₀.heap.FunFrames X.base X.outer
 frf:∀ b∈X.fs,X.H₀ b=none
structure Inv (X:Cx) (pins:List (Addr × Obj)) (σ:List (Option V)) (H:Hp) (s:Shared):Prop where
 ok:X.Ok
 os:s.os=X.s₀.os
 bare:AllBare s.gens
 base:Un X.fs X.ex X.H₀ H X.s₀.heap s.heap
 loc:∃ m,s.heap.Ns X.env.locals m/\∀ (i:Nat) (x:Str) (v:V),X.N[i]?=some x->σ[i]?=some (some v)->Vis X.env.scope x->∃ u,w8 v u/\ves X.env s.heap m x u
 cell:∀ x c,X.env.cells.lookup x=some c->∃ v,s.heap.IsCell c v
 free:H X.env.locals=none
 freeC:∀ x c,X.env.cells.lookup x=some c->H c=none
 pin:∀ p∈X.pn++pins,s.heap.get? p.1=some p.2/\H p.1=none/\p.1≠X.env.locals/\p.1∉X.fs/\∀ v,p.2.data≠.cell v
 hok:HOk X.prog X.w H s.heap
 len:σ.length=X.N.length
section
variable {σ:List (Option V)} {s:Shared}
theorem Cx.Ok.nofr (ok:X.Ok) {b:Addr} {o:Obj} (e:X.base.get? b=some o):b∉X.fs:=fun a=>by
 have:=(ok.funs.mem a).1;rw [e] at this; cases this
theorem Inv.bs (I:Inv X pins σ H s):∀ b o,X.base.get? b=some o->s.heap.get? b=some o/\H b=none:=fun b o e =>
 ⟨I.base.keep b o (I.ok.bs b o e).1 (I.ok.bs b o e).2 (I.ok.nofr e) (I.ok.noex b o e),I.base.free b o (I.ok.bs b o e).1 (I.ok.bs b o e).2 (I.ok.noex b o e)⟩
theorem Inv.bk (I:Inv X pins σ H s):∀ b o,X.base.get? b=some o->s.heap.get? b=some o:=fun b o e=>(I.bs b o e).1
theorem Inv.mod (I:Inv X pins σ H s):Mod X.K X.mg X.base:=I.ok.mod
theorem Inv.kIn (I:Inv X pins σ H s):X.K.In s.heap:=I.ok.mod.kin.keeps I.bk
theorem Inv.nolimit (I:Inv X pins σ H s):s.heap.NoLimit:=I.ok.mod.nolimit.keeps I.bk
theorem Inv.fr (I:Inv X pins σ H s):∃ m,Fr X.base X.env.locals s.heap m :=
 let ⟨m,hn,_⟩:=I.loc
 ⟨m,hn,I.bk,bN I.ok.bsz I.ok.above⟩
theorem Inv.lt (I:Inv X pins σ H s):X.env.locals < s.heap.objs.size:=let ⟨_,hn,_⟩:=I.loc; hn.lt
theorem Inv.sz (I:Inv X pins σ H s):X.s₀.heap.objs.size <= s.heap.objs.size:=bN I.ok.above (Nat.le_of_lt I.lt)
theorem Inv.nofs (I:Inv X pins σ H s) (h:s.heap.objs.size <= a):a∉X.fs:=fun b=>by
 obtain ⟨_,o,c,_⟩:=I.ok.funs.mem b;exact absurd (bT (bv c) (bN I.sz h)) (cI _)
theorem Inv.cne (I:Inv X pins σ H s):∀ x c,X.env.cells.lookup x=some c->c≠X.env.locals:=fun x c e z=>by
 obtain ⟨v,o,f,d⟩:=I.cell x c e;obtain ⟨m,⟨h,g,i,b,a,_⟩,_⟩:=I.loc;rw [z,b] at f; cases f; rw [a] at d; cases d
theorem Inv.funs (I:Inv X pins σ H s):s.heap.FunFrames X.base X.outer:=by
 have a:∀ (l:List Env),(∀ b∈frs l,b∈X.fs)->X.s₀.heap.FunFrames X.base l->s.heap.FunFrames X.base l:=by
  intro l
  induction l with
  | nil=>intro _ _; trivial
  | cons env r ih =>
   intro g m;obtain ⟨i,⟨L,o,d,h,n,k⟩,j⟩:=m;have f:L∈X.fs:=g L (by unfold frs; rw [List.filterMap_cons,d]; exact cu);obtain ⟨p,e⟩:=I.base.slot L o n (I.ok.frf L f) f fun z=>I.ok.exfs L z f;exists i,⟨L,_,d,h,e,k⟩,ih (fun b c=>g b (by unfold frs; rw [List.filterMap_cons,d]; exact cc _ c)) j
 exact a X.outer (fun _ c=>c) I.ok.funs
theorem Inv.stack (I:Inv X pins σ H s):s.heap.FunFrames X.base X.stack:=by
 rcases I.ok.stk with e | ⟨e,b⟩
 .rw [e]; exact I.funs
 .rw [e];obtain ⟨m,a,_⟩:=I.loc;refine .cons (by rw [I.ok.kind]; decide) b a ?_ I.funs;exact Heap.get?_none_of_le (bN I.ok.bsz I.ok.above)
theorem Inv.stkSub (I:Inv X pins σ H s):∀ b∈frs X.stack,b∈X.env.locals :: X.fs:=fun b a=>by
 rcases I.ok.stk with e | ⟨e,c⟩
 .rw [e] at a; exact cc _ a
 .rw [e] at a;unfold frs at a;rw [List.filterMap_cons,c] at a;exact a
theorem Inv.stkFree (I:Inv X pins σ H s):∀ b∈frs X.stack,H b=none:=fun b a=>by
 rcases bB.mp (I.stkSub b a) with e | a
 .rw [e]; exact I.free
 .obtain ⟨_,o,c,_⟩:=I.ok.funs.mem a;exact I.base.free b o c (I.ok.frf b a) fun z=>I.ok.exfs b z a
theorem Inv.step {g':Array GenState} {d':Drawn} {ch:List Addr} (I:Inv X pins σ H s)
  (hch:∀ b∈ch,(b∈X.ex\/X.s₀.heap.objs.size <= b)/\b≠X.env.locals/\(∀ x c,X.env.cells.lookup x=some c->c≠b)/\∀ p∈X.pn++pins,p.1≠b)
  (keep:∀ b o,b≠X.env.locals->b∉X.fs->b∉ch->s.heap.get? b=some o->H b=none->h'.get? b=some o)
  (slot:∀ b o,b≠X.env.locals->b∈X.fs->b∉ch->s.heap.get? b=some o->H b=none->∃ sl,h'.get? b=some { o with slots:=sl }) (free:∀ b o,b∉ch->s.heap.get? b=some o->H b=none->H' b=none)
  (there:∀ b o,b∉ch->s.heap.get? b=some o->∃ o',h'.get? b=some o')
  (tups:∀ b xs,H b=some (.tup xs)->H' b=some (.tup xs)) (frzs:∀ b o u,H b=some (.frz o u)->H' b=some (.frz o u)) (tbls:∀ b ps,H b=some (.tbl ps)->∃ more,H' b=some (.tbl (ps++more)))
  (ns:∀ m,s.heap.Ns X.env.locals m->h'.Ns X.env.locals m) (hok:HOk X.prog X.w H' h') (hg:AllBare g') :
  Inv X pins σ H' { s with heap:=h',gens:=g',drawn:=d',toks:=t' }:=by
 have A:∀ b o,X.s₀.heap.get? b=some o->b≠X.env.locals:=fun b o e=>bQ (bT (bv e) I.ok.above)
 have j:∀ b o,X.s₀.heap.get? b=some o->b∉X.ex->b∉ch:=fun b o e a t=>by
  rcases (hch b t).1 with z | z
  .exact a z
  .exact absurd (bT (bv e) z) (cI _)
 have g:∀ x c,X.env.cells.lookup x=some c->∀ v,s.heap.IsCell c v->h'.IsCell c v:=fun x c e v ⟨o,y,C⟩=>by
  have f:c∉ch:=fun z=>(hch c z).2.2.1 x c e rfl;by_cases hc:c∈X.fs
  .obtain ⟨sl,q⟩:=slot c o (I.cne x c e) hc f y (I.freeC x c e);exists _,q,C
  .exists o,keep c o (I.cne x c e) hc f y (I.freeC x c e),C
 exists I.ok,I.os,hg,⟨fun b o e n t a=>?_,fun b o e n t a=>?_,fun b o e n a=>?_,fun b o e a=>?_,fun b xs e=>tups b xs (I.base.tups b xs e),fun b o xs e=>frzs b o xs (I.base.frzs b o xs e),fun b ps e=>?_⟩,?_,fun x c e=>?_,?_,fun x c e=>?_,fun p G=>?_,hok,I.len
 .exact keep b o (A b o e) t (j b o e a) (I.base.keep b o e n t a) (I.base.free b o e n a)
 .obtain ⟨sl,h⟩:=I.base.slot b o e n t a;obtain ⟨D,B⟩:=slot b _ (A b o e) t (j b o e a) h (I.base.free b o e n a);exists D,B
 .obtain ⟨o',h⟩:=I.base.there b o e a;exact free b o' (j b o e a) h (I.base.free b o e n a)
 .obtain ⟨o',h⟩:=I.base.there b o e a;exact there b o' (j b o e a) h
 .obtain ⟨K,h⟩:=I.base.tbls b ps e;obtain ⟨J,B⟩:=tbls b _ h;exists K++J,by rw [B,Array.append_assoc]
 .obtain ⟨m,L,M⟩:=I.loc;exists m,ns m L,fun i x v h B N=>?_;obtain ⟨u,r,l⟩:=M i x v h B N;exists u,r,?_;rcases l with l | ⟨k,c,e,z⟩
  .exact .inl l
  .exact .inr ⟨k,c,e,g x c e _ z⟩
 .obtain ⟨v,z⟩:=I.cell x c e;exists v,g x c e v z
 .obtain ⟨m,⟨o,_,_,y,_⟩,_⟩:=I.loc;exact free _ o (fun z=>(hch _ z).2.1 rfl) y I.free
 .obtain ⟨v,o,y,C⟩:=I.cell x c e;exact free c o (fun z=>(hch c z).2.2.1 x c e rfl) y (I.freeC x c e)
 .obtain ⟨e,n,F,E,d⟩:=I.pin p G;have f:p.1∉ch:=fun z=>(hch p.1 z).2.2.2 p G rfl;exists keep p.1 p.2 F E f e n,free p.1 p.2 f e n,F,E,d
theorem Inv.un (I:Inv X pins σ H s) (u:Un X.fs [] H H' s.heap h') (hok:HOk X.prog X.w H' h'):Inv X pins σ H' { s with heap:=h',toks:=t' }:=by
 obtain ⟨m,⟨o,p,t,g,r⟩,_⟩:=id I.loc;obtain ⟨l,j⟩:=u.any g I.free (by simp)
 exact I.step (g':=s.gens) (d':=s.drawn) (ch:=[]) (fun _ z=>nomatch z) (fun b o _ d _ e n=>u.keep b o e n d (by simp)) (fun b o _ d _ e n=>u.slot b o e n d (by simp)) (fun b o _ e n=>u.free b o e n (by simp)) (fun b o _ e=>u.there b o e (by simp)) u.tups u.frzs u.tbls (fun k h=>by
  obtain ⟨q,c,f,a,i⟩:=h;rw [g] at a; cases a;exact ⟨_,c,f,j,i⟩) hok I.bare
theorem Inv.call {g':Array GenState} {d':Drawn} {ch:List Addr} (I:Inv X pins σ H s) (u:Un (frs X.stack) ch H H' s.heap h') (hok:HOk X.prog X.w H' h') (hg:AllBare g')
  (hch:∀ b∈ch,(b∈X.ex\/X.s₀.heap.objs.size <= b)/\b≠X.env.locals/\(∀ x c,X.env.cells.lookup x=some c->c≠b)/\∀ p∈X.pn++pins,p.1≠b) :
  Inv X pins σ H' { s with heap:=h',gens:=g',drawn:=d',toks:=t' }:=by
 obtain ⟨m,⟨o,y,A,i,r⟩,_⟩:=id I.loc;obtain ⟨t,g⟩:=u.any i I.free fun z=>(hch _ z).2.1 rfl
 exact I.step (ch:=ch) hch (fun b o g k a e n=>u.keep b o e n (fun z=>(bB.mp (I.stkSub b z)).elim g k) a) (fun b o _ _ a e n=>u.any e n a) (fun b o a e n=>u.free b o e n a) (fun b o a e=>u.there b o e a) u.tups u.frzs u.tbls (fun q j=>by
  obtain ⟨v,f,h,d,l⟩:=j;rw [i] at d; cases d;exact ⟨_,f,h,g,l⟩) hok hg
theorem Inv.turned {it:Addr} (I:Inv X pins σ H s) (k:∀ b o,b≠it->s.heap.get? b=some o->h'.get? b=some o) (hn:H it=none) (hL:it≠X.env.locals)
  (h1:it∈X.ex\/X.s₀.heap.objs.size <= it) (h2:∀ x c,X.env.cells.lookup x=some c->c≠it) (h3:∀ p∈X.pn++pins,p.1≠it):Inv X pins σ H { s with heap:=h',toks:=t' }:=by
 have d:∀ b u,H b=some u->b≠it:=fun b u e z=>by rw [z,hn] at e; cases e
 refine I.step (g':=s.gens) (d':=s.drawn) (ch:=[it]) (fun b h=>?_) (fun b o _ _ a e _=>k b o (fun z=>a (by simp [z])) e) (fun b o _ _ a e _=>⟨o.slots,k b o (fun z=>a (by simp [z])) e⟩) (fun _ _ _ _ n=>n)
  (fun b o a e=>⟨o,k b o (fun z=>a (by simp [z])) e⟩) (fun _ _ e=>e) (fun _ _ _ e=>e) (fun b l e=>⟨#[],by rw [e]; simp⟩) (fun m f=>?_) (fun b u e=>?_) I.bare
 .have e:b=it:=by simpa using h
  subst e;exact ⟨h1,hL,h2,h3⟩
 .obtain ⟨o,g,j,i,r⟩:=f;exists o,g,j,k _ o (Ne.symm hL) i,r
 .refine (I.hok b u e).stay (fun c v a q=>k c v ?_ q) (fun _ q=>q) fun _ _ q=>q;rcases a with z | z
  .rw [z]; exact d b u e
  .exact d c _ z
theorem Inv.tok (I:Inv X pins σ H s) (t:Nat):Inv X pins σ H { s with toks:=t }:=I.un (h':=s.heap) (t':=t) Un.refl I.hok
theorem Inv.kept (I:Inv X pins σ H s) (k:∀ b u,s.heap.get? b=some u->h'.get? b=some u):Inv X pins σ H { s with heap:=h',toks:=t' }:=I.un (Un.kept k) (I.hok.kept k)
theorem Inv.laid {o:HO} (I:Inv X pins σ H s) (k:∀ b u,s.heap.get? b=some u->h'.get? b=some u) (hp:s.heap.objs.size <= a) (new:xc X.prog X.w (upd H a o) h' a o) :
  Inv X pins σ (upd H a o) { s with heap:=h',toks:=t' }:=I.un (Un.laid k hp (I.hok.fresh hp)) (I.hok.laid k hp new)
theorem Inv.write {x e:Addr} {o:HO} (I:Inv X pins σ H s) (mu:Mut (H x)) (he:e=x\/H e=some (.own x)) (k:∀ b u,b≠e->s.heap.get? b=some u->h'.get? b=some u) (heo:∃ u,h'.get? e=some u)
  (new:xc X.prog X.w (upd H x o) h' x o):Inv X pins σ (upd H x o) { s with heap:=h',toks:=t' }:=I.un (Un.write mu he k heo) (I.hok.write mu he k heo new)
theorem Inv.pins_of {pins':List (Addr × Obj)} (I:Inv X pins σ H s) (h:∀ p∈pins',s.heap.get? p.1=some p.2/\H p.1=none/\p.1≠X.env.locals/\p.1∉X.fs/\∀ v,p.2.data≠.cell v):Inv X pins' σ H s :=
 ⟨I.ok,I.os,I.bare,I.base,I.loc,I.cell,I.free,I.freeC,fun p a=>(bP.mp a).elim (fun z=>I.pin p (List.mem_append_left _ z)) (h p),I.hok,I.len⟩
theorem ydi {N:List Str} (hN:N.Nodup) (a:N[i]?=some x) (b:N[j]?=some x):i=j:=by
 obtain ⟨f,d⟩:=bM.mp a;obtain ⟨e,c⟩:=bM.mp b;exact (List.getElem_inj hN).mp (d.trans c.symm)
theorem ó {A:Around} {Q:Unit->Shared->Prop} (I:Inv X pins σ H s) (hN:X.N.Nodup) (hi:X.N[i]?=some x) (hx:Loc X.env.scope x) (r:w8 v u)
  (h:∀ s',Inv X pins (σ.set i (some v)) H s'->(∃ a,Heap.SameBut a s.heap s'.heap/\(a=X.env.locals\/X.env.cells.lookup x=some a))->Q () s') (hf:X.fn x=true\/X.env.scope.names.lookup x=some .local:=by first | exact .inl rfl | exact .inr rfl | assumption):wpAny M A (storeName X.env x u) Q E s:=by
 obtain ⟨m,hn,hl⟩:=id I.loc;have O:(X.env.scope.kind == .class || (X.env.scope.kind == .module && X.env.locals != X.env.globals))=false:=by rw [I.ok.kind]; rfl
 have hiσ:i < σ.length:=by rw [I.len]; exact (bM.mp hi).1
 have G:=I.cne
 have l:∀ {a:Addr} {K:Heap},(∃ o,s.heap.get? a=some o/\H a=none)->Heap.SameBut a s.heap K->HOk X.prog X.w H K:=fun {a K} ha f b ob e=>by
  obtain ⟨_,_,B⟩:=ha;refine (I.hok b ob e).stay (fun c S t q=>(f.2 c ?_).trans q) (fun _ q=>q) fun _ _ q=>q;rintro rfl;rcases t with rfl | t
  .rw [B] at e; cases e
  .rw [B] at t; cases t
 rcases hx with D | D
 .refine wpAny_storeName_local D hn (fun K a0 f=>?_) O;obtain ⟨oL,_,_,a1,_⟩:=id hn;refine h _ ⟨I.ok,I.os,I.bare,⟨fun b o e n J hx=>?_,fun b o e n J hx=>?_,I.base.free,fun b o e hx=>?_,I.base.tups,I.base.frzs,I.base.tbls⟩,⟨_,a0,fun j y v' g C e3=>?_⟩,fun y c e=>?_,I.free,I.freeC,fun p hp=>?_,l ⟨oL,a1,I.free⟩ f,by simpa using I.len⟩ ⟨_,f,.inl rfl⟩
  .exact (f.2 b (bQ (bT (bv e) I.ok.above))).trans (I.base.keep b o e n J hx)
  .obtain ⟨sl,g⟩:=I.base.slot b o e n J hx;exists sl,(f.2 b (bQ (bT (bv e) I.ok.above))).trans g
  .obtain ⟨W,g⟩:=I.base.there b o e hx;exists W,(f.2 b (bQ (bT (bv e) I.ok.above))).trans g
  .by_cases hj:j=i
   .subst hj;rw [hi] at g; cases g;rw [List.getElem?_set_self hiσ] at C;cases C;exists u,r,.inl ⟨D,by simp⟩
   .rw [List.getElem?_set_ne (Ne.symm hj)] at C;obtain ⟨u',Y,q⟩:=hl j y v' g C e3;exists u',Y,?_;rcases q with ⟨k,e⟩ | ⟨k,c,e,z⟩
    .refine .inl ⟨k,?_⟩;have:y≠x:=fun e=>hj (ydi hN g (e ▸ hi));simp [this,e]
    .exact .inr ⟨k,c,e,z.sameBut f (G y c e)⟩
  .obtain ⟨S,z⟩:=I.cell y c e;exists S,z.sameBut f (G y c e)
  .obtain ⟨e,n,T,Z,d⟩:=I.pin p hp;exists (f.2 p.1 T).trans e,n,T,Z,d
 .have F:X.fn x=true:=by
   rcases hf with z | z
   .exact z
   .rw [z] at D; cases D
  obtain ⟨c,t⟩:=I.ok.has x (.inl D);obtain ⟨S,z⟩:=I.cell x c t;refine wpAny_storeName_cell I.ok.kind D t z (fun K P f=>?_);obtain ⟨oc,R,L⟩:=id z;refine h { s with heap:=K } ⟨I.ok,I.os,I.bare,⟨fun b o e n J hx=>?_,fun b o e n J hx=>?_,I.base.free,fun b o e hx=>?_,I.base.tups,I.base.frzs,I.base.tbls⟩,⟨m,hn.sameBut f (Ne.symm (G x c t)),fun j y v' g C e3=>?_⟩,fun y U e=>?_,I.free,I.freeC,fun p hp=>?_,l ⟨oc,R,I.freeC x c t⟩ f,by simpa using I.len⟩ ⟨c,f,.inr t⟩
  .exact (f.2 b (bQ (bT (bv e) (I.ok.cab x c F t)))).trans (I.base.keep b o e n J hx)
  .obtain ⟨sl,g⟩:=I.base.slot b o e n J hx;exists sl,(f.2 b (bQ (bT (bv e) (I.ok.cab x c F t)))).trans g
  .obtain ⟨W,g⟩:=I.base.there b o e hx;exists W,(f.2 b (bQ (bT (bv e) (I.ok.cab x c F t)))).trans g
  .by_cases hj:j=i
   .subst hj;rw [hi] at g; cases g;rw [List.getElem?_set_self hiσ] at C;cases C;exists u,r,.inr ⟨.inl D,c,t,P⟩
   .rw [List.getElem?_set_ne (Ne.symm hj)] at C;obtain ⟨u',Y,q⟩:=hl j y v' g C e3;exists u',Y,?_;rcases q with q | ⟨k,U,e,z'⟩
    .exact .inl q
    .refine .inr ⟨k,U,e,z'.sameBut f ?_⟩;rintro rfl;exact hj (ydi hN g (I.ok.inj _ _ _ e t ▸ hi))
  .by_cases hcc:U=c
   .subst hcc; exists _,P
   .obtain ⟨w2,z2⟩:=I.cell y U e;exists w2,z2.sameBut f hcc
  .obtain ⟨e,n,T,Z,d⟩:=I.pin p hp;exists (f.2 p.1 ?_).trans e,n,T,Z,d;intro q;rw [q,R] at e;have q':oc=p.2:=bF e;exact d S (by rw [<- q']; exact L)
theorem Ř {A:Around} {Q:Unit->Shared->Prop} (I:Inv X pins σ H s) (hN:X.N.Nodup) (hi:X.N[i]?=some x) (hx:Loc X.env.scope x) (r:w8 v u)
  (h:∀ s',Inv X pins (σ.set i (some v)) H s'->Q () s') (hf:X.fn x=true\/X.env.scope.names.lookup x=some .local:=by first | exact .inl rfl | exact .inr rfl | assumption):wpAny M A (storeName X.env x u) Q E s :=
 ó I hN hi hx r (fun s' a _=>h s' a) hf
theorem Inv.call' {ch:List Addr} (I:Inv X pins σ H s) (ho:s'.os=s.os) (u:Un (frs X.stack) ch H H' s.heap s'.heap) (hok:HOk X.prog X.w H' s'.heap) (hg:AllBare s'.gens)
  (hch:∀ b∈ch,(b∈X.ex\/X.s₀.heap.objs.size <= b)/\b≠X.env.locals/\(∀ x c,X.env.cells.lookup x=some c->c≠b)/\∀ p∈X.pn++pins,p.1≠b):Inv X pins σ H' s':=by
 obtain ⟨d,g',d',t',a⟩:=s';have e:a=s.os:=ho;subst e;exact I.call (g':=g') (t':=t') (d':=d') u hok hg hch
end
abbrev XK:=Value->Option Addr->Hp->Prop
abbrev St:=List (Option V)
variable {σ:St}
abbrev VK:=V->Hp->Prop
abbrev TE:=St->Hp->VK->Prop
variable {ta te:TE}
abbrev TT:=St->Hp->(Bool->Hp->Prop)->Prop
abbrev TA:=St->Hp->(List V->Hp->Prop)->Prop
structure Ĭ where
 nx:St->Hp->Prop
 rt:VK
 bk:St->Hp->Prop:=fun _ _=>False
 ct:St->Hp->Prop:=fun _ _=>False
abbrev TS:=Ĭ->St->Hp->Prop
def EP (X:Cx) (pins:List (Addr × Obj)) (σ:St) (Q:VK) (u:Value) (s':Shared):Prop:=∃ v H',Inv X pins σ H' s'/\w8 v u/\Q v H'
def TP (X:Cx) (pins:List (Addr × Obj)) (σ:St) (Q:Bool->Hp->Prop) (b:Bool) (s':Shared):Prop:=∃ H',Inv X pins σ H' s'/\Q b H'
def AP (X:Cx) (pins:List (Addr × Obj)) (σ:St) (Q:List V->Hp->Prop) (us:List Value) (s':Shared):Prop:=∃ vs H',Inv X pins σ H' s'/\wd vs us/\Q vs H'
def SP (X:Cx) (pins:List (Addr × Obj)) (D:Ĭ) (f:Flow) (s':Shared):Prop :=
 match f with
 | .next=>∃ σ' H',Inv X pins σ' H' s'/\D.nx σ' H'
 | .brk=>∃ σ' H',Inv X pins σ' H' s'/\D.bk σ' H'
 | .cont=>∃ σ' H',Inv X pins σ' H' s'/\D.ct σ' H'
 | .ret u=>∃ v σ' H',Inv X pins σ' H' s'/\w8 v u/\D.rt v H'
structure PE (X:Cx) (e:Expr) (t:TE):Prop where
 go:∀ (pins:List (Addr × Obj)) (s:Shared) (σ:St) (H:Hp) (Q:VK),Inv X pins σ H s->t σ H Q->wpAny (model X.prog X.w) X.A (eval e X.env) (EP X pins σ Q) X.xe s
instance {X:Cx} {e:Expr} {t:TE}:CoeFun (PE X e t) (fun _=>∀ (pins:List (Addr × Obj)) (s:Shared) (σ:St) (H:Hp) (Q:VK),Inv X pins σ H s->t σ H Q->wpAny (model X.prog X.w) X.A (eval e X.env) (EP X pins σ Q) X.xe s):=⟨PE.go⟩
structure PT (X:Cx) (e:Expr) (t:TT):Prop where
 go:∀ (pins:List (Addr × Obj)) (s:Shared) (σ:St) (H:Hp) (Q:Bool->Hp->Prop),Inv X pins σ H s->t σ H Q->wpAny (model X.prog X.w) X.A (isTrue e X.env (eval e X.env)) (TP X pins σ Q) X.xe s
instance {X:Cx} {e:Expr} {t:TT}:CoeFun (PT X e t) (fun _=>∀ (pins:List (Addr × Obj)) (s:Shared) (σ:St) (H:Hp) (Q:Bool->Hp->Prop),Inv X pins σ H s->t σ H Q->wpAny (model X.prog X.w) X.A (isTrue e X.env (eval e X.env)) (TP X pins σ Q) X.xe s):=⟨PT.go⟩
def PW (X:Cx) (e:Expr) (t:TT):Prop :=
 ∀ (whole:Sem Value) (pins:List (Addr × Obj)) (s:Shared) (σ:St) (H:Hp) (Q:Bool->Hp->Prop),Inv X pins σ H s->t σ H Q->wpAny (model X.prog X.w) X.A (isTrue e X.env whole) (TP X pins σ Q) X.xe s
theorem PW.pt {t:TT} (h:PW X e t):PT X e t:=⟨h _⟩
structure PA (X:Cx) (es:List Expr) (t:TA):Prop where
 go:∀ (pos:Pos) (pins:List (Addr × Obj)) (s:Shared) (σ:St) (H:Hp) (Q:List V->Hp->Prop),Inv X pins σ H s->t σ H Q->wpAny (model X.prog X.w) X.A (spliced (backTo pos (starEach es X.env))) (AP X pins σ Q) X.xe s
instance {X:Cx} {es:List Expr} {t:TA}:CoeFun (PA X es t) (fun _=>∀ (pos:Pos) (pins:List (Addr × Obj)) (s:Shared) (σ:St) (H:Hp) (Q:List V->Hp->Prop),Inv X pins σ H s->t σ H Q->wpAny (model X.prog X.w) X.A (spliced (backTo pos (starEach es X.env))) (AP X pins σ Q) X.xe s):=⟨PA.go⟩
structure PS (X:Cx) (st:Stmt) (t:TS):Prop where
 go:∀ (pins:List (Addr × Obj)) (s:Shared) (σ:St) (H:Hp) (D:Ĭ),Inv X pins σ H s->t D σ H->wpAny (model X.prog X.w) X.A (exec st X.env) (SP X pins D) X.xe s
instance {X:Cx} {st:Stmt} {t:TS}:CoeFun (PS X st t) (fun _=>∀ (pins:List (Addr × Obj)) (s:Shared) (σ:St) (H:Hp) (D:Ĭ),Inv X pins σ H s->t D σ H->wpAny (model X.prog X.w) X.A (exec st X.env) (SP X pins D) X.xe s):=⟨PS.go⟩
structure PSs (X:Cx) (st:List Stmt) (t:TS):Prop where
 go:∀ (pins:List (Addr × Obj)) (s:Shared) (σ:St) (H:Hp) (D:Ĭ),Inv X pins σ H s->t D σ H->wpAny (model X.prog X.w) X.A (execs st X.env) (SP X pins D) X.xe s
instance {X:Cx} {st:List Stmt} {t:TS}:CoeFun (PSs X st t) (fun _=>∀ (pins:List (Addr × Obj)) (s:Shared) (σ:St) (H:Hp) (D:Ĭ),Inv X pins σ H s->t D σ H->wpAny (model X.prog X.w) X.A (execs st X.env) (SP X pins D) X.xe s):=⟨PSs.go⟩
theorem thn {α:Type} {t:Sem α} {Q Q':α->Shared->Prop} {A:Around} {s:Shared} (h:wpAny M A t Q E s) (hQ:∀ a s,Q a s->Q' a s):wpAny M A t Q' E s:=cJ h hQ fun _ _ x=>x
section
def vap (i:Nat):TE:=fun σ H Q=>∃ v,σ[i]?=some (some v)/\Q v H
def tC (v:V):TE:=fun _ H Q=>Q v H
theorem yu1 {pos:Pos} (hN:X.N[i]?=some x) (hv:Vis X.env.scope x) (hd:(x == ("__debug__":Str))=false:=by decide) (hcd:(x == ("__classdict__":Str))=false:=by decide):PE X (.Name x pos) (vap i):=by
 refine .mk fun f s σ H Q I h=>?_;obtain ⟨v,e,h⟩:=h;obtain ⟨m,j,n⟩:=I.loc;obtain ⟨u,r,l⟩:=n i x v hN e hv;have d:EP X f σ Q u s:=⟨v,H,I,r,h⟩;rcases l with ⟨b,k⟩ | ⟨b,c,g,a⟩
 .exact wpAny_Name (wpAny_loadName_local I.ok.kind b j k d) hd
 .rcases b with b | b
  .exact wpAny_Name (wpAny_loadName_cell I.ok.kind b g a d) hd
  .exact wpAny_Name (wpAny_loadName_free I.ok.kind b g a d hcd) hd
theorem ye {i j pos}:PE X (.Constant (.int i) j pos) (tC (.int i)):=.mk fun _ _ _ H _ I h=>wpAny_Constant_int ⟨.int i,H,I.tok _,⟨_,rfl⟩,h⟩
theorem ylq {b j pos}:PE X (.Constant (.bool b) j pos) (tC (.bl b)):=.mk fun _ _ _ H _ I h=>Constant_bool ⟨.bl b,H,I,rfl,h⟩
theorem ý {j pos}:PE X (.Constant .none j pos) (tC .non):=.mk fun _ _ _ H _ I h=>Constant_none ⟨.non,H,I,rfl,h⟩
theorem wy {x j pos}:PE X (.Constant (.str x) j pos) (tC (.str x)):=.mk fun _ _ _ H _ I h=>Calls.Constant_str ⟨.str x,H,I.tok _,⟨_,rfl⟩,h⟩
def Gl (X:Cx) (x:Str):Prop:=X.env.kindOf x=some .globalImplicit
theorem j3 {s:Shared} {pos:Pos} (I:Inv X pins σ H s) (hg:Gl X x) (hm:X.mg x=some u) (h:Q u s)
  (hd:(x == ("__debug__":Str))=false:=by decide):wpAny (model X.prog X.w) X.A (eval (.Name x pos) X.env) Q E s :=
 Calls.Name_function_global I.ok.kind hg (Calls.loadGlobal_global (by rw [I.ok.glob]; exact I.mod.glob.keeps I.bk) hm h) hd
theorem ĥ {s:Shared} {pos:Pos} (I:Inv X pins σ H s) (hg:Gl X x) (hm:X.mg x=none) (hv:bootBuiltins x=some u) (h:Q u s)
  (hn:x≠"__name__":=by decide) (hd:(x == ("__debug__":Str))=false:=by decide):wpAny (model X.prog X.w) X.A (eval (.Name x pos) X.env) Q E s:=by
 obtain ⟨c,a,b⟩:=I.mod.blt;exact Calls.Name_function_global I.ok.kind hg (Calls.loadGlobal_builtin (by rw [I.ok.glob]; exact I.mod.glob.keeps I.bk) hm (by rw [I.ok.blt]; exact a.keeps I.bk) ((b x hn).trans hv) h) hd
theorem yb6 {pos:Pos} (hg:Gl X x) (hm:X.mg x=some u) (r:w8 v u) (hd:(x == ("__debug__":Str))=false:=by decide):PE X (.Name x pos) (tC v):=.mk
 fun _ _ _ H _ I h=>j3 I hg hm ⟨v,H,I,r,h⟩ hd
theorem ypt {pos:Pos} (hg:Gl X x) (hm:X.mg x=none) (hv:bootBuiltins x=some u) (r:w8 v u) (hn:x≠"__name__":=by decide) (hd:(x == ("__debug__":Str))=false:=by decide):PE X (.Name x pos) (tC v):=.mk
 fun _ _ _ H _ I h=>ĥ I hg hm hv ⟨v,H,I,r,h⟩ hn hd
variable {a b:Expr} {tb:TE} {pos:Pos}
def PC (X:Cx) (op:CmpOp) (a b:Expr) (t:TE):Prop :=
 ∀ (pins:List (Addr × Obj)) (s:Shared) (σ:St) (H:Hp) (Q:VK),Inv X pins σ H s->t σ H Q ->
  wpAny (model X.prog X.w) X.A (eval a X.env) (fun v s₁=>wpAny (model X.prog X.w) X.A (eval b X.env) (fun u s₂=>wpAny (model X.prog X.w) X.A (compareOp op v u) (EP X pins σ Q) X.xe s₂) X.xe s₁) X.xe s
theorem yjm (b:Expr) (h:op≠.In) (h2:op≠.NotIn):behindInMarks op b=false:=by
 have c:(op == CmpOp.In)=false:=by cases op <;> first | rfl | exact absurd rfl h
 have a:(op == CmpOp.NotIn)=false:=by cases op <;> first | rfl | exact absurd rfl h2
 cases b <;> simp [behindInMarks,c,a]
def tB (t:TE):TT:=fun σ H Q=>t σ H fun x H1=>∃ c,x=.bl c/\Q c H1
theorem yh6 {t:TE} (h:PC X op a b t) (h1:behindInMarks op b=false:=by first | exact yjm _ (by decide) (by decide) | rfl):PT X (.Compare a [op] [b] pos) (tB t):=by
 refine .mk fun e s σ H Q I g=>?_;refine wpAny_isTrue_Compare1 (thn (h e s σ H _ I g) fun v m h1=>thn h1 fun u n l=>thn l fun c o h'=>?_) h1;obtain ⟨x,k,j,f,i⟩:=h';obtain ⟨d,rfl,q⟩:=i;cases f;exact cn ⟨k,j,q⟩
theorem xu {t:TE} (h:PE X e t) (he:∀ whole,isTrue e X.env whole=(do let v <- whole; standAt e.pos; holding [v] (truthy v)):=by intro _; rfl):PT X e (tB t):=by
 refine .mk fun a s σ H Q I c=>?_;refine isTrue_plain (thn (h a s σ H _ I c) fun v j h'=>?_) (he _);obtain ⟨x,g,f,b,i⟩:=h';obtain ⟨d,rfl,q⟩:=i;cases b;exact cn ⟨g,f,q⟩
variable {tA tB':TT} {jj:List Expr}
def vdx (t u:TT):TT:=fun σ H Q=>t σ H fun c H1=>if c=true then u σ H1 Q else Q false H1
def tOr (t u:TT):TT:=fun σ H Q=>t σ H fun c H1=>if c=true then Q true H1 else u σ H1 Q
def vdv (t:TT):TT:=fun σ H Q=>t σ H fun c H1=>Q (!c) H1
theorem yqf (ha:PT X a tA):PW X (.BoolOp .And [a] pos) tA:=by
 intro d b s σ H Q I h;refine isTrue_and (thn (ha b s σ H Q I h) fun c f e=>?_)
 cases c with
 | true=>exact isTrue_and_nil e
 | false=>exact e
theorem yav (ha:PT X a tA):PW X (.BoolOp .Or [a] pos) tA:=by
 intro d b s σ H Q I h;refine isTrue_or (thn (ha b s σ H Q I h) fun c f e=>?_)
 cases c with
 | false=>exact isTrue_or_nil e
 | true=>exact e
theorem yu7 (ha:PT X a tA) (hb:PW X (.BoolOp .And (b :: jj) pos) tB'):PW X (.BoolOp .And (a :: b :: jj) pos) (vdx tA tB'):=by
 intro i d s σ H Q I h;refine isTrue_and (thn (ha d s σ H _ I h) fun c j ⟨f,e,g⟩=>?_)
 cases c with
 | true=>exact hb i d j σ f Q e g
 | false=>exact ⟨f,e,g⟩
theorem ya2 (ha:PT X a tA) (hb:PW X (.BoolOp .Or (b :: jj) pos) tB'):PW X (.BoolOp .Or (a :: b :: jj) pos) (tOr tA tB'):=by
 intro i d s σ H Q I h;refine isTrue_or (thn (ha d s σ H _ I h) fun c j ⟨f,e,g⟩=>?_)
 cases c with
 | true=>exact ⟨f,e,g⟩
 | false=>exact hb i d j σ f Q e g
theorem xq (ha:PT X a tA):PT X (.UnaryOp .Not a pos) (vdv tA):=by
 refine .mk fun b s σ H Q I h=>?_;exact isTrue_not (ha b s σ H (fun c d=>Q (!c) d) I h)
def vaf (ta tb:TE):TE:=fun σ H Q=>ta σ H fun x H1=>∃ c,x=.bl c/\if c=true then tb σ H1 Q else Q (.bl false) H1
def veg (ta tb:TE):TE:=fun σ H Q=>ta σ H fun x H1=>∃ c,x=.bl c/\if c=true then Q (.bl true) H1 else tb σ H1 Q
def vaj (ta:TE):TE:=fun σ H Q=>ta σ H fun x H1=>∃ c,x=.bl c/\Q (.bl (!c)) H1
theorem zu {op} {t:TE} (h:PE X a t):PE X (.BoolOp op [a] pos) t:=.mk fun b s σ H Q I c=>BoolOp_one (h b s σ H Q I c)
theorem xx (ha:PE X a ta) (hb:PE X (.BoolOp .And (b :: jj) pos) tb):PE X (.BoolOp .And (a :: b :: jj) pos) (vaf ta tb):=by
 refine .mk fun d s σ H Q I h=>?_;refine BoolOp_and (thn (ha d s σ H _ I h) fun v j h'=>?_);obtain ⟨x,g,f,i,e⟩:=h';obtain ⟨c,rfl,e⟩:=e;cases i;refine cn ?_
 cases c with
 | true=>exact hb d j σ g Q f e
 | false=>exists .bl false,g,f,rfl,e
theorem ymp (ha:PE X a ta):PE X (.UnaryOp .Not a pos) (vaj ta):=by
 refine .mk fun b s σ H Q I h=>?_;refine UnaryOp_ (thn (ha b s σ H _ I h) fun v i h'=>?_);obtain ⟨x,g,f,e,d⟩:=h';obtain ⟨c,rfl,d⟩:=d;cases e;exact not_of (cn ⟨.bl (!c),g,f,rfl,d⟩)
def tIf (t:TT) (ta tb:TE):TE:=fun σ H Q=>t σ H fun c H1=>if c=true then ta σ H1 Q else tb σ H1 Q
theorem jf {c:Expr} (hc:PT X c tA) (ha:PE X a ta) (hb:PE X b tb):PE X (.IfExp c a b pos) (tIf tA ta tb):=by
 refine .mk fun e s σ H Q I h=>?_;refine wpAny_IfExp (thn (hc e s σ H _ I h) fun d f ⟨i,g,j⟩=>?_)
 cases d with
 | true=>exact ha e f σ i Q g j
 | false=>exact hb e f σ i Q g j
end
def SqL (K:W.Frag) (H:Hp) (a:Addr) (xs:List V):Prop :=
 Rd H a (.lst xs) \/
  ∃ (o:Obj) (its:Array Value) (n:Nat),K.lookup a=some o/\o.cls=.type "list"/\o.dict=none/\o.data=.seq its n/\its.size <= sizeLine/\wd xs its.toList
def SqT (K:W.Frag) (H:Hp) (a:Addr) (xs:List V):Prop :=
 Rd H a (.tup xs) \/
  ∃ (o:Obj) (its:Array Value) (n:Nat),K.lookup a=some o/\o.cls=.type "tuple"/\o.data=.seq its n/\its.size <= sizeLine/\wd xs its.toList
def veh:Value->Option V
 | .none=>some .non
 | .bool b=>some (.bl b)
 | .int i _=>some (.int i)
 | .str x _=>some (.str x)
 | .bytes b _=>some (.byt b)
 | .float b _=>some (.flt b)
 | .ref a=>some (.ref a)
 | .type n=>some (.ty n)
 | _=>none
theorem w8.abs {x:V} (r:w8 x u):veh u=some x:=by
 cases x with
 | non=>cases r; rfl
 | bl _=>cases r; rfl
 | int _=>obtain ⟨t,rfl⟩:=r; rfl
 | str _=>obtain ⟨t,rfl⟩:=r; rfl
 | byt _=>obtain ⟨t,rfl⟩:=r; rfl
 | flt _=>obtain ⟨t,rfl⟩:=r; rfl
 | ref _=>cases r; rfl
 | ty _=>cases r; rfl
theorem w8.inj {x:V} (r:w8 x u) (q:w8 y u):x=y:=bF (r.abs.symm.trans q.abs)
theorem wd.inj:∀ {xs ys:List V} {us:List Value},wd xs us->wd ys us->xs=ys
 | _,_,_,.nil,.nil=>rfl
 | _,_,_,.cons r t,.cons r' t'=>by rw [r.inj r',wd.inj t t']
section
variable {s:Shared} {ys:List V}
theorem SqL.of {K:W.Frag} (h:H a=some (.lst xs)):SqL K H a xs:=.inl (.inl h)
theorem SqT.of {K:W.Frag} (h:H a=some (.tup xs)):SqT K H a xs:=.inl (.inl h)
theorem Inv.list (I:Inv X pins σ H s) (h:SqL X.K H a xs):∃ its:List Value,wd xs its/\PlainL s.heap a its.toArray/\xs.length <= sizeLine:=by
 rcases h with h | ⟨o,its,n,b,c,d,f,g,r⟩
 .obtain ⟨z,its,n,r,e⟩:=h.ok I.hok;exists its,r,⟨_,n,e,rfl,rfl,rfl⟩,z
 .exists its.toList,r,⟨o,n,I.kIn a o b,c,d,by simpa using f⟩,?_;have e:=r.length;simp only [cC] at e;omega
theorem Inv.tuple (I:Inv X pins σ H s) (h:SqT X.K H a xs):∃ its:List Value,wd xs its/\IsTup s.heap a its.toArray/\xs.length <= sizeLine:=by
 rcases h with h | ⟨o,its,n,c,d,b,f,r⟩
 .obtain ⟨z,its,r,p⟩:=h.ok I.hok;exact ⟨its,r,p,z⟩
 .exists its.toList,r,⟨o,I.kIn a o c,d,n,by simpa using b⟩,?_;have e:=r.length;simp only [cC] at e;omega
theorem Inv.list_inj (I:Inv X pins σ H s) (h:SqL X.K H a xs) (h':SqL X.K H a ys):xs=ys:=by
 obtain ⟨c,r,⟨o,n,e,_,_,d⟩,_⟩:=I.list h;obtain ⟨b,i,⟨j,k,g,_,_,f⟩,_⟩:=I.list h';rw [e] at g; cases g;rw [d] at f;injection f with d1 _;have:c=b:=by simpa using congrArg Array.toList d1
 subst this;exact r.inj i
theorem Inv.tuple_inj (I:Inv X pins σ H s) (h:SqT X.K H a xs) (h':SqT X.K H a ys):xs=ys:=by
 obtain ⟨c,r,⟨o,e,_,n,d⟩,_⟩:=I.tuple h;obtain ⟨b,i,⟨j,g,_,k,f⟩,_⟩:=I.tuple h';rw [e] at g; cases g;rw [d] at f;injection f with d1 _;have:c=b:=by simpa using congrArg Array.toList d1
 subst this;exact r.inj i
end
abbrev Cx.wish (X:Cx) (E:Value->Shared->Prop):Cx:={ X with xe:=E }
abbrev Cx.nox (X:Cx):Cx:=X.wish fun _ _=>False
theorem Cx.Ok.wish (ok:X.Ok) (E:Value->Shared->Prop):(X.wish E).Ok :=
 ⟨ok.mod,ok.kind,ok.glob,ok.blt,ok.above,ok.inj,ok.has,ok.cab,ok.hd,ok.frames,ok.stk,ok.exf,ok.bs,ok.bsz,ok.noex,ok.exfs,ok.funs,ok.frf⟩
theorem Cx.Ok.unwish (ok:(X.wish E).Ok):X.Ok :=
 ⟨ok.mod,ok.kind,ok.glob,ok.blt,ok.above,ok.inj,ok.has,ok.cab,ok.hd,ok.frames,ok.stk,ok.exf,ok.bs,ok.bsz,ok.noex,ok.exfs,ok.funs,ok.frf⟩
section
variable {s:Shared}
theorem Inv.wish (I:Inv X pins σ H s) (E:Value->Shared->Prop):Inv (X.wish E) pins σ H s:=⟨I.ok.wish E,I.os,I.bare,I.base,I.loc,I.cell,I.free,I.freeC,I.pin,I.hok,I.len⟩
theorem Inv.unwish (I:Inv (X.wish E) pins σ H s):Inv X pins σ H s:=⟨I.ok.unwish,I.os,I.bare,I.base,I.loc,I.cell,I.free,I.freeC,I.pin,I.hok,I.len⟩
theorem SP.unwish {D:Ĭ} {f:Flow} (h:SP (X.wish E) pins D f s'):SP X pins D f s':=by
 cases f with
 | next=>obtain ⟨σ',a,I,q⟩:=h; exact ⟨σ',a,I.unwish,q⟩
 | brk=>obtain ⟨σ',a,I,q⟩:=h; exact ⟨σ',a,I.unwish,q⟩
 | cont=>obtain ⟨σ',a,I,q⟩:=h; exact ⟨σ',a,I.unwish,q⟩
 | ret u=>obtain ⟨v,σ',a,I,r,q⟩:=h; exists v,σ',a,I.unwish,r,q
theorem PE.nox {t:TE} (h:PE X.nox e t):PE X e t:=.mk fun a s σ H Q I c =>
 cJ (h a s σ H Q (I.wish _) c) (by rintro _ _ ⟨v,b,d,r,q⟩; exact ⟨v,b,d.unwish,r,q⟩) fun _ _ z=>False.elim z
theorem PT.nox {t:TT} (h:PT X.nox e t):PT X e t:=.mk fun a s σ H Q I c =>
 cJ (h a s σ H Q (I.wish _) c) (fun _ _ ⟨b,d,q⟩=>⟨b,d.unwish,q⟩) fun _ _ z=>False.elim z
theorem PSs.nox {st:List Stmt} {t:TS} (h:PSs X.nox st t):PSs X st t:=.mk fun a s σ H D I b =>
 cJ (h a s σ H D (I.wish _) b) (fun _ _ q=>q.unwish) fun _ _ z=>False.elim z
end
section
variable {st:Stmt} {jj:List Stmt} {t u:TS} {pos:Pos}
def yz9:TS:=fun D σ H=>D.nx σ H
def vdb (t u:TS):TS:=fun D σ H=>t { D with nx:=u D } σ H
theorem ve:PSs X [] yz9:=.mk fun _ _ σ H _ I h=>wpAny_execs_nil ⟨σ,H,I,h⟩
theorem yg (h1:PS X st t) (h2:PSs X jj u):PSs X (st :: jj) (vdb t u):=by
 refine .mk fun a s σ H D I h=>?_;refine wpAny_execs_cons (thn (h1 a s σ H { D with nx:=u D } I h) fun f d q=>?_)
 cases f with
 | next =>
  obtain ⟨σ',c,b,q⟩:=q;exact h2 a d σ' c D b q
 | ret v=>exact q
 | brk=>exact q
 | cont=>exact q
theorem yd (h1:PS X st t):PSs X [st] t:=by
 refine .mk fun a s σ H D I h=>?_;refine wpAny_execs_cons (thn (h1 a s σ H D I h) fun f b q=>?_)
 cases f with
 | next=>exact wpAny_execs_nil q
 | ret v=>exact q
 | brk=>exact q
 | cont=>exact q
theorem Inv.quiet {s:Shared} (I:Inv X pins σ H s):interactive X.env=false:=by simp [interactive,I.ok.kind]
def yzr (te:TE):TS:=fun D σ H=>te σ H fun _ H1=>D.nx σ H1
theorem yp (he:PE X e te) (hs:swapsWith e none pos.line X.env=pure false:=by rfl):PS X (.Expr e pos) (yzr te):=by
 refine .mk fun a s σ H D I h=>?_;exact wpAny_Expr_any (thn (he a s σ H _ I h) fun v g ⟨x,c,b,f,d⟩=>⟨σ,c,b,d⟩) I.quiet hs
def vdo (te:TE):TS:=fun D σ H=>te σ H D.rt
theorem yt (he:PE X e te):PS X (.Return (some e) pos) (vdo te):=by
 refine .mk fun a s σ H D I h=>?_;exact wpAny_Return_some (thn (he a s σ H _ I h) fun v g ⟨x,d,c,b,f⟩=>⟨x,σ,d,c,b,f⟩)
def vcu:TS:=fun D _ H=>D.rt .non H
def vd0 (c:TT) (t u:TS):TS:=fun D σ H=>c σ H fun b H1=>if b=true then t D σ H1 else u D σ H1
theorem wz {c:Expr} {a b:List Stmt} {tc:TT} (hc:PT X c tc) (ha:PSs X a t) (hb:PSs X b u):PS X (.If c a b pos) (vd0 tc t u):=by
 refine .mk fun e s σ H D I h=>?_;refine wpAny_If (thn (hc e s σ H _ I h) fun d f ⟨i,g,j⟩=>?_)
 cases d with
 | true=>exact ha e f σ i D g j
 | false=>exact hb e f σ i D g j
def yu9:TS:=fun _ _ _=>False
theorem yke:PS X st yu9:=.mk fun _ _ _ _ _ _ h=>h.elim
end
abbrev TG:=V->St->Hp->(St->Hp->Prop)->Prop
abbrev TGs:=List V->St->Hp->(St->Hp->Prop)->Prop
def PG (X:Cx) (target:Expr) (t:TG):Prop :=
 ∀ (pins:List (Addr × Obj)) (s:Shared) (σ:St) (H:Hp) (v:V) (u:Value) (Q:St->Hp->Prop),Inv X pins σ H s->w8 v u->t v σ H Q ->
  wpAny (model X.prog X.w) X.A (assign target X.env u) (fun _ s'=>∃ σ' H',Inv X pins σ' H' s'/\Q σ' H') X.xe s
def PGs (X:Cx) (ts:List Expr) (t:TGs):Prop :=
 ∀ (pins:List (Addr × Obj)) (s:Shared) (σ:St) (H:Hp) (vs:List V) (us:List Value) (Q:St->Hp->Prop),Inv X pins σ H s->wd vs us->t vs σ H Q ->
  wpAny (model X.prog X.w) X.A (assignInOrder ((assignEach ts X.env).map (·.2)) us) (fun _ s'=>∃ σ' H',Inv X pins σ' H' s'/\Q σ' H') X.xe s
abbrev vdq:=V->V->V->Hp->(Hp->Prop)->Prop
section
variable {pos:Pos}
def wj (i:Nat):TG:=fun v σ H Q=>Q (σ.set i (some v)) H
theorem wt (hN:X.N.Nodup) (hi:X.N[i]?=some x) (hx:Loc X.env.scope x) (hf:X.fn x=true\/X.env.scope.names.lookup x=some .local:=by first | exact .inl rfl | exact .inr rfl | assumption):PG X (.Name x pos) (wj i):=by
 intro a s σ H v u Q I r h;exact wpAny_assign_Name (Ř I hN hi hx r (fun c b=>⟨_,H,b,h⟩) hf)
def ylx:TGs:=fun vs σ H Q=>vs=[]/\Q σ H
def jl (t:TG) (u:TGs):TGs:=fun vs σ H Q=>∃ v r,vs=v :: r/\t v σ H fun σ' H'=>u r σ' H' Q
theorem ù:PGs X [] ylx:=by
 intro a s σ H b c Q I r h;obtain ⟨e,h⟩:=h;subst e;cases r;exact assignInOrder_nil ⟨σ,H,I,h⟩
theorem xt {t:TG} {u:TGs} (h1:PG X e t) (h2:PGs X es u)
  (hs:(assignEach (e :: es) X.env).map (·.2)=assign e X.env :: (assignEach es X.env).map (·.2):=by rfl):PGs X (e :: es) (jl t u):=by
 intro a s σ H j k Q I r h;obtain ⟨v,i,g,h⟩:=h;subst g
 cases r with
 | cons r rr =>
  rw [hs];refine assignInOrder_cons (thn (h1 a s σ H _ _ _ I r h) fun _ b ⟨σ1,d,c,f⟩=>?_);exact h2 a b σ1 d _ _ Q c rr f
def ytw (K:W.Frag) (n:Nat) (t:TGs):TG:=fun v σ H Q=>∃ a xs,v=.ref a/\SqT K H a xs/\xs.length=n/\t xs σ H Q
theorem yaw {k:Nat} {t:TGs} {n:Nat} (hc:X.calm=true) (h:PGs X es t)
  (hn:(assignEach es X.env).length=n:=by rfl) (hst:(assignEach es X.env).findIdx? (·.1)=none:=by rfl):PG X (.Tuple es k pos) (ytw X.K n t):=by
 intro c s σ H v u Q I r d;obtain ⟨a,w,x,p,l,d⟩:=d;subst x;cases r;obtain ⟨i,f,q,y⟩:=I.tuple p;refine assign_Tuple_tuple (I.ok.hd hc) q (by simp [hn,<- l,f.length]) hst fun j g=>?_;have m:Inv X c σ H { s with heap:=j }:=I.kept (t':=s.toks) fun b o e=>g b o (bQ (bv e)) e;exact h c _ σ H w _ Q m (by simpa using f) d
def vev (to ti:TE) (t:vdq):TG:=fun v σ H Q=>to σ H fun o H1=>ti σ H1 fun i H2=>t o i v H2 fun H3=>Q σ H3
def vau (te:TE) (g:TG):TS:=fun D σ H=>te σ H fun x H1=>g x σ H1 D.nx
theorem yv {pos':Pos} (hN:X.N.Nodup) (hi:X.N[i]?=some x) (hx:Loc X.env.scope x) (he:PE X e te) (hs:swapsWith e (some (.Name x pos')) pos.line X.env=pure false:=by rfl) (hf:X.fn x=true\/X.env.scope.names.lookup x=some .local:=by first | exact .inl rfl | exact .inr rfl | assumption) :
  PS X (.Assign [.Name x pos'] e pos) (vau te (wj i)):=by
 refine .mk fun a s σ H D I h=>?_;refine wpAny_Assign_Name (thn (he a s σ H _ I h) fun v j h'=>?_) hs;obtain ⟨y,f,d,b,c⟩:=h';exact Ř d hN hi hx b (fun k g=>⟨_,f,g,c⟩) hf
end
section
variable {pos:Pos}
def yyt (c:TT) (tb:TS):TS:=fun D σ H=>∃ W:Nat->St->Hp->Prop,(∃ m,W m σ H)/\∀ m σ H,W m σ H ->
 c σ H fun b H1=>if b=true then ∃ N:St->Hp->Prop,(∀ σ' H',N σ' H'->∃ m',m' < m/\W m' σ' H')/\tb { D with nx:=N,ct:=N,bk:=D.nx } σ H1 else D.nx σ H1
theorem ji {c:Expr} {tc:TT} {tb:TS} (hp:PassesOwn (model X.prog X.w) X.A X.env X.xe) (hc:PT X c tc) (hb:PSs X body tb):PS X (.While c body [] pos) (yyt tc tb):=by
 refine .mk fun a s σ H D I h=>?_;obtain ⟨W,⟨y,z⟩,e⟩:=h;refine wpAny_While (codeAny_whileLoop (fun n u=>∃ σ' H',Inv X a σ' H' u/\W n σ' H') ?_ y ⟨σ,H,I,z⟩);rintro n B ⟨σ1,r,x,C⟩;refine wpAny_passesOwn hp (thn (hc a B σ1 r _ x (e n σ1 r C)) fun b E ⟨p,t,g⟩=>?_)
 cases b with
 | true =>
  obtain ⟨N,q,g⟩:=g;rw [if_pos rfl];refine wpAny_passesOwn hp (thn (hb a E σ1 p _ t g) fun f F i=>?_)
  cases f with
  | next =>
   obtain ⟨σ3,d,o,m⟩:=i;obtain ⟨k,j,l⟩:=q σ3 d m;exists k,j,σ3,d,o,l
  | cont =>
   obtain ⟨σ3,d,o,m⟩:=i;obtain ⟨k,j,l⟩:=q σ3 d m;exists k,j,σ3,d,o,l
  | brk=>exact i
  | ret v=>exact i
 | false =>
  rw [if_neg bE];exact wpAny_execs_nil ⟨σ1,p,t,g⟩
end
structure It where
 go:Nat->Hp->Prop
 yld:Nat->Hp->V->Hp->Prop
 stop:Nat->Hp->Prop
def ycl (X:Cx) (pins:List (Addr × Obj)) (H:Hp) (b:Addr):Prop :=
 H b=none/\b≠X.env.locals/\b∉X.fs/\(b∈X.ex\/X.s₀.heap.objs.size <= b)/\(∀ x c,X.env.cells.lookup x=some c->c≠b)/\∀ p∈X.pn++pins,p.1≠b
theorem Inv.fpOk {s:Shared} {b:Addr} (I:Inv X pins σ H s) (hb:s.heap.objs.size <= b) (hn:H' b=none):ycl X pins H' b:=by
 exists hn,Nat.ne_of_gt (bT I.lt hb),I.nofs hb,.inr (bN I.sz hb),fun x c e z=>?_,fun p a z=>?_
 .obtain ⟨v,q⟩:=I.cell x c e;exact absurd (bT q.lt (by rw [z]; exact hb)) (cI _)
 .exact absurd (bT (bv (I.pin p a).1) (by rw [z]; exact hb)) (cI _)
structure yi6 (P:Program) (w:World) (K:W.Frag) (tg:Expr) (J:It) (fp:List Addr) (it:Addr) (tn:Nat->Heap->Prop):Prop where
 mem:it∈fp
 obj:∀ i h,tn i h->∀ b∈fp,∃ o,h.get? b=some o/\∀ v,o.data≠.cell v
 keep:∀ i h h',tn i h->(∀ b∈fp,∀ o,h.get? b=some o->h'.get? b=some o)->tn i h'
 item:∀ (X:Cx),X.prog=P->X.w=w->X.K=K->X.calm=true->∀ (i:Nat) (pins:List (Addr × Obj)) (s:Shared) (σ:St) (H:Hp) (E:Value->Shared->Prop),Inv X pins σ H s->(∀ b∈fp,ycl X pins H b)->tn i s.heap->J.go i H ->
  wpAny (model P w) X.A (pyNext (.ref it)) (fun r s1=>∃ u,r=some u /\
   wpAny (model P w) X.A (letOwnedTupleGo tg (.ref it) u) (fun _ s2=>∃ x H',Inv X pins σ H' s2/\w8 x u/\J.yld i H x H'/\tn (i+1) s2.heap/\∀ b∈fp,H' b=none) E s1) E s
 done:∀ (X:Cx),X.prog=P->X.w=w->X.K=K->X.calm=true->∀ (i:Nat) (pins:List (Addr × Obj)) (s:Shared) (σ:St) (H:Hp) (E:Value->Shared->Prop),Inv X pins σ H s->(∀ b∈fp,ycl X pins H b)->tn i s.heap->J.stop i H ->
  wpAny (model P w) X.A (pyNext (.ref it)) (fun r s1=>r=none/\Inv X pins σ H s1) E s
 self:∀ (A:Around) (i:Nat) (s:Shared) (Q:Value->Shared->Prop) (E:Value->Shared->Prop),tn i s.heap->Q (.ref it) s->wpAny (model P w) A (pyIter (.ref it)) Q E s
abbrev TI:=St->Hp->(It->Hp->Prop)->Prop
def PIE (X:Cx) (pins:List (Addr × Obj)) (σ:St) (tg:Expr) (R:It->Hp->Prop) (itv:Value) (s2:Shared):Prop :=
 ∃ (it:Addr) (fp:List Addr) (tn:Nat->Heap->Prop) (J:It) (H':Hp),itv=.ref it/\Inv X pins σ H' s2/\yi6 X.prog X.w X.K tg J fp it tn/\tn 0 s2.heap/\(∀ b∈fp,ycl X pins H' b)/\R J H'
def PI (X:Cx) (tg iter:Expr) (wi:TI):Prop :=
 ∀ (pins:List (Addr × Obj)) (s:Shared) (σ:St) (H:Hp) (R:It->Hp->Prop),Inv X pins σ H s->wi σ H R ->
  wpAny (model X.prog X.w) X.A (eval iter X.env) (fun v s1=>wpAny (model X.prog X.w) X.A (pyIter v) (PIE X pins σ tg R) X.xe s1) X.xe s
theorem yi3 {A:Around} {s:Shared} {it:Addr} {o:Obj} {n:String} {vs:Array Value} {Q:Unit->Shared->Prop} (ho:s.heap.get? it=some o) (hc:o.cls=.type n) (hd:o.data=.fields vs)
  (hn:["enumerate","zip","dict_itemiterator","dict_reverseitemiterator","odict_iterator","itertools.zip_longest","itertools.pairwise"].contains n=false) (hQ:Q () s):wpAny M A (letOwnedTupleGo tg (.ref it) u) Q E s:=by
 unfold letOwnedTupleGo
 cases tg <;> first
  | exact bw hQ
  | (cases u <;> first
    | exact bw hQ
    | (refine bi (wpAny_load ho ?_)
       rw [hc,hd];show wpAny M A (if (["enumerate","zip","dict_itemiterator","dict_reverseitemiterator","odict_iterator","itertools.zip_longest","itertools.pairwise"].contains n && vs[0]? == some (rawInt _))=true then _ else _) Q E s;rw [if_neg (by intro h; rw [hn,Bool.false_and] at h; cases h)];exact bw hQ))
def Itl (K:W.Frag) (a:Addr):It :=
 ⟨fun i H=>∃ xs x,SqL K H a xs/\xs[i]?=some x,fun i H x H'=>H'=H/\∀ xs,SqL K H a xs->xs[i]?=some x,fun i H=>∃ xs,SqL K H a xs/\xs.length <= i⟩
def Itt (K:W.Frag) (a:Addr):It :=
 ⟨fun i H=>∃ xs x,SqT K H a xs/\xs[i]?=some x,fun i H x H'=>H'=H/\∀ xs,SqT K H a xs->xs[i]?=some x,fun i H=>∃ xs,SqT K H a xs/\xs.length <= i⟩
def Itr (lo:Int) (n:Nat):It:=⟨fun i _=>i < n,fun i H x H'=>H'=H/\x=.int (lo+i),fun i _=>n <= i⟩
theorem ygl {w:World} {K:W.Frag} (a it:Addr):yi6 P w K tg (Itl K a) [it] it (fun i h=>h.IsListIter it a i) where
 mem:=by simp
 obj:=fun i h f b j=>by
  have e:b=it:=by simpa using j
  subst e;obtain ⟨o,e,c,d⟩:=f;exists o,e,fun v z=>by rw [d] at z; cases z
 keep:=fun i h m f k=>f.at fun o e=>k it (by simp) o e
 item:=by
  intro X r F M N i g s σ H E I q f B;subst r F M;obtain ⟨Q,x,n,J⟩:=B;obtain ⟨y,C,p,Z⟩:=I.list n;obtain ⟨u,hu,Y⟩:=C.get J;obtain ⟨G,L,T,D,A,t⟩:=q it (by simp);refine wpAny_pyNext_list_item f p.isList (x:=u) (by simpa using hu) fun m l R=>?_;have O:Inv X g σ H { s with heap:=m }:=I.turned (t':=s.toks) (fun b o j e=>(R.2 b j).trans e) G L D A t;obtain ⟨o,e,c,d⟩:=id l;exists u,rfl,yi3 (s:={ s with heap:=m }) e c d (by decide) ⟨x,H,O,Y,⟨rfl,fun ys S=>by rw [I.list_inj S n]; exact J⟩,l,fun b j=>(q b j).1⟩
 done:=by
  intro X r F M N i g s σ H E I q f B;subst r F M;obtain ⟨Q,n,J⟩:=B;obtain ⟨y,C,p,Z⟩:=I.list n;obtain ⟨G,L,T,D,A,t⟩:=q it (by simp);have hl:=C.length;exact wpAny_pyNext_list_end (I.ok.hd N) f p.isList (by simp; omega) fun m U=>⟨rfl,I.turned (t':=s.toks) (fun b o j e=>U b o j e) G L D A t⟩
 self:=fun _ _ _ _ _ f h=>wpAny_pyIter_listiter f h
theorem ye3 {w:World} {K:W.Frag} (a it:Addr):yi6 P w K tg (Itt K a) [it] it (fun i h=>h.IsTupleIter it a i) where
 mem:=by simp
 obj:=fun i h f b l=>by
  have e:b=it:=by simpa using l
  subst e;obtain ⟨o,e,c,d⟩:=f;exists o,e,fun v z=>by rw [d] at z; cases z
 keep:=fun i h n f k=>f.at fun o e=>k it (by simp) o e
 item:=by
  intro X t F M N i g s σ H E I r f B;subst t F M;obtain ⟨Q,x,q,J⟩:=B;obtain ⟨j,C,p,Z⟩:=I.tuple q;obtain ⟨u,hu,Y⟩:=C.get J;obtain ⟨G,L,T,D,A,y⟩:=r it (by simp);refine wpAny_pyNext_tuple_item f (show s.heap.IsTuple a j.toArray from p) (x:=u) (by simpa using hu) fun n m R=>?_;have O:Inv X g σ H { s with heap:=n }:=I.turned (t':=s.toks) (fun b o l e=>(R.2 b l).trans e) G L D A y;obtain ⟨o,e,c,d⟩:=id m;exists u,rfl,yi3 (s:={ s with heap:=n }) e c d (by decide) ⟨x,H,O,Y,⟨rfl,fun ys S=>by rw [I.tuple_inj S q]; exact J⟩,m,fun b l=>(r b l).1⟩
 done:=by
  intro X t F M N i g s σ H E I r f B;subst t F M;obtain ⟨Q,q,J⟩:=B;obtain ⟨j,C,p,Z⟩:=I.tuple q;obtain ⟨G,L,T,D,A,y⟩:=r it (by simp);have hl:=C.length;exact wpAny_pyNext_tuple_end (I.ok.hd N) f (show s.heap.IsTuple a j.toArray from p) (by simp; omega) fun n U=>⟨rfl,I.turned (t':=s.toks) (fun b o l e=>U b o l e) G L D A y⟩
 self:=fun _ _ _ _ _ f h=>wpAny_pyIter_tupleiter f h
theorem yeh {w:World} {K:W.Frag} (it:Addr) (lo:Int) (n:Nat):yi6 P w K tg (Itr lo n) [it] it (fun i h=>IsRangeIter h it (lo+(i:Nat) * 1) ((n:Int) - (i:Nat)) 1) where
 mem:=by simp
 obj:=fun i h a b d=>by
  have e:b=it:=by simpa using d
  subst e
  exact ⟨_,a,fun v z=>by
   have G:Data.fields _=Data.cell v:=z;cases G⟩
 keep:=fun i h g a k=>k it (by simp) _ a
 item:=by
  intro X l x B m i c s σ H E I j a r;subst l x B;obtain ⟨y,A,L,u,q,p⟩:=j it (by simp);have W:=Walks.range (prog:=X.prog) (w:=X.w) (I.ok.hd m) it lo 1 n;refine W.item i s _ _ r a fun v g C D f J=>?_;obtain ⟨t,rfl⟩:=D;have F:Inv X c σ H { s with heap:=g,toks:=C }:=I.turned (fun b o d e=>J b o (by simpa using d) e) y A u q p;exists _,rfl,yi3 (s:={ s with heap:=g,toks:=C }) (n:="range_iterator") f rfl rfl (by decide) ⟨.int (lo+i),H,F,⟨t,?_⟩,⟨rfl,rfl⟩,f,fun b d=>(j b d).1⟩;rw [Int.mul_one]
 done:=by
  intro X l x B m i c s σ H E I j a r;subst l x B;obtain ⟨y,A,L,u,q,p⟩:=j it (by simp);exact wpAny_pyNext_range_end (I.ok.hd m) a (by have:n <= i:=r; omega) fun g M=>⟨rfl,I.turned (t':=s.toks) (fun b o d e=>M b o d e) y A u q p⟩
 self:=fun _ _ _ _ _ a h=>wpAny_pyIter_rangeiter a h
def yz5 (K:W.Frag) (tl:TE):TI:=fun σ H R=>tl σ H fun x H1=>∃ a,x=.ref a/\(∃ xs,SqL K H1 a xs)/\R (Itl K a) H1
def vd1 (K:W.Frag) (tl:TE):TI:=fun σ H R=>tl σ H fun x H1=>∃ a,x=.ref a/\(∃ xs,SqT K H1 a xs)/\R (Itt K a) H1
theorem we {l:Expr} {tl:TE} (hl:PE X l tl):PI X tg l (yz5 X.K tl):=by
 intro c s σ H R I h;refine thn (hl c s σ H _ I h) fun v d h'=>?_;obtain ⟨x,m,f,g,n⟩:=h';obtain ⟨a,e,⟨u,j⟩,q⟩:=n;subst e;cases g;obtain ⟨i,r,p,t⟩:=f.list j;refine wpAny_pyIter_list p.isList ?_;exists d.heap.objs.size,[d.heap.objs.size],_,_,m,rfl,f.kept (t':=d.toks) fun b o e=>bn _ e,ygl a _,⟨_,bC _ rfl,rfl,rfl⟩,fun b k=>?_,q;have e:b=d.heap.objs.size:=by simpa using k
 subst e;exact f.fpOk (bp _) (f.hok.fresh (bp _))
theorem ydr {l:Expr} {tl:TE} (hl:PE X l tl):PI X tg l (vd1 X.K tl):=by
 intro d s σ H R I h;refine thn (hl d s σ H _ I h) fun v c h'=>?_;obtain ⟨x,m,f,i,n⟩:=h';obtain ⟨a,e,⟨u,j⟩,q⟩:=n;subst e;cases i;obtain ⟨g,r,p,t⟩:=f.tuple j;refine wpAny_pyIter_tuple (show c.heap.IsTuple a g.toArray from p) ?_;exists c.heap.objs.size,[c.heap.objs.size],_,_,m,rfl,f.kept (t':=c.toks) fun b o e=>bn _ e,ye3 a _,⟨_,bC _ rfl,rfl,rfl⟩,fun b k=>?_,q;have e:b=c.heap.objs.size:=by simpa using k
 subst e;exact f.fpOk (bp _) (f.hok.fresh (bp _))
theorem ykw {s:Shared} {R:It->Hp->Prop} {lo hi:Int} {t u v:Tok} {tk:Nat} (I:Inv X pins σ H s) (h1:-(2 ^ 62) <= lo) (h2:lo < 2 ^ 62) (h3:-(2 ^ 62) <= hi) (h4:hi < 2 ^ 62)
  (q:R (Itr lo (hi - lo).toNat) H):wpAny (model X.prog X.w) X.A (pyIter (.ref s.heap.objs.size)) (PIE X pins σ tg R) E { s with heap:=s.heap.push { cls:=.type "range",data:=.fields #[.int lo t,.int hi u,.int 1 v] },toks:=tk }:=by
 refine wpAny_pyIter_range (IsRange.new ..) (small_one h1 h2 h3 h4) ?_;have a:Inv X pins σ H { s with heap:=s.heap.push { cls:=.type "range",data:=.fields #[.int lo t,.int hi u,.int 1 v] },toks:=tk }:=I.kept fun b o e=>bn _ e
 refine ⟨(s.heap.push { cls:=.type "range",data:=.fields #[.int lo t,.int hi u,.int 1 v] }).objs.size,[(s.heap.push { cls:=.type "range",data:=.fields #[.int lo t,.int hi u,.int 1 v] }).objs.size],_,_,H,rfl,
  a.kept (t':=tk) fun b o e=>bn _ e,yeh _ lo (hi - lo).toNat,?_,fun b d=>?_,q⟩
 .have f:lo+((0:Nat):Int) * 1=lo:=by simp
  have c:(((hi - lo).toNat:Nat):Int) - ((0:Nat):Int)=Builtin.Range.rangeSize lo hi 1:=by rw [rangeSize_one]; split <;> omega
  show IsRangeIter _ _ (lo+((0:Nat):Int) * 1) ((((hi - lo).toNat:Nat):Int) - ((0:Nat):Int)) 1;rw [f,c];exact bC _ rfl
 .have e:b=(s.heap.push { cls:=.type "range",data:=.fields #[.int lo t,.int hi u,.int 1 v] }).objs.size:=by simpa using d
  subst e;exact a.fpOk (bp _) (a.hok.fresh (bp _))
def yzs (ta:TA):TI:=fun σ H R=>ta σ H fun vs H1=>∃ j:Int,vs=[.int j]/\-(2 ^ 62) <= j/\j < 2 ^ 62/\R (Itr 0 j.toNat) H1
def vch (ta:TA):TI:=fun σ H R=>ta σ H fun vs H1=>∃ i j:Int,vs=[.int i,.int j]/\(-(2 ^ 62) <= i/\i < 2 ^ 62/\-(2 ^ 62) <= j/\j < 2 ^ 62)/\R (Itr i (j - i).toNat) H1
theorem za {a:Expr} {ta:TA} {pos:Pos} (hg:Gl X "range") (hm:X.mg "range"=none) (ha:PA X [a] ta) (hs:starEach [a] X.env=[(false,eval a X.env)]:=by rfl):PI X tg (.Call (.Name "range" p) [a] [] pos) (yzs ta):=by
 intro b s σ H R I h;refine Call_ (ĥ I hg hm boot_range (PyProof.Rows.callWith_type1 (thn (ha pos b s σ H _ I h) fun l i h'=>?_) hs rfl));obtain ⟨k,m,g,d,c⟩:=h';obtain ⟨j,e,c,f,q⟩:=c;subst e
 cases d with
 | cons r rr =>
  cases rr;obtain ⟨t,rfl⟩:=r;exact call_range_1 (ykw g (by omega) (by omega) c f (by simpa using q))
def veb (wi:TI) (g:TG) (tb:TS):TS:=fun D σ H=>wi σ H fun J H1=>∃ W:Nat->Nat->St->Hp->Prop,(∃ m,W 0 m σ H1)/\∀ i m σ H,W i m σ H ->
 (J.stop i H/\D.nx σ H)\/(J.go i H/\∃ N:St->Hp->Prop,(∀ σ' H',N σ' H'->∃ m',m' < m/\W (i+1) m' σ' H')/\∀ x H',J.yld i H x H'->g x σ H' fun σ2 H2=>tb { D with nx:=N,ct:=N,bk:=D.nx } σ2 H2)
def ydn (fp:List Addr) (h:Heap):List (Addr × Obj):=fp.filterMap fun b=>(h.get? b).map fun o=>(b,o)
theorem xi {h:Heap} {b:Addr} {o:Obj} (hb:b∈fp) (e:h.get? b=some o):(b,o)∈ydn fp h:=List.mem_filterMap.mpr ⟨b,hb,by rw [e]; rfl⟩
theorem yfq {h:Heap} {p:Addr × Obj} (hp:p∈ydn fp h):p.1∈fp/\h.get? p.1=some p.2:=by
 obtain ⟨b,a,e⟩:=List.mem_filterMap.mp hp
 cases q:h.get? b with
 | none=>rw [q] at e; cases e
 | some o =>
  rw [q] at e;have c:(b,o)=p:=bF e;subst c;exists a,q
theorem Inv.pinned {s:Shared} (I:Inv X pins σ H s) (hf:∀ b∈fp,ycl X pins H b) (ho:∀ b∈fp,∃ o,s.heap.get? b=some o/\∀ v,o.data≠.cell v):Inv X (pins++ydn fp s.heap) σ H s :=
 I.pins_of fun p i=>(bP.mp i).elim (fun z=>I.pin p (bH _ z)) fun z=>by
  obtain ⟨a,e⟩:=yfq z;obtain ⟨f,h,g,_⟩:=hf p.1 a;obtain ⟨o,c,d⟩:=ho p.1 a;rw [e] at c; cases c;exists e,f,h,g,d
theorem Inv.unpinned {pl:List (Addr × Obj)} {s:Shared} (I:Inv X (pins++pl) σ H s):Inv X pins σ H s:=I.pins_of fun p a=>I.pin p (bH _ (List.mem_append_left _ a))
theorem zr {iter:Expr} {wi:TI} {g:TG} {tb:TS} {pos:Pos} (hp:PassesOwn (model X.prog X.w) X.A X.env X.xe) (hc:X.calm=true) (hi:PI X tg iter wi) (hg:PG X tg g) (hb:PSs X body tb)
  (hs:∀ x,foldedSetIterable iter X.env x=pure x:=by intro _; rfl):PS X (.For tg iter body [] pos) (veb wi g tb):=by
 refine .mk fun a s σ H D I h=>?_;refine wpAny_For (thn (hi a s σ H _ I h) fun v s1 h1=>thn h1 fun a0 s2 h2=>?_) hs;obtain ⟨it,E,R,J,H2,e,I2,T,O,Z,W,⟨m0,w0⟩,F⟩:=h2;subst e;have l:∀ {H':Hp},(∀ b∈E,H' b=none)->∀ b∈E,ycl X a H' b:=fun hn b hb=>⟨hn b hb,(Z b hb).2⟩;refine codeAny_forLoop_any (fun n Q=>∃ i σ' H',Inv X a σ' H' Q/\R i Q.heap/\(∀ b∈E,H' b=none)/\W i n σ' H') ?_ m0 ⟨0,σ,H2,I2,O,fun b hb=>(Z b hb).1,w0⟩;rintro n s3 ⟨i,σ3,G,U,z,t,w3⟩;rcases F i n σ3 G w3 with ⟨C,qn⟩ | ⟨go,N,hN,y⟩
 .refine wpAny_passesOwn hp (thn (T.done X rfl rfl rfl hc i a s3 σ3 G X.xe U (l t) z C) fun r s4 ⟨L,I4⟩=>?_);subst L;exact wpAny_execs_nil ⟨σ3,G,I4,qn⟩
 .refine wpAny_passesOwn hp (thn (T.item X rfl rfl rfl hc i a s3 σ3 G X.xe U (l t) z go) fun r s4 ⟨u,L,h4⟩=>?_);subst L;refine wpAny_passesOwn hp (thn h4 fun _ Y h'=>?_);obtain ⟨x,S,I5,r5,y5,q,K⟩:=h';have P:=I5.pinned (l K) (T.obj _ _ q);refine wpAny_passesOwn hp (thn (hg _ Y σ3 S x u _ P r5 (y x S y5)) fun _ s6 ⟨σ6,H6,I6,q6⟩=>?_);refine wpAny_passesOwn hp (thn (hb _ s6 σ6 H6 _ I6 q6) fun f M p=>?_)
  have k:∀ {σ7:St} {j:Hp},Inv X (a++ydn E Y.heap) σ7 j M->N σ7 j->∃ m,m < n/\∃ i σ' H',Inv X a σ' H' M/\R i M.heap/\(∀ b∈E,H' b=none)/\W i m σ' H':=fun {σ7 j} c B=>by
   obtain ⟨m',hm,w7⟩:=hN σ7 j B;exists m',hm,i+1,σ7,j,c.unpinned,T.keep _ _ _ q fun b hb o e=>(c.pin (b,o) (bH _ (bH _ (xi hb e)))).1,fun b hb=>?_,w7;obtain ⟨o,e,d⟩:=T.obj _ _ q b hb;exact (c.pin (b,o) (bH _ (bH _ (xi hb e)))).2.1
  cases f with
  | next=>obtain ⟨σ7,j,c,B⟩:=p; exact k c B
  | cont=>obtain ⟨σ7,j,c,B⟩:=p; exact k c B
  | brk=>obtain ⟨σ7,j,c,p⟩:=p; exact ⟨σ7,j,c.unpinned,p⟩
  | ret v=>obtain ⟨x7,σ7,j,c,r7,p⟩:=p; exists x7,σ7,j,c.unpinned,r7,p
theorem ug {K:W.Frag} {g:TG} {tb:TS} {D:Ĭ} (Pv:Nat->St->Hp->Prop) (h0:Pv 0 σ H) (hl:∀ i σ H,i <= xs.length->Pv i σ H->SqL K H a xs)
  (hs:∀ i x σ H,xs[i]?=some x->Pv i σ H->g x σ H fun σ2 H2=>tb { D with nx:=Pv (i+1),ct:=Pv (i+1),bk:=D.nx } σ2 H2) (hd:∀ σ H,Pv xs.length σ H->D.nx σ H) :
  ∃ W:Nat->Nat->St->Hp->Prop,(∃ m,W 0 m σ H)/\∀ i m σ H,W i m σ H ->
   ((Itl K a).stop i H/\D.nx σ H)\/((Itl K a).go i H/\∃ N:St->Hp->Prop,(∀ σ' H',N σ' H'->∃ m',m' < m/\W (i+1) m' σ' H')/\∀ x H',(Itl K a).yld i H x H'->g x σ H' fun σ2 H2=>tb { D with nx:=N,ct:=N,bk:=D.nx } σ2 H2):=by
 exists fun i m σ H=>m=xs.length - i/\i <= xs.length/\Pv i σ H,⟨xs.length,by simp,bL _,h0⟩,?_;rintro i m σ H ⟨rfl,b,p⟩;have q:=hl i σ H b p;by_cases hlt:i < xs.length
 .refine .inr ⟨⟨xs,xs[i],q,by simp [hlt]⟩,Pv (i+1),fun σ' H' c=>⟨xs.length - (i+1),by omega,rfl,hlt,c⟩,fun x H' y=>?_⟩;obtain ⟨e,y⟩:=y;subst e;exact hs i x σ _ (y xs q) p
 .have e:i=xs.length:=by omega
  subst e;exact .inl ⟨⟨xs,q,bp _⟩,hd σ H p⟩
theorem ζ {lo:Int} {n:Nat} {g:TG} {tb:TS} {D:Ĭ} (Pv:Nat->St->Hp->Prop) (h0:Pv 0 σ H)
  (hs:∀ i σ H,i < n->Pv i σ H->g (.int (lo+i)) σ H fun σ2 H2=>tb { D with nx:=Pv (i+1),ct:=Pv (i+1),bk:=D.nx } σ2 H2) (hd:∀ σ H,Pv n σ H->D.nx σ H) :
  ∃ W:Nat->Nat->St->Hp->Prop,(∃ m,W 0 m σ H)/\∀ i m σ H,W i m σ H ->
   ((Itr lo n).stop i H/\D.nx σ H)\/((Itr lo n).go i H/\∃ N:St->Hp->Prop,(∀ σ' H',N σ' H'->∃ m',m' < m/\W (i+1) m' σ' H')/\∀ x H',(Itr lo n).yld i H x H'->g x σ H' fun σ2 H2=>tb { D with nx:=N,ct:=N,bk:=D.nx } σ2 H2):=by
 exists fun i m σ H=>m=n - i/\i <= n/\Pv i σ H,⟨n,by simp,bL _,h0⟩,?_;rintro i m σ H ⟨rfl,b,p⟩;by_cases hlt:i < n
 .refine .inr ⟨hlt,Pv (i+1),fun σ' H' a=>⟨n - (i+1),by omega,rfl,hlt,a⟩,fun x H' y=>?_⟩;obtain ⟨e,y⟩:=y;subst e y;exact hs i σ _ hlt p
 .have e:i=n:=by omega
  subst e;exact .inl ⟨bp _,hd σ H p⟩
abbrev R2:=V->V->Hp->VK->Prop
variable {r':R2}
def OpR (X:Cx) (f:Value->Value->Sem Value) (r:R2):Prop :=
 ∀ (pins:List (Addr × Obj)) (s:Shared) (σ:St) (H:Hp) (x y:V) (v u:Value) (Q:VK),Inv X pins σ H s->w8 x v->w8 y u->r x y H Q ->
  wpAny (model X.prog X.w) X.A (f v u) (EP X pins σ Q) X.xe s
def UnR (X:Cx) (f:Value->Sem Value) (r:V->Hp->VK->Prop):Prop :=
 ∀ (pins:List (Addr × Obj)) (s:Shared) (σ:St) (H:Hp) (x:V) (v:Value) (Q:VK),Inv X pins σ H s->w8 x v->r x H Q ->
  wpAny (model X.prog X.w) X.A (f v) (EP X pins σ Q) X.xe s
def uu (X:Cx) (f:Value) (r:List V->Hp->VK->Prop):Prop :=
 ∀ (pins:List (Addr × Obj)) (s:Shared) (σ:St) (H:Hp) (xs:List V) (us:List Value) (Q:VK),Inv X pins σ H s->wd xs us->r xs H Q ->
  wpAny (model X.prog X.w) X.A (call f us) (EP X pins σ Q) X.xe s
def tOp (r:R2) (ta tb:TE):TE:=fun σ H Q=>ta σ H fun x H1=>tb σ H1 fun y H2=>r x y H2 Q
def tUn (r:V->Hp->VK->Prop) (ta:TE):TE:=fun σ H Q=>ta σ H fun x H1=>r x H1 Q
def rI (C:Int->Int->Prop) (g:Int->Int->V):R2:=fun x y H Q=>∃ i j,x=.int i/\y=.int j/\C i j/\Q (g i j) H
def rI0 (g:Int->Int->V):R2:=fun x y H Q=>∃ i j,x=.int i/\y=.int j/\Q (g i j) H
def rU (g:Int->V):V->Hp->VK->Prop:=fun x H Q=>∃ i,x=.int i/\Q (g i) H
section
variable {a b c:Expr} {tb tc:TE} {pos:Pos}
theorem vaq (ha:PE X a ta) (hb:PE X b tb) {s:Shared} {R:V->V->Hp->Prop} (I:Inv X pins σ H s)
  (h:ta σ H fun x H1=>tb σ H1 fun y H2=>R x y H2) {Q:Value->Shared->Prop} {f:Value->Value->Sem Value}
  (hf:∀ v u s2 x y H2,Inv X pins σ H2 s2->w8 x v->w8 y u->R x y H2->wpAny (model X.prog X.w) X.A (f v u) Q X.xe s2) :
  wpAny (model X.prog X.w) X.A (eval a X.env) (fun v s₁=>wpAny (model X.prog X.w) X.A (eval b X.env) (fun u s₂=>wpAny (model X.prog X.w) X.A (f v u) Q X.xe s₂) X.xe s₁) X.xe s:=by
 refine thn (ha pins s σ H _ I h) fun v d h'=>?_;obtain ⟨x,H1,j,c,i⟩:=h';refine thn (hb pins d σ H1 _ j i) fun u s2 h'=>?_;obtain ⟨y,H2,k,e,g⟩:=h';exact hf v u s2 x y H2 k c e g
theorem yn {op:Operator} {r:R2} (ho:OpR X (binaryOp op) r) (ha:PE X a ta) (hb:PE X b tb):PE X (.BinOp a op b pos) (tOp r ta tb):=by
 refine .mk fun c s σ H Q I h=>?_;exact wpAny_BinOp (vaq ha hb I h fun v u e x y f i d g q=>ho c e σ f x y v u Q i d g q)
theorem vba {op:UnaryOp} {r:V->Hp->VK->Prop} (ho:UnR X (unaryOp op) r) (ha:PE X a ta):PE X (.UnaryOp op a pos) (tUn r ta):=by
 refine .mk fun b s σ H Q I h=>?_;exact UnaryOp_ (thn (ha b s σ H _ I h) fun v d ⟨x,f,e,c,g⟩=>ho b d σ f x v Q e c g)
theorem opI {f:Value->Value->Sem Value} {C:Int->Int->Prop} {g:Int->Int->Int}
  (rule:∀ (i j:Int) (t u:Tok) (s:Shared) (Q:Value->Shared->Prop) (E:Value->Shared->Prop),C i j->Q (.int (g i j) s.toks) { s with toks:=s.toks+1 }->wpAny (model X.prog X.w) X.A (f (.int i t) (.int j u)) Q E s) :
  OpR X f (rI C fun i j=>.int (g i j)):=by
 intro a s σ H x y v u Q I c e h;obtain ⟨i,j,rfl,rfl,b,q⟩:=h;obtain ⟨t,rfl⟩:=c;obtain ⟨d,rfl⟩:=e;exact rule i j t d s _ _ b ⟨.int (g i j),H,I.tok _,⟨_,rfl⟩,q⟩
theorem vd2 {f:Value->Value->Sem Value} {g:Int->Int->Int}
  (rule:∀ (i j:Int) (t u:Tok) (s:Shared) (Q:Value->Shared->Prop) (E:Value->Shared->Prop),Q (.int (g i j) s.toks) { s with toks:=s.toks+1 }->wpAny (model X.prog X.w) X.A (f (.int i t) (.int j u)) Q E s) :
  OpR X f (rI0 fun i j=>.int (g i j)):=by
 intro a s σ H x y v u Q I c b h;obtain ⟨i,j,rfl,rfl,q⟩:=h;obtain ⟨t,rfl⟩:=c;obtain ⟨d,rfl⟩:=b;exact rule i j t d s _ _ ⟨.int (g i j),H,I.tok _,⟨_,rfl⟩,q⟩
theorem vav {f:Value->Value->Sem Value} {g:Int->Int->Bool}
  (rule:∀ (i j:Int) (t u:Tok) (s:Shared) (Q:Value->Shared->Prop) (E:Value->Shared->Prop),Q (.bool (g i j)) s->wpAny (model X.prog X.w) X.A (f (.int i t) (.int j u)) Q E s) :
  OpR X f (rI0 fun i j=>.bl (g i j)):=by
 intro a s σ H x y v u Q I c b h;obtain ⟨i,j,rfl,rfl,q⟩:=h;obtain ⟨t,rfl⟩:=c;obtain ⟨d,rfl⟩:=b;exact rule i j t d s _ _ ⟨.bl (g i j),H,I,rfl,q⟩
def vaz (i j:Int):Prop:=0 <= j/\j <= 1000000/\i.natAbs < 2 ^ 64
def vc0 (i j:Int):Prop:=(-(2 ^ 64) < i/\i < 2 ^ 64)\/(-(2 ^ 64) < j/\j < 2 ^ 64)
theorem vc0.ok {i j:Int} (h:vc0 i j):IntMulOk i j:=by
 rcases h with ⟨b,a⟩ | ⟨b,a⟩
 .exact .of_left (intBits_le_64 b a)
 .exact .of_right (intBits_le_64 b a)
theorem yen (k:Nat):(0:Int) <= 2 ^ k:=by
 rw [two_pow_cast];exact Int.natCast_nonneg _
theorem vn:OpR X (binaryOp .Add) (rI0 fun i j=>.int (i+j)):=vd2 fun _ _ _ _ _ _ _ q=>add_int q
theorem zd:OpR X (binaryOp .Sub) (rI0 fun i j=>.int (i - j)):=vd2 fun _ _ _ _ _ _ _ q=>sub_int q
theorem w4:OpR X (binaryOp .Mult) (rI vc0 fun i j=>.int (i * j)):=opI fun _ _ _ _ _ _ _ a q=>mul_int q a.ok
theorem xb:OpR X (binaryOp .Mod) (rI (fun _ j=>0 < j) fun i j=>.int (i % j)):=opI fun i j _ _ _ _ _ a q=>by
 have b:(0:Int) < j:=a;exact mod_int' (by omega) (by rw [Int.fmod_eq_emod_of_nonneg i (by omega)]; exact q)
theorem yy9:OpR X (binaryOp .RShift) (rI (fun _ j=>0 <= j) fun i j=>.int (i / 2 ^ j.toNat)):=opI fun i j _ _ _ _ _ a q =>
 rshift_int a (by rw [Int.fdiv_eq_ediv_of_nonneg i (yen _)]; exact q)
theorem unI {f:Value->Sem Value} {g:Int->Int}
  (rule:∀ (i:Int) (t:Tok) (s:Shared) (Q:Value->Shared->Prop) (E:Value->Shared->Prop),Q (.int (g i) s.toks) { s with toks:=s.toks+1 }->wpAny (model X.prog X.w) X.A (f (.int i t)) Q E s) :
  UnR X f (rU fun i=>.int (g i)):=by
 intro a s σ H x v Q I b h;obtain ⟨i,rfl,q⟩:=h;obtain ⟨t,rfl⟩:=b;exact rule i t s _ _ ⟨.int (g i),H,I.tok _,⟨_,rfl⟩,q⟩
theorem yzq:UnR X (unaryOp .USub) (rU fun i=>.int (-i)):=unI fun _ _ _ _ _ q=>neg_int q
end
def vde:V->V->Bool
 | .non,.non=>true | .non,.int _=>true | .int _,.non=>true | .non,.bl _=>true | .bl _,.non=>true | .non,.str _=>true | .str _,.non=>true
 | .int _,.int _=>true | .bl _,.bl _=>true | .str _,.str _=>true | .byt _,.byt _=>true
 | .int _,.str _=>true | .str _,.int _=>true | .bl _,.str _=>true | .str _,.bl _=>true
 | _,_=>false
def rEq:R2:=fun x y H Q=>vde x y=true/\Q (.bl (decide (x=y))) H
def rNe:R2:=fun x y H Q=>vde x y=true/\Q (.bl (!decide (x=y))) H
theorem yg5 {i j:Int}:decide (V.int i=V.int j)=(i == j):=by
 rw [Bool.eq_iff_iff];simp
theorem yny {i j:Bool}:decide (V.bl i=V.bl j)=(i == j):=by
 rw [Bool.eq_iff_iff];simp
theorem yg7 {i j:Str}:decide (V.str i=V.str j)=(i == j):=by
 rw [Bool.eq_iff_iff];simp
theorem yhs {i j:Array UInt8}:decide (V.byt i=V.byt j)=(i.toList == j.toList):=by
 rw [Bool.eq_iff_iff];cases i;cases j;simp
section
variable {a b c:Expr} {tb tc:TE} {pos:Pos}
theorem wa {s:Shared} {Q:VK} {k k':Bool} (I:Inv X pins σ H s) (q:Q (.bl k) H) (e:k=k'):EP X pins σ Q (.bool k') s:=by
 subst e;exists .bl k,H,I,rfl,q
theorem zy:OpR X (compareOp .Eq) rEq:=by
 intro e s σ H x y v u Q I d a h;obtain ⟨c,q⟩:=h
 cases x with
 | non =>
  cases d
  cases y with
  | non=>cases a; exact PySem.EqNone.eq_none_none (wa I q (by simp))
  | bl j=>cases a; exact PySem.EqNone.eq_none_bool (wa I q (by simp))
  | int j=>obtain ⟨b,rfl⟩:=a; exact PySem.EqNone.eq_none_int (wa I q (by simp))
  | str j=>obtain ⟨b,rfl⟩:=a; exact PySem.EqNone.eq_none_str (wa I q (by simp))
  | _=>exact absurd (show false=true from c) bE
 | bl i =>
  cases d
  cases y with
  | non=>cases a; exact PySem.EqNone.eq_bool_none (wa I q (by simp))
  | bl j=>cases a; exact eq_bool (wa I q yny)
  | str j=>obtain ⟨b,rfl⟩:=a; exact PySem.EqMixed.eq_bool_str (wa I q (by simp))
  | _=>exact absurd (show false=true from c) bE
 | int i =>
  obtain ⟨t,rfl⟩:=d
  cases y with
  | non=>cases a; exact PySem.EqNone.eq_int_none (wa I q (by simp))
  | int j=>obtain ⟨b,rfl⟩:=a; exact eq_int (wa I q yg5)
  | str j=>obtain ⟨b,rfl⟩:=a; exact PySem.EqMixed.eq_int_str (wa I q (by simp))
  | _=>exact absurd (show false=true from c) bE
 | str i =>
  obtain ⟨t,rfl⟩:=d
  cases y with
  | non=>cases a; exact PySem.EqNone.eq_str_none (wa I q (by simp))
  | bl j=>cases a; exact PySem.EqMixed.eq_str_bool (wa I q (by simp))
  | int j=>obtain ⟨b,rfl⟩:=a; exact PySem.EqMixed.eq_str_int (wa I q (by simp))
  | str j=>obtain ⟨b,rfl⟩:=a; exact eq_str (wa I q yg7)
  | _=>exact absurd (show false=true from c) bE
 | byt i =>
  obtain ⟨t,rfl⟩:=d
  cases y with
  | byt j=>obtain ⟨b,rfl⟩:=a; exact W.eq_bytes (wa I q yhs)
  | _=>exact absurd (show false=true from c) bE
 | _=>cases y <;> exact absurd (show false=true from c) bE
theorem va7:OpR X (compareOp .NotEq) rNe:=by
 intro e s σ H x y v u Q I d a h;obtain ⟨c,q⟩:=h
 cases x with
 | non =>
  cases d
  cases y with
  | non=>cases a; exact PySem.EqNone.ne_none_none (wa I q (by simp))
  | bl j=>cases a; exact PySem.EqNone.ne_none_bool (wa I q (by simp))
  | int j=>obtain ⟨b,rfl⟩:=a; exact PySem.EqNone.ne_none_int (wa I q (by simp))
  | str j=>obtain ⟨b,rfl⟩:=a; exact PySem.EqNone.ne_none_str (wa I q (by simp))
  | _=>exact absurd (show false=true from c) bE
 | bl i =>
  cases d
  cases y with
  | non=>cases a; exact PySem.EqNone.ne_bool_none (wa I q (by simp))
  | bl j=>cases a; exact ne_bool (wa I q (congrArg not yny))
  | str j=>obtain ⟨b,rfl⟩:=a; exact PySem.EqMixed.ne_bool_str (wa I q (by simp))
  | _=>exact absurd (show false=true from c) bE
 | int i =>
  obtain ⟨t,rfl⟩:=d
  cases y with
  | non=>cases a; exact PySem.EqNone.ne_int_none (wa I q (by simp))
  | int j=>obtain ⟨b,rfl⟩:=a; exact ne_int (wa I q (congrArg not yg5))
  | str j=>obtain ⟨b,rfl⟩:=a; exact PySem.EqMixed.ne_int_str (wa I q (by simp))
  | _=>exact absurd (show false=true from c) bE
 | str i =>
  obtain ⟨t,rfl⟩:=d
  cases y with
  | non=>cases a; exact PySem.EqNone.ne_str_none (wa I q (by simp))
  | bl j=>cases a; exact PySem.EqMixed.ne_str_bool (wa I q (by simp))
  | int j=>obtain ⟨b,rfl⟩:=a; exact PySem.EqMixed.ne_str_int (wa I q (by simp))
  | str j=>obtain ⟨b,rfl⟩:=a; exact ne_str (wa I q (congrArg not yg7))
  | _=>exact absurd (show false=true from c) bE
 | byt i =>
  obtain ⟨t,rfl⟩:=d
  cases y with
  | byt j=>obtain ⟨b,rfl⟩:=a; exact W.ne_bytes (wa I q (congrArg not yhs))
  | _=>exact absurd (show false=true from c) bE
 | _=>cases y <;> exact absurd (show false=true from c) bE
theorem ych:OpR X (compareOp .Lt) (rI0 fun i j=>.bl (decide (i < j))):=vav fun _ _ _ _ _ _ _ q=>lt_int q
theorem uv:OpR X (compareOp .LtE) (rI0 fun i j=>.bl (decide (i <= j))):=vav fun _ _ _ _ _ _ _ q=>le_int q
theorem yi5:OpR X (compareOp .Gt) (rI0 fun i j=>.bl (decide (j < i))):=vav fun _ _ _ _ _ _ _ q=>gt_int q
theorem vbq:OpR X (compareOp .GtE) (rI0 fun i j=>.bl (decide (j <= i))):=vav fun _ _ _ _ _ _ _ q=>ge_int q
theorem ygy:OpR X (compareOp .In) (fun x y H Q=>∃ i j,x=.str i/\y=.str j/\Q (.bl (!(Builtin.Str.occurrences j i 0 j.length 1).isEmpty)) H):=by
 intro a s σ H x y v u Q I c b h;obtain ⟨i,j,rfl,rfl,q⟩:=h;obtain ⟨t,rfl⟩:=c;obtain ⟨d,rfl⟩:=b;exact in_str (wa I q rfl)
theorem yya:OpR X (compareOp .Is) (fun x y H Q=>y=.non/\Q (.bl (decide (x=.non))) H):=by
 intro b s σ H x y v u Q I a c h;obtain ⟨rfl,q⟩:=h;cases c;refine is_none_gen (wa I q ?_)
 cases x <;> first
  | (cases a; rfl)
  | (obtain ⟨t,rfl⟩:=a; rfl)
theorem Ŝ:OpR X (compareOp .IsNot) (fun x y H Q=>y=.non/\Q (.bl (!decide (x=.non))) H):=by
 intro b s σ H x y v u Q I a c h;obtain ⟨rfl,q⟩:=h;cases c;refine isnot_none_gen (wa I q ?_)
 cases x <;> first
  | (cases a; rfl)
  | (obtain ⟨t,rfl⟩:=a; rfl)
theorem OpR.or {f:Value->Value->Sem Value} {r:R2} (h:OpR X f r) (h':OpR X f r'):OpR X f (fun x y H Q=>r x y H Q\/r' x y H Q):=by
 intro a s σ H x y v u Q I c b q;rcases q with q | q
 .exact h a s σ H x y v u Q I c b q
 .exact h' a s σ H x y v u Q I c b q
theorem vh (b:Expr) (h:op≠.In:=by decide) (h2:op≠.NotIn:=by decide):behindInMarks op b=false:=by
 have c:(op == CmpOp.In)=false:=by cases op <;> first | rfl | exact absurd rfl h
 have a:(op == CmpOp.NotIn)=false:=by cases op <;> first | rfl | exact absurd rfl h2
 cases b <;> simp [behindInMarks,c,a]
theorem zl {r:R2} (ho:OpR X (compareOp op) r) (ha:PE X a ta) (hb:PE X b tb) (hm:behindInMarks op b=false):PE X (.Compare a [op] [b] pos) (tOp r ta tb):=by
 refine .mk fun c s σ H Q I h=>?_;exact wpAny_Compare1 (vaq ha hb I h fun v u e x y f i d g q=>ho c e σ f x y v u Q i d g q) hm
def yti (t:TE):TT:=fun σ H Q=>t σ H fun x H'=>∃ k,x=.bl k/\Q k H'
theorem y7 {r:R2} (ho:OpR X (compareOp op) r) (ha:PE X a ta) (hb:PE X b tb) (hm:behindInMarks op b=false):PT X (.Compare a [op] [b] pos) (yti (tOp r ta tb)):=by
 refine .mk fun d s σ H Q I h=>?_
 refine wpAny_isTrue_Compare1 (thn (ha d s σ H _ I h) fun v i ⟨x,w,p,f,n⟩=>thn (hb d i σ w _ p n) fun u m ⟨y,o,A,j,l⟩ =>
  thn (ho d m σ o x y v u _ A f j l) fun c C ⟨z,q,t,B,k,e,g⟩=>?_) hm
 subst e;cases B;exact cn ⟨q,t,g⟩
def yij (r r':R2) (ta tb tc:TE):TE:=fun σ H Q=>ta σ H fun x H1=>tb σ H1 fun y H2=>r x y H2 fun z H3=>∃ k,z=.bl k /\
 (if k=true then tc σ H3 fun w' H4=>r' y w' H4 Q else Q (.bl false) H3)
theorem jh {op':CmpOp} {r:R2} (ho:OpR X (compareOp op) r) (ho':OpR X (compareOp op') r') (ha:PE X a ta) (hb:PE X b tb) (hc:PE X c tc)
  (hm:lastMarks [op,op'] [b,c]=false:=by with_unfolding_all rfl):PE X (.Compare a [op,op'] [b,c] pos) (yij r r' ta tb tc):=by
 refine .mk fun f s σ H Q I h=>?_
 refine Compare_chain (thn (ha f s σ H _ I h) fun v D ⟨x,p,n,w,G⟩=>chain_link (thn (hb f D σ p _ n G) fun u K ⟨y,m,q,g,A⟩ =>
  thn (ho f K σ m x y v u _ q w g A) fun d M ⟨z,i,l,J,k,e,j⟩=>?_)) hm
 subst e;cases J;refine cn ?_
 cases k with
 | false=>exact ite_ff ⟨.bl false,i,l,rfl,j⟩
 | true=>exact ite_tt (chain_last (thn (hc f M σ i _ l j) fun o F ⟨C,t,L,E,B⟩=>ho' f F σ t y C u o Q L g E B))
theorem ř {op':CmpOp} {r:R2} (ho:OpR X (compareOp op) r) (ho':OpR X (compareOp op') r') (ha:PE X a ta) (hb:PE X b tb) (hc:PE X c tc)
  (hm:lastMarks [op,op'] [b,c]=false:=by with_unfolding_all rfl):PT X (.Compare a [op,op'] [b,c] pos) (yti (yij r r' ta tb tc)):=by
 refine .mk fun f s σ H Q I h=>?_
 refine isTrue_chain (thn (ha f s σ H _ I h) fun v J ⟨x,t,n,B,N⟩=>test_link (thn (hb f J σ t _ n N) fun u R ⟨y,m,w,g,D⟩ =>
  thn (ho f R σ m x y v u _ w B g D) fun d U ⟨z,i,l,O,k,e,j⟩=>?_)) hm
 subst e;cases O;refine cn ?_
 cases k with
 | false =>
  obtain ⟨Y,q,G⟩:=j;cases q;exact ite_ff ⟨i,l,G⟩
 | true =>
  refine ite_tt (test_last (thn (hc f U σ i _ l j) fun o M ⟨F,A,S,K,E⟩=>thn (ho' f M σ A y F u o _ S g K E) fun Z s5 h'=>?_));obtain ⟨W,C,T,p,k2,L,P⟩:=h';subst L;cases p;exact cn ⟨C,T,P⟩
theorem yas:(sizeLine:Nat) < 2 ^ 63:=by rw [sizeLine_eq]; decide
theorem ja:OpR X (binaryOp .Add) (fun x y H Q=>∃ i j,x=.str i/\y=.str j/\i.length+j.length <= sizeLine/\Q (.str (i++j)) H):=by
 intro a s σ H x y v u Q I b d h;obtain ⟨i,j,rfl,rfl,e,q⟩:=h;obtain ⟨t,rfl⟩:=b;obtain ⟨c,rfl⟩:=d;exact add_str (fun c f=>⟨.str (i++j),H,I.tok _,⟨_,rfl⟩,q⟩) e
def yk7 (b:Expr):Prop:=∀ o i,subscripted b false o i=operate [o,i] (getItem o i)
theorem x0 (ha:PE X a ta) (hb:PE X b tb) (hs:yk7 b) :
  PE X (.Subscript a b pos) (tOp (fun x y H Q=>∃ z i c,x=.str z/\y=.int i/\0 <= i/\i < 2 ^ 63/\i < z.length/\z.cps[i.toNat]?=some c/\Q (.str ⟨#[c]⟩) H) ta tb):=by
 refine .mk fun d s σ H Q I h=>?_;refine Subscript_ (vaq ha hb I h fun v u k x y l r g m q=>?_);obtain ⟨z,i,c,rfl,rfl,j,n,p,f,q⟩:=q;obtain ⟨t,rfl⟩:=g;obtain ⟨A,rfl⟩:=m;have e:seqIndex? i z.length=some i.toNat:=PySem.StrLaws.seqIndex_nonneg j p
 exact tail_any (typeIs_str k z t) slot_str_getitem.lookup (getItem_str (c:=c) (by
  have w:decide (i < -(2 ^ 63:Int))=false:=bA (by omega);have o:decide (i ≥ 2 ^ 63)=false:=bA (by omega);rw [w,o] <;> rfl) (by rw [e]; exact f) ⟨.str ⟨#[c]⟩,l,r.tok _,⟨_,rfl⟩,q⟩) (hs _ _)
theorem Ā {x:V} (r:wd [x] us):∃ u,us=[u]/\w8 x u:=by
 cases r with
 | cons r1 r2=>cases r2; exists _,rfl,r1
theorem ys0 {x:V} (r:wd [x,y] us):∃ u w',us=[u,w']/\w8 x u/\w8 y w':=by
 cases r with
 | cons r1 r2 =>
  cases r2 with
  | cons r3 r4=>cases r4; exists _,_,rfl,r1,r3
theorem ô (hc:X.calm=true):uu X (.builtin "max") (fun xs H Q=>∃ i j,xs=[.int i,.int j]/\Q (.int (if j > i then j else i)) H):=by
 intro a s σ H xs b Q I r h;obtain ⟨i,j,rfl,q⟩:=h;obtain ⟨u,f,rfl,⟨t,rfl⟩,⟨c,rfl⟩⟩:=ys0 r;refine max_two_ints (I.ok.hd hc) fun d e k=>⟨_,H,I.kept k,?_,q⟩;by_cases hj:j > i
 .rw [if_pos hj,if_pos hj]; exists _,rfl
 .rw [if_neg hj,if_neg hj]; exists _,rfl
theorem í (hc:X.calm=true):uu X (.builtin "min") (fun xs H Q=>∃ i j,xs=[.int i,.int j]/\Q (.int (if j < i then j else i)) H):=by
 intro a s σ H xs b Q I r h;obtain ⟨i,j,rfl,q⟩:=h;obtain ⟨u,f,rfl,⟨t,rfl⟩,⟨c,rfl⟩⟩:=ys0 r;refine min_two_ints (I.ok.hd hc) fun d e k=>⟨_,H,I.kept k,?_,q⟩;by_cases hj:j < i
 .rw [if_pos hj,if_pos hj]; exists _,rfl
 .rw [if_neg hj,if_neg hj]; exists _,rfl
theorem yf4:uu X (.type "int") (fun xs H Q=>(∃ i,xs=[.int i]/\Q (.int i) H)\/∃ k,xs=[.bl k]/\Q (.int (if k then 1 else 0)) H):=by
 intro a s σ H xs c Q I r h;rcases h with ⟨i,rfl,q⟩ | ⟨k,rfl,q⟩
 .obtain ⟨u,rfl,t,rfl⟩:=Ā r;exact call_int_int ⟨.int i,H,I,⟨_,rfl⟩,q⟩
 .obtain ⟨u,rfl,b⟩:=Ā r;cases b;exact call_int_bool ⟨.int (if k then 1 else 0),H,I.tok _,⟨_,rfl⟩,q⟩
end
structure ytp (h:Heap) (x dx C:Addr) (mA:Str->Option Value):Prop where
 obj:h.get? x=some (W.instObj C dx)
 ns:h.Ns1 dx mA
 ne:dx≠x
theorem ygw {h:Heap} {dx:Addr} (n:h.Ns1 dx mA):∃ od,h.get? dx=some od/\∀ name,W.lookIn name od=some (mA name):=by
 obtain ⟨o,c,l,k,i,d,_,f⟩:=n;exists o,k,fun name=>?_;have e:=f name;unfold nsFind findBy at e;rw [<- Array.find?_toList] at e;unfold W.lookIn;rw [i];dsimp only
 split
 .rename_i y q
  rw [q] at e;exact congrArg some e
 .rename_i q
  rw [q] at e
  have a:c.toList.any (·.refKey)=false:=by
   rw [List.any_eq_false];intro y j;obtain ⟨z,t,b⟩:=d y (Array.mem_toList_iff.mp j);simp [DictEntry.refKey,b]
  have g:¬ c.toList.any (·.refKey)=true:=by rw [a]; exact bE
  rw [if_neg g];exact congrArg some e
theorem ytp.look {h:Heap} {x dx:Addr} (I:ytp h x dx C mA):∃ od,W.InstAt h x (W.instObj C dx) C (some od)/\∀ name,W.lookIn name od=some (mA name) :=
 let ⟨od,ho,hl⟩:=ygw I.ns
 ⟨od,⟨I.obj,rfl,rfl,ho⟩,hl⟩
section
variable {prog:Program} {w:World} {A:Around} {s:Shared} {K:W.Frag} {x dx f:Addr} {name:Str} {v:Value}
theorem ypo {expr:Bool} (X:K.In s.heap) (I:ytp s.heap x dx C mA) (hg:W.plainGet K C name=true) (hh:W.hasDictIn K C=true)
  (ha:W.findIn K (.ref C) name=some none) (hv:mA name=some v) (hv':W.handedIn v=true) (h:Q v { s with toks:=s.toks+1 }) :
  wpAny (model prog w) A (getAttr (.ref x) name expr) Q E s:=by
 obtain ⟨b,J,a⟩:=I.look;exact W.get_value X J (W.plainGet_of hg).1 (W.findObj_own hh ha rfl (by rw [a,hv])) hv' h
theorem yj2 {pl:Sem Bool} {Q:Value × List Value->Shared->Prop} (X:K.In s.heap) (I:ytp s.heap x dx C mA) (hg:W.plainGet K C name=true)
  (hf:W.findIn K (.ref C) name=some (some (.ref f))) (ht:W.isFn K (.ref f)=true) (hv:mA name=none) (h:Q (.ref f,[.ref x]) s) :
  wpAny (model prog w) A (getMethod (.ref x) name pl) Q E s:=by
 obtain ⟨b,J,a⟩:=I.look;exact W.method_fn X J (W.plainGet_of hg).1 (W.plainGet_of hg).2 hf (beq_iff_eq.mp ht) (by show (W.lookIn name b).map (·.isSome)=some false; rw [a,hv]; rfl) h
theorem yqa {ns:List Str} {Q:Unit->Shared->Prop} (X:K.In s.heap) (I:ytp s.heap x dx C mA)
  (hs:W.findIn K (.ref C) "__setattr__"=some (some (.builtin "object.__setattr__"))) (hp:W.plainOver K C=true) (ht:W.takerIn K C name=some none) (hh:W.hasDictIn K C=true)
  (hw:PySem.Within mA ns) (hsz:ns.length <= sizeLine)
  (h:∀ h',ytp h' x dx C (fun y=>if y=name then some v else mA y)->Heap.SameBut dx s.heap h'->Q () { s with heap:=h',toks:=s.toks+2 }) :
  wpAny (model prog w) A (setAttr (.ref x) name v) Q E s:=by
 obtain ⟨o,J,n⟩:=I.look;refine W.set_plain X J hs (W.osa_open (s:={ s with toks:=s.toks+1 }) (r:=none) X J hp ht fun b=>?_);obtain ⟨q,k,i⟩:=W.any_some hh;have l:s.heap.get? x=some ⟨.ref C,some dx,.plain,#[]⟩:=I.obj;refine bi (bw (bi (bi (wpAny_loadPart l (bi (W.Looks.here (s:={ s with toks:=s.toks+1 }) (W.looks_clsIn X k) ?_))))));rw [i];refine bw (a:=some dx) (bi (bw (bi ?_)));refine wpAny_nsSet1 (s:={ s with toks:=s.toks+1 }) I.ns fun h' c d=>?_;obtain ⟨p,j,m,e,f,g⟩:=c.count (PySem.Within.cons name v hw);refine bi (wpAny_lookBehind e (by rw [f]; exact pastItsLine_dict (bN g (by rw [bK]; omega))) ?_);exact bw (h _ ⟨(d.2 _ (Ne.symm I.ne)).trans I.obj,c,I.ne⟩ d)
theorem ydf {R:Result->Shared->Prop} {vs:List Value} (X:K.In s.heap) (hm:W.makesIn K C=true)
  (hi:W.findIn K (.ref C) "__init__"=some (some (.ref f))) (hf:W.typeIn K (.ref f)=some (.type "function"))
  (h:codeAny (model prog w) (A.under (.builtin "type.__call__" ⟨.ref C :: vs,kw⟩)) (.call (.ref f) ⟨.ref (s.heap.objs.size+1) :: vs,kw⟩) (W.InitBack (s.heap.objs.size+1) R)
   { s with heap:=(s.heap.push W.emptyDict).push (W.instObj C s.heap.objs.size) }) :
  codeAny (model prog w) A (.call (.ref C) ⟨vs,kw⟩) R s:=by
 obtain ⟨c,g,d,t,b⟩:=s;exact W.make_core (W.makes_of X hm) (W.looks_findIn X hi) (fun a=>W.bind_fn X a hf) (.inl rfl) h
end
def jk (f:Str) (v:V):List (Str × V)->List (Str × V)
 | []=>[(f,v)]
 | (g,x) :: r=>if g=f then (g,v) :: r else (g,x) :: jk f v r
theorem æ (f g:Str) (v:V):∀ fs:List (Str × V),(jk f v fs).lookup g=if g=f then some v else fs.lookup g
 | []=>by
  show List.lookup g [(f,v)]=_;by_cases h:g=f
  .have a:(g == f)=true:=beq_iff_eq.mpr h;simp only [List.lookup,a,if_pos h]
  .have a:(g == f)=false:=cN.mpr h;simp only [List.lookup,a,if_neg h]
 | (k,x) :: r=>by
  have b:=æ f g v r;rw [show jk f v ((k,x) :: r)=(if k=f then (k,v) :: r else (k,x) :: jk f v r) from rfl];by_cases hk:k=f
  .rw [if_pos hk];by_cases h:g=k
   .have a:(g == k)=true:=beq_iff_eq.mpr h;simp only [List.lookup,a,if_pos (h.trans hk)]
   .have a:(g == k)=false:=cN.mpr h;simp only [List.lookup,a,if_neg (fun e:g=f=>h (e.trans hk.symm))]
  .rw [if_neg hk];by_cases h:g=k
   .have a:(g == k)=true:=beq_iff_eq.mpr h;simp only [List.lookup,a,if_neg (fun e:g=f=>hk (h.symm.trans e))]
   .have a:(g == k)=false:=cN.mpr h;simp only [List.lookup,a];exact b
theorem ò (f:Str) (v:V):∀ fs:List (Str × V),f∈(jk f v fs).map (·.1)/\∀ g,g∈fs.map (·.1)->g∈(jk f v fs).map (·.1)
 | []=>⟨by simp [jk],fun g h=>by simp at h⟩
 | (k,x) :: r=>by
  obtain ⟨b,a⟩:=ò f v r;rw [show jk f v ((k,x) :: r)=(if k=f then (k,v) :: r else (k,x) :: jk f v r) from rfl];by_cases hk:k=f
  .rw [if_pos hk];subst hk;exists by simp,fun g h=>by simpa using h
  .rw [if_neg hk];exists ?_,fun g h=>?_
   .rw [bW];exact cc _ b
   .rw [bW] at h ⊢;rcases bB.mp h with e | e
    .exact bB.mpr (.inl e)
    .exact cc _ (a g e)
theorem è (f:Str) (v:V):∀ fs:List (Str × V),(jk f v fs).length <= fs.length+1
 | []=>by simp [jk]
 | (k,x) :: r=>by
  have a:=è f v r;rw [show jk f v ((k,x) :: r)=(if k=f then (k,v) :: r else (k,x) :: jk f v r) from rfl];by_cases hk:k=f
  .rw [if_pos hk,bK,bK]; omega
  .rw [if_neg hk,bK,bK]; omega
theorem Ū.some_of {o:Option Value} (r:Ū (some v) o):∃ u,o=some u/\w8 v u:=by
 cases o with
 | none=>exact (show False from r).elim
 | some u=>exact ⟨u,rfl,r⟩
theorem Ū.none_of {o:Option Value} (r:Ū none o):o=none:=by
 cases o with
 | none=>rfl
 | some u=>exact (show False from r).elim
theorem ygt (r:w8 v u):W.handedIn u=true:=by
 cases v with
 | non=>cases (show u=Value.none from r); rfl
 | bl b=>cases (show u=Value.bool b from r); rfl
 | int i=>obtain ⟨t,e⟩:=(show ∃ t,u=Value.int i t from r); cases e; rfl
 | str x=>obtain ⟨t,e⟩:=(show ∃ t,u=Value.str x t from r); cases e; rfl
 | byt b=>obtain ⟨t,e⟩:=(show ∃ t,u=Value.bytes b t from r); cases e; rfl
 | flt b=>obtain ⟨t,e⟩:=(show ∃ t,u=Value.float b t from r); cases e; rfl
 | ref a=>cases (show u=Value.ref a from r); rfl
 | ty n=>cases (show u=Value.type n from r); rfl
section
variable {w:World} {h:Heap} {dx:Addr} {fs fs':List (Str × V)}
theorem ş (hok:HOk P w H h) (e:H a=some (.ins C dx fs)):∃ mA,ytp h a dx C mA/\(∀ f,Ū (fs.lookup f) (mA f))/\PySem.Within mA (fs.map (·.1))/\fs.length <= 1000/\H dx=some (.own a):=by
 obtain ⟨d,z,c,b,mA,n,r,q⟩:=(show xc P w H h a (.ins C dx fs) from hok a _ e);exists mA,⟨b,n,c⟩,r,q,z,d
end
structure Cls (K:W.Frag) (C:Addr):Prop where
 pg:W.plainGet K C Str.empty=true
 hd:W.hasDictIn K C=true
 po:W.plainOver K C=true
 sa:W.findIn K (.ref C) "__setattr__"=some (some (.builtin "object.__setattr__"))
theorem Cls.get {K:W.Frag} (c:Cls K C) (f:Str):W.plainGet K C f=true:=c.pg
def vd (K:W.Frag) (C:Addr) (f:Str):Prop:=W.findIn K (.ref C) f=some none
theorem vd.taker {K:W.Frag} {f:Str} (n:vd K C f):W.takerIn K C f=some none:=by
 unfold W.takerIn;rw [show W.findIn K (.ref C) f=some none from n];rfl
structure Con (K:W.Frag) (C:Addr) (f:Str) (v:V) (u:Value):Prop where
 at_:W.findIn K (.ref C) f=some (some u)
 rel:w8 v u
 get:W.specialIn K u "__get__"=some none
 cp:W.copiedNames.contains f=false
structure yts (K:W.Frag) (C:Addr) (m:Str) (f:Addr):Prop where
 at_:W.findIn K (.ref C) m=some (some (.ref f))
 fn:W.isFn K (.ref f)=true
 kp:W.keepIn K (.ref f)=true
section
variable {s:Shared} {dx:Addr} {fs:List (Str × V)} {f:Str} {A:Around}
theorem yeb {b:Bool} (I:Inv X pins σ H s) (e:H a=some (.ins C dx fs)) (c:Cls X.K C) (n:vd X.K C f) (l:fs.lookup f=some v)
  (h:∀ u s',Inv X pins σ H s'->w8 v u->Q u s'):wpAny (model X.prog X.w) A (getAttr (.ref a) f b) Q E s:=by
 obtain ⟨i,O,r,_,_,_⟩:=ş I.hok e;obtain ⟨u,g,d⟩:=Ū.some_of (v:=v) (o:=i f) (by rw [<- l]; exact r f);exact ypo I.kIn O (c.get f) c.hd n g (ygt d) (h u _ (I.tok _) d)
theorem Ã {m:Str} {g:Addr} {pl:Sem Bool} {Q:Value × List Value->Shared->Prop} (I:Inv X pins σ H s) (e:H a=some (.ins C dx fs)) (c:Cls X.K C) (k:yts X.K C m g) (l:fs.lookup m=none)
  (h:Q (.ref g,[.ref a]) s):wpAny (model X.prog X.w) A (getMethod (.ref a) m pl) Q E s:=by
 obtain ⟨d,O,r,_,_,_⟩:=ş I.hok e;have b:d m=none:=Ū.none_of (by rw [<- l]; exact r m);exact yj2 I.kIn O (c.get m) k.at_ k.fn b h
theorem yez {Q:Unit->Shared->Prop} (I:Inv X pins σ H s) (e:H a=some (.ins C dx fs)) (c:Cls X.K C) (n:vd X.K C f) (hl:fs.length < 1000) (ry:w8 y u)
  (h:∀ s',Inv X pins σ (upd H a (.ins C dx (jk f y fs))) s'->Q () s'):wpAny (model X.prog X.w) A (setAttr (.ref a) f u) Q E s:=by
 obtain ⟨j,O,r,i,_,k⟩:=ş I.hok e;have v:(fs.map (·.1)).length <= sizeLine:=by rw [bf,sizeLine_eq]; omega
 refine yqa I.kIn O c.sa c.po n.taker c.hd i v fun p d l=>h _ ?_;have m:∃ o,p.get? dx=some o:=let ⟨o,_,_,e',_⟩:=d.ns; ⟨o,e'⟩;refine I.write (x:=a) (e:=dx) (by rw [e]; exact True.intro) (.inr k) (fun b q t z=>(l.2 b t).trans z) m ?_;exists by rw [yk O.ne]; exact k,?_,O.ne,d.obj,_,d.ns,fun g=>?_,fun g B=>?_
 .have:=è f y fs; omega
 .show Ū ((jk f y fs).lookup g) (if g=f then some u else j g);rw [æ];by_cases q:g=f
  .rw [if_pos q,if_pos q]; exact ry
  .rw [if_neg q,if_neg q]; exact r g
 .by_cases q:g=f
  .rw [q]; exact (ò f y fs).1
  .refine (ò f y fs).2 g (i g fun z=>B ?_);show (if g=f then some u else j g)=none;rw [if_neg q]; exact z
theorem Inv.made (I:Inv X pins σ H s):Inv X pins σ (upd (upd H s.heap.objs.size (.own (s.heap.objs.size+1))) (s.heap.objs.size+1) (.ins C s.heap.objs.size []))
  { s with heap:=(s.heap.push W.emptyDict).push (W.instObj C s.heap.objs.size) }:=by
 have c:(s.heap.push W.emptyDict).get? s.heap.objs.size=some W.emptyDict:=bC s.heap rfl
 have i:((s.heap.push W.emptyDict).push (W.instObj C s.heap.objs.size)).get? (s.heap.objs.size+1)=some (W.instObj C s.heap.objs.size):=by
  have:=bC (s.heap.push W.emptyDict) (o:=W.instObj C s.heap.objs.size) rfl
  rwa [Heap.size_push] at this
 have j:(s.heap.push W.emptyDict).Ns s.heap.objs.size (fun _=>none):=⟨W.emptyDict,#[],_,c,rfl,(fun e f=>absurd f (by simp)),fun _=>rfl⟩;have g:=I.laid (a:=s.heap.objs.size) (o:=.own (s.heap.objs.size+1)) (h':=s.heap.push W.emptyDict) (t':=s.toks) (fun b u q=>bn _ q) (bp _) ⟨_,c⟩;refine g.laid (a:=s.heap.objs.size+1) (o:=.ins C s.heap.objs.size []) (t':=s.toks) (fun b u q=>bn _ q) (Nat.le_of_eq (Heap.size_push _ _)) ?_;have d:s.heap.objs.size≠s.heap.objs.size+1:=bQ (cP _);exists by rw [yk d,ya],bL _,d,i,fun _=>none,(Heap.Ns1.of_empty j).at fun o q=>bn _ q,fun _=>True.intro,fun y h=>absurd rfl h
theorem ypn {prog:Program} {w:World} {env:Env} {pos:Pos} (hb:attributeBase e f env (eval e env)=eval e env)
  (h:wpAny (model prog w) A (eval e env) (fun o s₁=>wpAny (model prog w) A (getAttr o f true) Q E s₁) E s):wpAny (model prog w) A (eval (.Attribute e f pos) env) Q E s :=
 Attribute_any_ h (by rw [arm_eval_Attribute,hb])
end
def vcx (K:W.Frag) (ta:TE) (f:Str):TE:=fun σ H Q=>ta σ H fun x H1=>∃ a C dx fs v,x=.ref a/\H1 a=some (.ins C dx fs)/\Cls K C/\vd K C f/\fs.lookup f=some v/\Q v H1
def vdu (K:W.Frag) (ta tv:TE) (f:Str):TS:=fun D σ H=>tv σ H fun y H1=>ta σ H1 fun x H2=>∃ a C dx fs,x=.ref a/\H2 a=some (.ins C dx fs)/\Cls K C/\vd K C f/\fs.length < 1000 /\
 D.nx σ (upd H2 a (.ins C dx (jk f y fs)))
section
variable {o value:Expr} {f:Str} {pos pos' tpos:Pos} {tv:TE}
theorem ym (he:PE X e ta) (hb:attributeBase e f X.env (eval e X.env)=eval e X.env):PE X (.Attribute e f pos) (vcx X.K ta f):=by
 refine .mk fun b s σ H Q I h=>?_;refine ypn hb (thn (he b s σ H _ I h) fun u p h'=>?_);obtain ⟨x,m,i,g,a,C,y,t,v,k,d,c,n,l,q⟩:=h';subst k;obtain rfl:u=Value.ref a:=g;exact yeb i d c n l fun r w o j=>⟨v,m,o,j,q⟩
theorem y6 (ha:PE X o ta) (hv:PE X value tv) (hs:swapsWith value (some (.Attribute o f pos')) pos.line X.env=pure false):PS X (.Assign [.Attribute o f pos'] value pos) (vdu X.K ta tv f):=by
 refine .mk fun b s σ H D I h=>?_;refine plainObj_wpAny_Assign_Attribute (thn (hv b s σ H _ I h) fun u d ⟨y,t,j,p,q⟩=>thn (ha b d σ t _ j q) fun k z h'=>?_) hs;obtain ⟨x,B,v,g,a,C,E,w,r,e,c,n,l,i⟩:=h';subst r;obtain rfl:k=Value.ref a:=g;exact yez v e c n l p fun A m=>⟨σ,_,m,i⟩
end
section
variable {s:Shared} {A:Around} {c:Value} {b:Bool}
inductive xp (K:W.Frag) (H:Hp):V->Value->Prop where
 | non:xp K H .non (.type "NoneType")
 | bl (x:Bool):xp K H (.bl x) (.type "bool")
 | int (i:Int):xp K H (.int i) (.type "int")
 | str (x:Str):xp K H (.str x) (.type "str")
 | flt (x:UInt64):xp K H (.flt x) (.type "float")
 | lst {a:Addr} {xs:List V} (e:H a=some (.lst xs)):xp K H (.ref a) (.type "list")
 | frz {a:Addr} {o:Obj} {xs:List V} (e:H a=some (.frz o (.lst xs))):xp K H (.ref a) (.type "list")
 | tup {a:Addr} {xs:List V} (e:H a=some (.tup xs)):xp K H (.ref a) (.type "tuple")
 | dK {a:Addr} {kvs:List (Key × V)} (e:H a=some (.dK kvs)):xp K H (.ref a) (.type "dict")
 | dT {a:Addr} {kvs:List (List Key × V)} (e:H a=some (.dT kvs)):xp K H (.ref a) (.type "dict")
 | ins {a C dx:Addr} {fs:List (Str × V)} (e:H a=some (.ins C dx fs)) (cl:Cls K C) (ha:W.findIn K (.ref C) "__class__"=some (some (.builtin "object.__class__")))
   (hn:W.specialIn K (.builtin "object.__class__") "__get__"=some (some (.builtin "getset_descriptor.__get__"))) (htk:W.takesIn K (.builtin "object.__class__")=some true)
   (hm:W.mroIn K C (.type "object")=some true):xp K H (.ref a) (.ref C)
theorem yfv {x:V} {t:Value} (I:Inv X pins σ H s) (rx:w8 x u) (ty:xp X.K H x t) (e:W.kitOne X.K t c=some b) (h:∀ tk,Q (.bool b) { s with toks:=tk }) :
  wpAny (model X.prog X.w) A (call (.builtin "isinstance") [u,c]) Q E s:=by
 cases ty with
 | non=>cases (show u=Value.none from rx); exact W.kia_one W.kitx_none I.kIn True.intro e (fun z=>nomatch z) h
 | bl y=>cases (show u=Value.bool y from rx); exact W.kia_one W.kitx_bool I.kIn True.intro e (fun z=>nomatch z) h
 | int i=>obtain ⟨t,q⟩:=(show ∃ t,u=Value.int i t from rx); cases q; exact W.kia_one W.kitx_int I.kIn True.intro e (fun z=>nomatch z) h
 | str y=>obtain ⟨t,q⟩:=(show ∃ t,u=Value.str y t from rx); cases q; exact W.kia_one W.kitx_str I.kIn True.intro e (fun z=>nomatch z) h
 | flt y=>obtain ⟨t,q⟩:=(show ∃ t,u=Value.float y t from rx); cases q; exact W.kia_one W.kitx_float I.kIn True.intro e (fun z=>nomatch z) h
 | @lst a xs ea =>
  cases (show u=Value.ref a from rx);obtain ⟨_,_,n,_,d⟩:=(show xc X.prog X.w H s.heap a (.lst xs) from I.hok a _ ea)
  exact W.kia_one W.kitx_list I.kIn ⟨_,d,rfl⟩ e (fun z=>nomatch z) h
 | @frz a ob xs ea =>
  cases (show u=Value.ref a from rx);obtain ⟨_,_,_,n,_,d⟩:=(show xc X.prog X.w H s.heap a (.frz ob (.lst xs)) from I.hok a _ ea)
  exact W.kia_one W.kitx_list I.kIn ⟨_,d,rfl⟩ e (fun z=>nomatch z) h
 | @tup a xs ea =>
  cases (show u=Value.ref a from rx);obtain ⟨_,_,_,p⟩:=(show xc X.prog X.w H s.heap a (.tup xs) from I.hok a _ ea);obtain ⟨o,d,f,_⟩:=p
  exact W.kia_one W.kitx_tuple I.kIn ⟨o,d,f⟩ e (fun z=>nomatch z) h
 | @dK a kvs ea =>
  cases (show u=Value.ref a from rx);obtain ⟨_,_,k,_,p⟩:=(show xc X.prog X.w H s.heap a (.dK kvs) from I.hok a _ ea);obtain ⟨o,g,j,d,f,_⟩:=p
  exact W.kia_one W.kitx_dict I.kIn ⟨o,d,f.1⟩ e (fun z=>nomatch z) h
 | @dT a kvs ea =>
  cases (show u=Value.ref a from rx);obtain ⟨_,_,xs,_,o,g,j,d,f,_⟩:=(show xc X.prog X.w H s.heap a (.dT kvs) from I.hok a _ ea)
  exact W.kia_one W.kitx_dict I.kIn ⟨o,d,f.1⟩ e (fun z=>nomatch z) h
 | @ins a C dx fs ea cl ha hn htk hm =>
  cases (show u=Value.ref a from rx);obtain ⟨m,O,_⟩:=ş I.hok ea;obtain ⟨l,J,_⟩:=O.look
  exact W.kia_one (W.kitx_own (cl.get _) cl.hd ha hn htk hm) I.kIn J e (fun z=>nomatch z) h
end
structure uy (k:Nat) (A:Around):Prop where
 hd:A.handled=none
 dp:A.depth+3 * k+5 < recursionLimit
 un:A.units+16 * k+200 < cLine
theorem uy.mono {k:Nat} {A:Around} (r:uy k A) (h:j <= k):uy j A:=⟨r.hd,by have:=r.dp; omega,by have:=r.un; omega⟩
theorem uy.deeper {k:Nat} {A:Around} (r:uy (k+1) A) (env:Env):uy k (A.deeper env) :=
 ⟨r.hd,by have:=r.dp; show A.depth+1+3 * k+5 < _; omega,by have:=r.un; show A.units+3+16 * k+200 < _; omega⟩
theorem uy.in1 {k:Nat} {A:Around} (r:uy (k+1) A):uy k A.in1 :=
 ⟨r.hd,by have:=r.dp; show A.depth+3 * k+5 < _; omega,by have:=r.un; show A.units+1+16 * k+200 < _; omega⟩
theorem yd9 {A:Around} :(A.under (.builtin "type.__call__" ⟨.ref C :: us,kw⟩)).depth=A.depth+1:=by
 first | rfl | simp [Around.under,Code.weight,Code.isCreation,Code.isGuard,Code.isCaller,Code.frames,Code.isFrame,guardIds]
theorem ye5 {A:Around} :(A.under (.builtin "type.__call__" ⟨.ref C :: us,kw⟩)).units=A.units+1:=by
 first | rfl | simp [Around.under,Code.cUnits,Code.frames,Code.isFrame]
theorem uy.make {k:Nat} {A:Around} (r:uy (k+1) A) (C:Addr) (us:List Value) (kw:List (Str × Value)):uy k (A.under (.builtin "type.__call__" ⟨.ref C :: us,kw⟩)) :=
 ⟨r.hd,by have:=r.dp; rw [yd9]; omega,by have:=r.un; rw [ye5]; omega⟩
theorem uy.depth {k:Nat} {A:Around} (r:uy k A):A.depth < recursionLimit:=by have:=r.dp; omega
theorem uy.units {k:Nat} {A:Around} (r:uy k A):A.units+64 < cLine:=by have:=r.un; omega
def yn7:TA:=fun _ H Q=>Q [] H
def ylo (ta:TE) (tr:TA):TA:=fun σ H Q=>ta σ H fun x H1=>tr σ H1 fun xs H2=>Q (x :: xs) H2
section
variable {t:TA} {pos:Pos}
theorem ub:PA X [] yn7:=.mk fun _ _ _ _ H Q I h=>Calls.spliced_nil ⟨[],H,I,.nil,h⟩
theorem yha (ha:PE X e te) (hr:PA X es t) (hs:starEach (e :: es) X.env=(false,eval e X.env) :: starEach es X.env:=by rfl):PA X (e :: es) (ylo te t):=by
 refine .mk fun b a s σ H Q I h=>?_;rw [hs];show wpAny _ _ (spliced ((false,eval e X.env) :: backTo b (starEach es X.env))) _ _ s;refine Calls.spliced_cons (thn (ha a s σ H _ I h) fun u d h'=>?_);obtain ⟨x,l,k,c,i⟩:=h';exact thn (hr b a d σ l _ k i) fun o p ⟨n,j,m,f,g⟩=>⟨x :: n,j,m,.cons c f,g⟩
def vd5 (t:TA):TE:=fun σ H Q=>t σ H fun xs H1=>xs.length <= sizeLine/\∀ p,H1 p=none->Q (.ref p) (upd H1 p (.tup xs))
def vd3 (t:TA):TE:=fun σ H Q=>t σ H fun xs H1=>xs.length <= sizeLine/\∀ p,H1 p=none->Q (.ref p) (upd H1 p (.lst xs))
theorem χ {x1} (h:PA X es t):PE X (.Tuple es x1 pos) (vd5 t):=by
 refine .mk fun a s σ H Q I i=>?_;refine wpAny_Tuple_spliced (thn (h pos a s σ H _ I i) fun g c ⟨k,f,d,r,z,q⟩=>⟨by rw [<- r.length]; exact z,?_⟩);have j:f c.heap.objs.size=none:=d.hok.fresh (bp _);exists .ref c.heap.objs.size,upd f c.heap.objs.size (.tup k),d.laid (t':=c.toks) (fun b u e=>bn _ e) (bp _) ?_,rfl,q _ j;exists z,g,r,⟨_,bC _ rfl,rfl,_,rfl⟩
theorem wx (h:PA X es t):PE X (.List es pos) (vd3 t):=by
 refine .mk fun a s σ H Q I i=>?_;refine wpAny_List_spliced (thn (h pos a s σ H _ I i) fun g c ⟨k,f,d,r,z,q⟩=>⟨by rw [<- r.length]; exact z,?_⟩);have j:f c.heap.objs.size=none:=d.hok.fresh (bp _);exists .ref c.heap.objs.size,upd f c.heap.objs.size (.lst k),d.laid (t':=c.toks) (fun b u e=>bn _ e) (bp _) ?_,rfl,q _ j;exists z,g,0,r,bC _ rfl
end
abbrev Sp:=List V->Hp->VK->XK->Prop
abbrev CXT:=List Env->Hp->Shared->XK->Value->Shared->Prop
variable {CX:CXT}
structure yi8 (P:Program) (w:World) (K:W.Frag) (mg:Str->Option Value) (base:Heap) (A:Around) (outer:List Env) (s:Shared) (H:Hp):Prop where
 frames:A.frames=some outer
 mod:Mod K mg base
 bs:∀ b o,base.get? b=some o->s.heap.get? b=some o/\H b=none
 bsz:base.objs.size <= s.heap.objs.size
 funs:s.heap.FunFrames base outer
 frf:∀ b∈frs outer,H b=none
 hok:HOk P w H s.heap
 bare:AllBare s.gens
def CE (outer:List Env) (P:Program) (w:World) (H:Hp) (s:Shared) (Q:VK) (u:Value) (s':Shared):Prop :=
 ∃ v H',s'.os=s.os/\AllBare s'.gens/\Un (frs outer) [] H H' s.heap s'.heap/\HOk P w H' s'.heap/\w8 v u/\Q v H'
def CR (CX:CXT) (outer:List Env) (P:Program) (w:World) (H:Hp) (s:Shared) (Q:VK) (E:XK) (r:Result) (s':Shared):Prop :=
 match r with
 | .ok (.ret u)=>CE outer P w H s Q u s'
 | .ok _=>False
 | .error e=>CX outer H s E e s'
structure vk (P:Program) (w:World) (K:W.Frag) (mg:Str->Option Value) (base:Heap) (CX:CXT) (k:Nat) (f:Addr) (fd:FuncData) (ps:List Str) (sp:Sp):Prop where
 len:∀ vs H Q E,sp vs H Q E->vs.length=ps.length
 run:∀ (A:Around) (outer:List Env) (s:Shared) (H:Hp) (args:Args) (us:List Value) (vs:List V) (Q:VK) (E:XK),uy k A->yi8 P w K mg base A outer s H->BindsTo s fd args (ps.zip us)->wd vs us->sp vs H Q E ->
  codeAny (model P w) A (.call (.ref f) args) (CR CX outer P w H s Q E) s
theorem vk.mono {w:World} {K:W.Frag} {mg:Str->Option Value} {base:Heap} {k:Nat} {f:Addr} {ps:List Str} {sp:Sp} (F:vk P w K mg base CX j f fd ps sp) (h:j <= k) :
  vk P w K mg base CX k f fd ps sp:=⟨F.len,fun A a s H b e d Q E c=>F.run A a s H b e d Q E (c.mono h)⟩
theorem vk.imp {w:World} {K:W.Frag} {mg:Str->Option Value} {base:Heap} {k:Nat} {f:Addr} {ps:List Str} {sp sp':Sp} (F:vk P w K mg base CX k f fd ps sp)
  (h:∀ vs H Q E,sp' vs H Q E->sp vs H Q E):vk P w K mg base CX k f fd ps sp' :=
 ⟨fun vs H Q E q=>F.len vs H Q E (h _ _ _ _ q),fun A a s H b d vs Q E c e j g i=>F.run A a s H b d vs Q E c e j g (h _ _ _ _ i)⟩
theorem yi8.make {w:World} {K:W.Frag} {mg:Str->Option Value} {base:Heap} {A:Around} {outer:List Env} {s:Shared} (e:yi8 P w K mg base A outer s H) (C:Addr) (us:List Value) (kw:List (Str × Value)) :
  yi8 P w K mg base (A.under (.builtin "type.__call__" ⟨.ref C :: us,kw⟩)) outer s H:=⟨by first | exact e.frames | (simpa [Around.under,Code.envs,Code.isFrame,pushEnvs] using e.frames),e.mod,e.bs,e.bsz,e.funs,e.frf,e.hok,e.bare⟩
theorem yi8.in1 {w:World} {K:W.Frag} {mg:Str->Option Value} {base:Heap} {A:Around} {outer:List Env} {s:Shared} (e:yi8 P w K mg base A outer s H) :
  yi8 P w K mg base A.in1 outer s H:=⟨e.frames,e.mod,e.bs,e.bsz,e.funs,e.frf,e.hok,e.bare⟩
section
variable {s:Shared}
theorem Inv.env0 (I:Inv X pins σ H s):yi8 X.prog X.w X.K X.mg X.base X.A X.stack s H :=
 ⟨I.ok.frames,I.ok.mod,I.bs,bN I.ok.bsz I.sz,I.stack,I.stkFree,I.hok,I.bare⟩
theorem Inv.after {Q:VK} (I:Inv X pins σ H s) (h:CE X.stack X.prog X.w H s Q u s'):EP X pins σ Q u s':=by
 obtain ⟨v,f,k,a,i,c,r,q⟩:=h;obtain ⟨j,g,d,t,e⟩:=s';obtain rfl:e=s.os:=k;exists v,f,I.call (h':=j) (g':=g) (d':=d) (t':=t) (ch:=[]) i c a (fun b z=>absurd z (by simp)),r,q
end
def yrh (sp:Sp) (dvs:List V) (E:XK) (t:TA):TE:=fun σ H Q=>t σ H fun vs H1=>sp (vs++dvs) H1 Q E
def yce (C:Addr) (m:Str) (sp:Sp) (dvs:List V) (E:XK) (ta:TE) (t:TA):TE:=fun σ H Q=>ta σ H fun x H1=>∃ a dx fs,x=.ref a/\H1 a=some (.ins C dx fs)/\fs.lookup m=none /\
 t σ H1 fun vs H2=>sp (x :: (vs++dvs)) H2 Q E
def ys8 (C:Addr) (sp:Sp) (dvs:List V) (E:XK) (t:TA):TE:=fun σ H Q=>t σ H fun vs H1=>∀ x dx,H1 x=none->H1 dx=none->dx≠x ->
 sp (.ref x :: (vs++dvs)) (upd (upd H1 dx (.own x)) x (.ins C dx [])) (fun v H2=>v=.non/\Q (.ref x) H2) E
def uw (K:W.Frag) (fd:FuncData) (ps:List Str) (ds:List Value):Prop :=
 ∀ (s:Shared) (us:List Value),K.In s.heap->(us++ds).length=ps.length->BindsTo s fd ⟨us,[]⟩ (ps.zip (us++ds))
theorem uw.all {K:W.Frag} {ps:List Str} (h:∀ us:List Value,us.length=ps.length->bindArgs fd ⟨us,[]⟩=pure (ps.zip us)):uw K fd ps []:=fun s us _ a=>by
 rw [List.append_nil] at a ⊢;exact .of_eq (h us a)
def Ò (CX:CXT) (X:Cx) (E:XK):Prop:=∀ (pins:List (Addr × Obj)) (σ:St) (H:Hp) (s:Shared) (e:Value) (s':Shared),Inv X pins σ H s->CX X.stack H s E e s'->X.xe e s'
section
variable {k:Nat} {f:Addr} {ps:List Str} {sp:Sp} {dvs:List V} {ds:List Value} {E:XK} {m:Str} {pos apos:Pos} {o:Expr} {t:TA}
theorem yir {s:Shared} {Q:VK} (F:vk X.prog X.w X.K X.mg X.base CX k f fd ps sp) (hr:uy k X.A) (hb:uw X.K fd ps ds) (hd:wd dvs ds) (hx:Ò CX X E)
  (I:Inv X pins σ H s) (r:wd vs us) (h:sp (vs++dvs) H Q E):wpAny (model X.prog X.w) X.A (call (.ref f) us) (EP X pins σ Q) X.xe s:=by
 have b:wd (vs++dvs) (us++ds):=r.append hd;have d:(us++ds).length=ps.length:=by rw [<- b.length]; exact F.len _ _ _ _ h
 refine wpAny_call (codeAny_mono (F.run X.A X.stack s H ⟨us,[]⟩ (us++ds) (vs++dvs) Q E hr I.env0 (hb s us I.kIn d) b h) fun r c a=>?_)
 cases r with
 | error e=>exact hx pins σ H s e c I a
 | ok fl =>
  cases fl with
  | ret u=>exact I.after a
  | next=>exact False.elim a
  | brk=>exact False.elim a
  | cont=>exact False.elim a
theorem ypb (F:vk X.prog X.w X.K X.mg X.base CX k f fd ps sp) (hr:uy k X.A) (hg:Gl X x) (hm:X.mg x=some (.ref f)) (hk:W.keepIn X.K (.ref f)=true) (hb:uw X.K fd ps ds) (hd:wd dvs ds) (hx:Ò CX X E)
  (ha:PA X (e :: es) t) (hdb:(x == ("__debug__":Str))=false:=by decide) (he:starEach (e :: es) X.env=(false,eval e X.env) :: starEach es X.env:=by rfl) (hpl:(backTo pos (starEach es X.env)).any (·.1)=false:=by rfl) :
  PE X (.Call (.Name x p) (e :: es) [] pos) (yrh sp dvs E t):=by
 refine .mk fun a s σ H Q I h=>?_;refine wpAny_Call_Name_kw (j3 I hg hm ?_ hdb);refine W.callWith_K (h₀:=X.base) I.ok.mod.kin hk (thn (ha pos a s σ H _ I h) fun g c ⟨d,i,b,r,q⟩=>⟨b.kIn,?_⟩) he hpl;exact yir F hr hb hd hx b r q
theorem xo {pl:Sem Bool} (he:PE X o ta) (c:Cls X.K C) (hm:yts X.K C m f) (F:vk X.prog X.w X.K X.mg X.base CX k f fd ps sp) (hr:uy k X.A) (hb:uw X.K fd ps ds) (hd:wd dvs ds) (hx:Ò CX X E) (ha:PA X (e :: es) t)
  (hst:starEach (e :: es) X.env=(false,eval e X.env) :: starEach es X.env:=by rfl) (hpl:(backTo pos (starEach es X.env)).any (·.1)=false:=by rfl)
  (ht:eval (.Call (.Attribute o m apos) (e :: es) [] pos) X.env=(do
   let ov <- eval o X.env
   standAt apos.atName
   let (f,first) <- holding [ov] (getMethod ov m pl)
   callWith pos f first (backTo pos (starEach (e :: es) X.env)) (backToKw pos (keywordEach [] X.env))):=by rfl) :
  PE X (.Call (.Attribute o m apos) (e :: es) [] pos) (yce C m sp dvs E ta t):=by
 refine .mk fun b s σ H Q I h=>?_;refine W.methodCall_KW (pl:=pl) (thn (he b s σ H _ I h) fun u i h'=>?_) ht;obtain ⟨x,y,d,n,a,G,z,v,j,l,q⟩:=h';subst v;obtain rfl:u=Value.ref a:=n;refine Ã d j c hm l ?_
 refine W.callWith_K (first:=[.ref a]) (h₀:=X.base) I.ok.mod.kin hm.kp (thn (ha pos b i σ y _ d q) fun us B ⟨vs,D,g,r,p⟩=>⟨g.kIn,?_⟩) hst hpl
 exact yir (us:=.ref a :: us) (vs:=.ref a :: vs) F hr hb hd hx g (.cons rfl r) p
theorem wc {pl:Sem Bool} (he:PE X o ta) (c:Cls X.K C) (hm:yts X.K C m f) (F:vk X.prog X.w X.K X.mg X.base CX k f fd ps sp) (hr:uy k X.A) (hb:uw X.K fd ps ds) (hd:wd dvs ds) (hx:Ò CX X E)
  (ht:eval (.Call (.Attribute o m apos) [] [] pos) X.env=(do
   let ov <- eval o X.env
   standAt apos.atName
   let (f,first) <- holding [ov] (getMethod ov m pl)
   callWith pos f first (backTo pos (starEach [] X.env)) (backToKw pos (keywordEach [] X.env))):=by rfl) :
  PE X (.Call (.Attribute o m apos) [] [] pos) (yce C m sp dvs E ta yn7):=by
 refine .mk fun b s σ H Q I h=>?_;refine W.methodCall_KW (pl:=pl) (thn (he b s σ H _ I h) fun u j h'=>?_) ht;obtain ⟨x,p,d,g,a,r,n,i,e,l,q⟩:=h';subst i;obtain rfl:u=Value.ref a:=g;refine Ã d e c hm l ?_
 exact W.callWith_K0 (first:=[.ref a]) d.kIn hm.kp (yir (us:=[.ref a]) (vs:=[.ref a]) F hr hb hd hx d (.cons rfl .nil) q)
structure Mk (K:W.Frag) (C f:Addr):Prop where
 makes:W.makesIn K C=true
 init:W.findIn K (.ref C) "__init__"=some (some (.ref f))
 fn:W.isFn K (.ref f)=true
 kp:W.keepIn K (.ref C)=true
theorem yc7 {s:Shared} {Q:VK} (M:Mk X.K C f) (F:vk X.prog X.w X.K X.mg X.base CX k f fd ps sp) (hr:uy (k+1) X.A) (hb:uw X.K fd ps ds) (hd:wd dvs ds)
  (hx:Ò CX X E) (I:Inv X pins σ H s) (r:wd vs us)
  (h:∀ x dx,H x=none->H dx=none->dx≠x->sp (.ref x :: (vs++dvs)) (upd (upd H dx (.own x)) x (.ins C dx [])) (fun v H2=>v=.non/\Q (.ref x) H2) E) :
  wpAny (model X.prog X.w) X.A (call (.ref C) us) (EP X pins σ Q) X.xe s:=by
 have d:=h (s.heap.objs.size+1) s.heap.objs.size (I.hok.fresh (Nat.le_succ _)) (I.hok.fresh (bp _)) (bQ (cP _));have b:=Inv.made (C:=C) I;have c:wd (V.ref (s.heap.objs.size+1) :: (vs++dvs)) (Value.ref (s.heap.objs.size+1) :: (us++ds)):=.cons rfl (r.append hd)
 have n:(Value.ref (s.heap.objs.size+1) :: us++ds).length=ps.length:=by
  have e:=c.length;rw [F.len _ _ _ _ d] at e;exact e.symm
 refine wpAny_call (ydf (f:=f) I.kIn M.makes M.init (beq_iff_eq.mp M.fn) (codeAny_mono (F.run _ X.stack _ _ ⟨Value.ref (s.heap.objs.size+1) :: us,[]⟩ (Value.ref (s.heap.objs.size+1) :: (us++ds)) _ _ E (hr.make C us [])
  (b.env0.make C us []) (hb _ (Value.ref (s.heap.objs.size+1) :: us) b.kIn n) c d) fun r l a=>?_))
 cases r with
 | error e=>exact hx pins σ _ _ e l b a
 | ok fl =>
  cases fl with
  | ret u =>
   obtain ⟨v,g,o,m,i,j⟩:=b.after a;subst i;exists m,⟨V.ref (s.heap.objs.size+1),g,o,rfl,j⟩
  | next=>exact False.elim a
  | brk=>exact False.elim a
  | cont=>exact False.elim a
theorem yb0 (M:Mk X.K C f) (F:vk X.prog X.w X.K X.mg X.base CX k f fd ps sp) (hr:uy (k+1) X.A) (hg:Gl X x) (hm:X.mg x=some (.ref C)) (hb:uw X.K fd ps ds) (hd:wd dvs ds) (hx:Ò CX X E)
  (ha:PA X (e :: es) t) (hdb:(x == ("__debug__":Str))=false:=by decide) (he:starEach (e :: es) X.env=(false,eval e X.env) :: starEach es X.env:=by rfl) (hpl:(backTo pos (starEach es X.env)).any (·.1)=false:=by rfl) :
  PE X (.Call (.Name x p) (e :: es) [] pos) (ys8 C sp dvs E t):=by
 refine .mk fun a s σ H Q I h=>?_;refine wpAny_Call_Name_kw (j3 I hg hm ?_ hdb);refine W.callWith_K (h₀:=X.base) I.ok.mod.kin M.kp (thn (ha pos a s σ H _ I h) fun g c ⟨d,i,b,r,q⟩=>⟨b.kIn,?_⟩) he hpl;exact yc7 M F hr hb hd hx b r q
theorem τ (M:Mk X.K C f) (F:vk X.prog X.w X.K X.mg X.base CX k f fd ps sp) (hr:uy (k+1) X.A) (hg:Gl X x) (hm:X.mg x=some (.ref C)) (hb:uw X.K fd ps ds) (hd:wd dvs ds) (hx:Ò CX X E)
  (hdb:(x == ("__debug__":Str))=false:=by decide):PE X (.Call (.Name x p) [] [] pos) (ys8 C sp dvs E yn7):=by
 refine .mk fun a s σ H Q I h=>?_;refine wpAny_Call_Name_kw (j3 I hg hm ?_ hdb);exact W.callWith_K0 I.kIn M.kp (yc7 (us:=[]) M F hr hb hd hx I .nil h)
end
section
variable {k:Nat} {f:Addr} {ps ks:List Str} {sp:Sp} {E:XK} {m:Str} {pos apos kpos:Pos} {o:Expr} {kws:List Keyword} {t tk:TA} {nm:Option Str}
structure vdl (K:W.Frag) (fd:FuncData) (ps ks:List Str) (g:List Value->List Value->List Value) (gV:List V->List V->List V):Prop where
 to:∀ (s:Shared) (us ws:List Value),K.In s.heap->(g us ws).length=ps.length->BindsTo s fd ⟨us,ks.zip ws⟩ (ps.zip (g us ws))
 rel:∀ {vs:List V} {us:List Value} {zs:List V} {ws:List Value},wd vs us->wd zs ws->wd (gV vs zs) (g us ws)
variable {g:List Value->List Value->List Value} {gV:List V->List V->List V}
end
structure yh (N P:List Str) (sc:Scope):Prop where
 kind:sc.kind=.function
 co:sc.isCoroutine=false
 gen:sc.isGenerator=false
 nd:N.Nodup
 pre:N.take P.length=P
 par:∀ x∈P,sc.names.lookup x=some .local\/sc.names.lookup x=some .cell
 nofree:∀ y∈sc.names,y.2≠.free
theorem Ż {kindOf:Str->Option NameKind} :∀ {binds:List (Str × Value)} {m:Str->Option Value},(∀ v,(x,v)∉binds)->bindL kindOf binds m x=m x
 | [],_,_=>rfl
 | (n,v) :: r,m,h=>by
  unfold bindL;rw [Ż fun w a=>h w (cc _ a)]
  split
  .have:x≠n:=by rintro rfl; exact h v cu
   simp [this]
  .rfl
theorem yac {kindOf:Str->Option NameKind} :∀ {binds:List (Str × Value)} {m:Str->Option Value},(∀ v,(x,v)∉binds)->bindC kindOf binds m x=m x
 | [],_,_=>rfl
 | (n,v) :: r,m,h=>by
  unfold bindC;rw [yac fun w a=>h w (cc _ a)]
  split
  .rfl
  .have:x≠n:=by rintro rfl; exact h v cu
   simp [this]
theorem yaa {kindOf:Str->Option NameKind} {v:Value}:∀ {P:List Str} {vs:List Value} {i:Nat} {m:Str->Option Value},P.Nodup->P[i]?=some x->vs[i]?=some v->kindOf x=some .local ->
  bindL kindOf (P.zip vs) m x=some v
 | [],_,_,_,_,h,_,_=>by simp at h
 | _ :: _,[],_,_,_,_,h,_=>by simp at h
 | p :: P,w :: vs,0,m,nd,h1,h2,hk=>by
  simp at h1 h2; subst h1; subst h2;show bindL kindOf ((p,w) :: P.zip vs) m p=_;unfold bindL;rw [Ż fun v a=>(cA.mp nd).1 (List.of_mem_zip a).1,if_pos hk];simp
 | p :: P,w :: vs,i+1,m,nd,h1,h2,hk=>by
  show bindL kindOf ((p,w) :: P.zip vs) m x=_;unfold bindL;exact yaa (i:=i) (cA.mp nd).2 (by simpa using h1) (by simpa using h2) hk
theorem Ź {kindOf:Str->Option NameKind} {v:Value}:∀ {P:List Str} {vs:List Value} {i:Nat} {m:Str->Option Value},P.Nodup->P[i]?=some x->vs[i]?=some v->kindOf x≠some .local ->
  bindC kindOf (P.zip vs) m x=some v
 | [],_,_,_,_,h,_,_=>by simp at h
 | _ :: _,[],_,_,_,_,h,_=>by simp at h
 | p :: P,w :: vs,0,m,nd,h1,h2,hk=>by
  simp at h1 h2; subst h1; subst h2;show bindC kindOf ((p,w) :: P.zip vs) m p=_;unfold bindC;rw [yac fun v a=>(cA.mp nd).1 (List.of_mem_zip a).1,if_neg hk];simp
 | p :: P,w :: vs,i+1,m,nd,h1,h2,hk=>by
  show bindC kindOf ((p,w) :: P.zip vs) m x=_;unfold bindC;exact Ź (i:=i) (cA.mp nd).2 (by simpa using h1) (by simpa using h2) hk
def Ë (N:List Str) (vs:List V):St:=vs.map some++List.replicate (N.length - vs.length) none
def vo (CX:CXT) (P:Program) (w:World) (K:W.Frag) (mg:Str->Option Value) (base:Heap) (N:List Str) (qual:Str) (scope:Scope) (f:Addr) (cd:Value) (A:Around) (outer:List Env) (s:Shared) (H:Hp) (E:XK):Cx where
 prog:=P
 w:=w
 K:=K
 mg:=mg
 base:=base
 A:=A.deeper (envOfC qual scope s.heap.objs.size f cd)
 N:=N
 s₀:=s
 H₀:=H
 env:=envOfC qual scope s.heap.objs.size f cd
 outer:=outer
 stack:=envOfC qual scope s.heap.objs.size f cd :: outer
 ex:=[]
 calm:=true
 fn:=fun _=>true
 pn:=[]
 xe:=fun e s'=>wpAny (model P w) (A.deeper (envOfC qual scope s.heap.objs.size f cd)) (leaving (envOfC qual scope s.heap.objs.size f cd) e) (fun _ s''=>CX outer H s E e s'') (fun e' s''=>CX outer H s E e' s'') s'
theorem yc5 {sc:Scope} {n:Nat} (h:sc.names.lookup x=some .cell):∃ c,(cellsFrom n sc.names []).lookup x=some c:=by
 have q:=W.cellsFrom_some sc.names n [] (.inl h);exact Option.isSome_iff_exists.mp q
theorem yf6 {w:World} {K:W.Frag} {mg:Str->Option Value} {base:Heap} {N ps:List Str} {qual:Str} {scope:Scope} {f:Addr} {cd:Value} {A:Around} {outer:List Env} {s s1:Shared} {E:XK} 
  (S:yh N ps scope) (hd:A.handled=none) (e0:yi8 P w K mg base A outer s H) (hl:vs.length=ps.length) (r:wd vs us)
  (x:InCallC s s.heap.objs.size (bindL (envOfC qual scope s.heap.objs.size f cd).kindOf (ps.zip us) fun _=>none) (cellsFrom (s.heap.objs.size+1) scope.names []) (bindC (envOfC qual scope s.heap.objs.size f cd).kindOf (ps.zip us) fun _=>none) s1) :
  Inv (vo CX P w K mg base N qual scope f cd A outer s H E) [] (Ë N vs) H s1:=by
 have D:ps.length <= N.length:=by have:=congrArg List.length S.pre; rw [bX] at this; omega
 obtain ⟨t,J,rfl,B⟩:=x.done;have j:∀ b:Addr,b∉(vo CX P w K mg base N qual scope f cd A outer s H E).ex:=fun b z=>absurd (show b∈([]:List Addr) from z) (by simp)
 refine ⟨⟨e0.mod,S.kind,rfl,rfl,bp _,fun y z c t d=>?_,fun y g=>?_,fun y c _ h=>?_,fun _=>hd,Around.frames_deeper e0.frames,.inr ⟨rfl,rfl⟩,fun b z=>absurd z (j b),e0.bs,e0.bsz,fun b _ _=>j b,fun b z=>absurd z (j b),e0.funs,e0.frf⟩,
  rfl,e0.bare,Un.kept B,⟨_,x.toInCall.ns,fun i y v t d I=>?_⟩,fun y c h=>⟨_,x.cell y c h⟩,e0.hok.fresh (bp _),fun y c h=>?_,fun p m=>absurd (show p∈([]:List (Addr × Obj)) from m) (by simp),e0.hok.kept B,?_⟩
 .exact name_of_addr x.apart (PySem.mem_of_lookup t) (PySem.mem_of_lookup d)
 .have g:scope.names.lookup y=some .cell\/scope.names.lookup y=some .free:=g;rcases g with g | g
  .exact yc5 g
  .exact absurd rfl (S.nofree _ (PySem.mem_of_lookup g))
 .exact Nat.le_of_lt (x.above y c (PySem.mem_of_lookup h))
 .have o:i < vs.length:=by
   unfold Ë at d;by_cases o:i < vs.length
   .exact o
   .rw [cb (by simpa using o)] at d;rw [List.getElem?_replicate] at d
    split at d <;> cases d
  have G:vs[i]?=some v:=by
   unfold Ë at d;rw [cG (by simpa using o),br] at d
   cases e:vs[i]? with
   | none=>rw [e] at d; cases d
   | some a=>rw [e] at d; cases d; rfl
  obtain ⟨u,C,F⟩:=r.get G
  have m:ps[i]?=some y:=by
   rw [<- S.pre,List.getElem?_take_of_lt (by omega)]; exact t
  have l:ps.Nodup:=by rw [<- S.pre]; exact S.nd.sublist (List.take_sublist _ _)
  exists u,F,?_;rcases S.par y (bI m) with k | k
  .exact .inl ⟨k,yaa l m C k⟩
  .obtain ⟨c,e⟩:=yc5 (n:=s.heap.objs.size+1) k;refine .inr ⟨.inl k,c,e,?_⟩;have q:=x.cell y c e;rw [Ź l m C (by show scope.names.lookup y≠_; rw [k]; decide)] at q;exact q
 .exact e0.hok.fresh (Nat.le_of_lt (x.above y c (PySem.mem_of_lookup h)))
 .unfold Ë;show _=N.length;rw [bj,bf,List.length_replicate];omega
theorem ylr {w:World} {K:W.Frag} {mg:Str->Option Value} {base:Heap} {k:Nat} {f:Addr} {name qual:Str} {params:Arguments} {scope:Scope} {dV kV doc pm cdv ct oc:Value} {an od:Option Addr}
  {osl:Array (Option Value)} {N ps:List Str} {sp:Sp} (lk:K.lookup f=some ⟨oc,od,.func (W.fnOf name qual params body scope dV kV doc pm an cdv ct),osl⟩) (hcd:W.codeIn K cdv qual=true) (S:yh N ps scope)
  (len:∀ vs H Q E,sp vs H Q E->vs.length=ps.length)
  (hbody:∀ (A:Around) (outer:List Env) (s:Shared) (H:Hp) (vs:List V) (Q:VK) (E:XK),uy k (A.deeper (envOfC qual scope s.heap.objs.size f cdv))->sp vs H Q E ->
   ∃ t,PSs (vo CX P w K mg base N qual scope f cdv A outer s H E) body t/\t { nx:=fun _ H'=>Q .non H',rt:=Q } (Ë N vs) H) :
  vk P w K mg base CX (k+1) f (W.fnOf name qual params body scope dV kV doc pm an cdv ct) ps sp:=by
 exists len,fun A outer s H p F vs Q E j g L r d=>?_;have M:=len _ _ _ _ d;have z:K.In s.heap:=g.mod.kin.keeps fun b o e=>(g.bs b o e).1;have l:s.heap.NoLimit:=g.mod.nolimit.keeps fun b o e=>(g.bs b o e).1
 have a:∀ y∈ps.zip F,scope.names.lookup y.1=some .local\/(scope.names.lookup y.1=some .cell/\((cellsFrom (s.heap.objs.size+1) scope.names []).lookup y.1).isSome=true):=fun ⟨n,v⟩ O=>by
  rcases S.par n (List.of_mem_zip O).1 with q | q
  .exact .inl q
  .exact .inr ⟨q,W.cellsFrom_some _ _ _ (.inl q)⟩
 refine codeAny_call_function j.depth (z _ _ lk) rfl S.co S.gen rfl (W.codeRec_of z hcd) (L _ _ _ _ ?_);refine wpAny_newFunctionEnv_cells S.kind a fun R C B x=>?_;subst C;exists l.keeps x.toInCall.keep,codeAny_func ?_;obtain ⟨t,T,G⟩:=hbody A outer s H vs Q E (j.deeper _) d;have I:Inv (vo CX P w K mg base N qual scope f cdv A outer s H E) [] (Ë N vs) H B:=yf6 S j.hd g M r x;refine cJ (T [] B (Ë N vs) H _ I G) (fun D i c=>?_) fun e i c=>c
 have h:∀ {σ':St} {H':Hp} {v:V} {u:Value},Inv (vo CX P w K mg base N qual scope f cdv A outer s H E) [] σ' H' i->w8 v u->Q v H'->CE outer P w H s Q u i :=
  fun {σ' H' v u} J m q=>⟨v,H',J.os,J.bare,J.base,J.hok,m,q⟩
 cases D with
 | ret u =>
  obtain ⟨v,σ',H',J,m,q⟩:=c;exact h J m q
 | next =>
  obtain ⟨σ',H',J,q⟩:=c;exact h (v:=V.non) (u:=Value.none) J rfl q
 | brk =>
  obtain ⟨_,_,_,q⟩:=c;exact False.elim q
 | cont =>
  obtain ⟨_,_,_,q⟩:=c;exact False.elim q
section
variable {pos:Pos} {t:TA} {id T:String} {r:List V->Hp->VK->Prop}
def tCB (r:List V->Hp->VK->Prop) (t:TA):TE:=fun σ H Q=>t σ H fun vs H1=>r vs H1 Q
theorem yks (hc:uu X (.builtin id) r) (hg:Gl X x) (hm:X.mg x=none) (hv:bootBuiltins x=some (.builtin id)) (ha:PA X (e :: es) t) (hn:x≠"__name__":=by decide) (hdb:(x == ("__debug__":Str))=false:=by decide)
  (he:starEach (e :: es) X.env=(false,eval e X.env) :: starEach es X.env:=by rfl) (hpl:(backTo pos (starEach es X.env)).any (·.1)=false:=by rfl):PE X (.Call (.Name x p) (e :: es) [] pos) (tCB r t):=by
 refine .mk fun a s σ H Q I h=>?_;refine wpAny_Call_Name_kw (ĥ I hg hm hv ?_ hn hdb);exact PyProof.Rows.callWith_builtin1 (thn (ha pos a s σ H _ I h) fun f c ⟨d,i,g,b,j⟩=>hc a c σ i d f Q g b j) he hpl
theorem ygg (hc:uu X (.type T) r) (hg:Gl X x) (hm:X.mg x=none) (hv:bootBuiltins x=some (.type T)) (ha:PA X (e :: es) t) (hn:x≠"__name__":=by decide) (hdb:(x == ("__debug__":Str))=false:=by decide)
  (he:starEach (e :: es) X.env=(false,eval e X.env) :: starEach es X.env:=by rfl) (hpl:(backTo pos (starEach es X.env)).any (·.1)=false:=by rfl):PE X (.Call (.Name x p) (e :: es) [] pos) (tCB r t):=by
 refine .mk fun a s σ H Q I h=>?_;refine wpAny_Call_Name_kw (ĥ I hg hm hv ?_ hn hdb);exact PyProof.Rows.callWith_type1 (thn (ha pos a s σ H _ I h) fun f c ⟨d,i,g,b,j⟩=>hc a c σ i d f Q g b j) he hpl
end
end L2
namespace HT
open PySem PyProof.Rows
section
open PySem.SeqAt
open PySem.AutoSeq1 (wpAny_loadPart')
open PySem.MeetsSeq PySem.MeetsSeq2 PySem.MeetsSeq3
end
section
variable {prog:Program} {w:World} {A:Around} {E:Value->Shared->Prop} {s:Shared}
def sIx (n d:Nat):Option Int->Nat
 | none=>d
 | some v=>if v < 0 then (v+(n:Int)).toNat else min v.toNat n
theorem sIx_none (n d:Nat):sIx n d none=d:=rfl
theorem sIx_nat (n d k:Nat):sIx n d (some (k:Int))=min k n:=by
 show (if (k:Int) < 0 then ((k:Int)+(n:Int)).toNat else min (k:Int).toNat n)=min k n;rw [if_neg (by omega),Int.toNat_natCast]
theorem yuq (n d:Nat) (hd:d <= n) (o:Option Int):sIx n d o <= n:=by
 cases o with
 | none=>exact hd
 | some v =>
  show (if v < 0 then (v+(n:Int)).toNat else min v.toNat n) <= n;by_cases hv:v < 0
  .rw [if_pos hv]; omega
  .rw [if_neg hv]; exact Nat.min_le_right _ _
theorem yhm (v:Int) (n d:Nat):(if v < 0 then max (v+(n:Int)) 0 else min v (n:Int))=((sIx n d (some v):Nat):Int):=by
 show (if v < 0 then max (v+(n:Int)) 0 else min v (n:Int))=(((if v < 0 then (v+(n:Int)).toNat else min v.toNat n):Nat):Int);by_cases hv:v < 0
 .simp only [if_pos hv]; omega
 .simp only [if_neg hv]; omega
theorem yec (lo hi:Option Int) (n:Nat):Builtin.Slice.sliceAdjust lo hi 1 (n:Int)=(((sIx n 0 lo:Nat):Int),((sIx n n hi:Nat):Int)):=by
 have a:¬ ((1:Int) < 0):=by omega
 unfold Builtin.Slice.sliceAdjust;simp only [a,if_false];refine Prod.ext ?_ ?_
 .cases lo with
  | none=>rfl
  | some v=>exact yhm v n 0
 .cases hi with
  | none=>rfl
  | some v=>exact yhm v n n
theorem yew (i j:Nat):Builtin.Slice.slicePlaces (i:Int) (j:Int) 1=j - i:=by
 unfold Builtin.Slice.slicePlaces;have a:(1:Int) > 0:=by omega
 simp only [a,if_true,Int.ediv_one]
 split <;> omega
theorem ğ {v:Value} {o:Option Int} {Q:Option Int->Shared->Prop} (p:IsPart v o) (h:Q o s):wpAny (model prog w) A (Builtin.Slice.slicePartIndex v) Q E s:=by
 cases p with
 | none=>exact slicePart_none h
 | int i t=>exact slicePart_int h
theorem zq {sl:Addr} {vl vu:Value} {lo hi:Option Int} {n:Nat} {Q:Int × Int × Nat->Shared->Prop} (hs:s.heap.IsSliceOf sl vl vu .none) (pl:IsPart vl lo) (pu:IsPart vu hi)
  (h:Q (((sIx n 0 lo:Nat):Int),1,sIx n n hi - sIx n 0 lo) s):wpAny (model prog w) A (Builtin.Slice.sliceApplied (.ref sl) (pure (n:Int))) Q E s:=by
 obtain ⟨d,b,c,a⟩:=id hs;unfold Builtin.Slice.sliceApplied Builtin.Slice.sliceFields;refine bi (bi (cq b a (x:=vl) rfl (bi (cq b a (x:=vu) rfl (bi (cq b a (x:=.none) rfl (bw ?_)))))));refine bi (slicePart_none ?_);show wpAny _ _ (if ((1:Int) == 0)=true then _ else _) _ _ s;rw [if_neg (by decide)];refine bi (ğ pl (bi (ğ pu (bi (bw ?_)))))
 show wpAny _ _ (match Builtin.Slice.sliceAdjust lo hi 1 (n:Int) with | (lo,hi)=>pure (lo,(1:Int),Builtin.Slice.slicePlaces lo hi 1)) _ _ s
 rw [yec lo hi n];show wpAny _ _ (pure (((sIx n 0 lo:Nat):Int),(1:Int),Builtin.Slice.slicePlaces ((sIx n 0 lo:Nat):Int) ((sIx n n hi:Nat):Int) 1)) _ _ s;rw [yew];exact bw h
theorem ykj (xs:Array Value) (i k:Nat):((List.range k).filterMap fun (m:Nat)=>xs[((i:Int)+(m:Int) * 1).toNat]?).toArray=((xs.toList.drop i).take k).toArray:=by
 have e:(fun (m:Nat)=>xs[((i:Int)+(m:Int) * 1).toNat]?)=fun m=>xs[i+m]?:=by
  funext m
  have:((i:Int)+(m:Int) * 1).toNat=i+m:=by omega
  rw [this]
 rw [e];have:=pick_run xs i k;rw [List.filterMap_map] at this;have a:((fun x=>xs[x]?) ∘ fun x=>i+x)=fun m=>xs[i+m]?:=rfl;rw [a] at this;rw [this]
theorem getItem_tuple_cut {t sl:Addr} {items:Array Value} {vl vu:Value} {lo hi:Option Int} {Q:Value->Shared->Prop} (ht:IsTup s.heap t items) (hs:s.heap.IsSliceOf sl vl vu .none) (pl:IsPart vl lo) (pu:IsPart vu hi)
  (hw:¬ (sIx items.size 0 lo=0/\sIx items.size items.size hi=items.size))
  (h:Q (.ref s.heap.objs.size) { s with heap:=s.heap.push { cls:=.type "tuple",data:=.seq ((items.toList.drop (sIx items.size 0 lo)).take (sIx items.size items.size hi - sIx items.size 0 lo)).toArray } })
  (hsz:items.size <= sizeLine):wpAny (model prog w) A (getItem (.ref t) (.ref sl)) Q E s:=by
 have a:sizeOk (.seq ((items.toList.drop (sIx items.size 0 lo)).take (sIx items.size items.size hi - sIx items.size 0 lo)).toArray):=by
  show ((items.toList.drop (sIx items.size 0 lo)).take (sIx items.size items.size hi - sIx items.size 0 lo)).toArray.size <= sizeLine;rw [bD,bX,cM,cC];omega
 have j:sIx items.size items.size hi <= items.size:=yuq _ _ (bp _) hi;obtain ⟨g,d,c,f⟩:=id hs;have b:s.TypeIs (.ref sl) "slice":=⟨g,d,c⟩;unfold getItem
 try with_reducible refine wpAny_holding ?_
 first | refine bi (bw ?_) | skip
 refine bi (wpAny_sequenceKey ht.typeIs (by decide) ?_);refine bi (wpAny_callSpecial?_slot (name:=Str.ofString "__getitem__") ht.typeIs PyProof.Rows.slot_tuple_getitem
  (wpAny_call_entry PyProof.Rows.slot_tuple_getitem ht.typeIs entry_tuple_getitem ?_ (args_tuple_getitem _ _)))
 show wpAny _ _ (Builtin.Tuple.tupleItemsOf (.ref t) >>= _) _ _ s;refine bi (tupleItemsOf_ ht ?_);refine bi (wpAny_typeOf b ?_);rw [if_pos (by decide)];refine bi (zq hs pl pu ?_)
 have e:¬ ((((sIx items.size 0 lo:Nat):Int) == 0 && (1:Int) == 1 && (sIx items.size items.size hi - sIx items.size 0 lo) == items.size)=true):=by
  intro q;rw [bO,bO] at q;have k:((sIx items.size 0 lo:Nat):Int)=0:=eq_of_beq q.1.1;have i:sIx items.size items.size hi - sIx items.size 0 lo=items.size:=eq_of_beq q.2;exact hw ⟨by omega,by omega⟩
 show wpAny _ _ (if (((sIx items.size 0 lo:Nat):Int) == 0 && (1:Int) == 1 && (sIx items.size items.size hi - sIx items.size 0 lo) == items.size)=true then _ else _) _ _ s;rw [if_neg e,ykj]
 first
  | exact bi (m:=Builtin.Tuple.tupleExact _) (wpAny_newObj_type (bw ⟨_,rfl,bw h⟩) a)
  | exact bi (m:=Builtin.Tuple.tupleExact _) (wpAny_newObj_type (bi (bw (bw ⟨_,rfl,bw h⟩))) a)
  | exact bi (bi (m:=Builtin.Tuple.tupleExact _) (wpAny_newObj_type (bw (bw ⟨_,rfl,bw h⟩)) a))
  | exact bi (bi (m:=Builtin.Tuple.tupleExact _) (wpAny_newObj_type (bw ⟨_,rfl,bw h⟩) a))
end
end HT
namespace L2
open PySem PySem.Spec PyProof.Rows
variable {pins:List (Addr × Obj)} {v:Value}
abbrev TO:=St->Hp->(Option Int->Hp->Prop)->Prop
def PO (X:Cx) (e:Option Expr) (t:TO):Prop :=
 ∀ (pins:List (Addr × Obj)) (s:Shared) (σ:St) (H:Hp) (Q:Option Int->Hp->Prop),Inv X pins σ H s->t σ H Q ->
  wpAny (model X.prog X.w) X.A (evalPart e X.env) (fun u s'=>∃ o H',Inv X pins σ H' s'/\IsPart u o/\Q o H') X.xe s
def yg9:TO:=fun _ H Q=>Q none H
def yzz (t:TE):TO:=fun σ H Q=>t σ H fun x H1=>∃ i,x=.int i/\Q (some i) H1
section
variable {X:Cx} {e:Expr} {te:TE} {lo hi:Option Expr} {tl th:TO} {pos p2:Pos}
theorem jz:PO X none yg9:=by
 intro a s σ H Q I h;rw [evalPart_none];exact bw ⟨none,H,I,.none,h⟩
theorem jw (h:PE X e te):PO X (some e) (yzz te):=by
 intro a s σ H Q I c;rw [evalPart_some];refine thn (h a s σ H _ I c) fun u j h'=>?_;obtain ⟨x,f,d,b,g⟩:=h';obtain ⟨i,rfl,q⟩:=g;obtain ⟨t,rfl⟩:=b;exists some i,f,d,.int i t,q
def SlR (X:Cx) (r:V->Option Int->Option Int->Hp->VK->Prop):Prop :=
 ∀ (pins:List (Addr × Obj)) (s:Shared) (σ:St) (H:Hp) (x:V) (v vl vu:Value) (lo hi:Option Int) (sl:Addr) (Q:VK),Inv X pins σ H s->w8 x v->s.heap.IsSliceOf sl vl vu .none->IsPart vl lo->IsPart vu hi->r x lo hi H Q ->
  ∃ T id,typeLookup (.type T) "__getitem__"=pure (some (.builtin id))/\s.TypeIs v T/\wpAny (model X.prog X.w) X.A (getItem v (.ref sl)) (EP X pins σ Q) X.xe s
theorem SlR.or {r r':V->Option Int->Option Int->Hp->VK->Prop} (h:SlR X r) (h':SlR X r'):SlR X (fun x lo hi H Q=>r x lo hi H Q\/r' x lo hi H Q):=by
 intro a s σ H x v i c lo hi d Q I e g f b q;rcases q with q | q
 .exact h a s σ H x v i c lo hi d Q I e g f b q
 .exact h' a s σ H x v i c lo hi d Q I e g f b q
def tSl (r:V->Option Int->Option Int->Hp->VK->Prop) (te:TE) (tl th:TO):TE:=fun σ H Q=>te σ H fun x H1=>tl σ H1 fun l H2=>th σ H2 fun u H3=>r x l u H3 Q
theorem zj {r:V->Option Int->Option Int->Hp->VK->Prop} (hr:SlR X r) (he:PE X e te) (hl:PO X lo tl) (hu:PO X hi th):PE X (.Subscript e (.Slice lo hi none p2) pos) (tSl r te tl th):=by
 refine .mk fun a s σ H Q I h=>?_;refine Subscript_ (thn (he a s σ H _ I h) fun v B h'=>?_);obtain ⟨x,m,k,o,D⟩:=h';refine wpAny_Slice (thn (hl a B σ m _ k D) fun f F ⟨l,j,n,i,t⟩=>thn (hu a F σ j _ n t) fun d c h'=>?_);obtain ⟨u,g,C,p,z⟩:=h';rw [evalPart_none];refine bw ?_;have G:Inv X a σ g { c with heap:=c.heap.push { cls:=.type "slice",data:=.fields #[f,d,.none] } }:=C.kept (t':=c.toks) fun b K q=>bn _ q;obtain ⟨T,id,E,J,y⟩:=hr a { c with heap:=c.heap.push { cls:=.type "slice",data:=.fields #[f,d,.none] } } σ g x v f d l u c.heap.objs.size Q G o (Heap.IsSliceOf.new ..) i p z;show wpAny (model X.prog X.w) X.A (subscriptTail e (.Slice lo hi none p2) v (.ref c.heap.objs.size)) (EP X a σ Q) X.xe { c with heap:=c.heap.push { cls:=.type "slice",data:=.fields #[f,d,.none] } };exact tail_any (ops:=[.ref c.heap.objs.size,v]) J E y (by with_unfolding_all rfl)
def yd7 (xs:List V) (lo hi:Option Int):List V:=(xs.drop (HT.sIx xs.length 0 lo)).take (HT.sIx xs.length xs.length hi - HT.sIx xs.length 0 lo)
theorem ë (xs:List V) (lo hi:Option Int):(yd7 xs lo hi).length <= xs.length:=by
 unfold yd7;rw [bX,cM];omega
def vej (K:W.Frag):V->Option Int->Option Int->Hp->VK->Prop:=fun x lo hi H Q=>∃ a xs,x=.ref a/\SqT K H a xs /\
 ¬ (HT.sIx xs.length 0 lo=0/\HT.sIx xs.length xs.length hi=xs.length)/\∀ p,H p=none->Q (.ref p) (upd H p (.tup (yd7 xs lo hi)))
theorem ywu:SlR X (vej X.K):=by
 intro j s σ H x v z u lo e w Q I m t n k h;obtain ⟨a,d,rfl,p,l,q⟩:=h;cases m;obtain ⟨f,r,g,i⟩:=I.tuple p;have c:f.toArray.size=d.length:=by rw [bD]; exact r.length.symm
 refine ⟨"tuple",_,PyProof.Rows.slot_tuple_getitem.lookup,g.typeIs,?_⟩;refine HT.getItem_tuple_cut g t n k (by rw [c]; exact l) ?_ (by rw [c]; exact i);rw [c];exists .ref s.heap.objs.size,_,I.laid (t':=s.toks) (o:=.tup (yd7 d lo e)) (fun b y q=>bn _ q) (bp _) ?_,rfl,q _ (I.hok.fresh (bp _));exists bN (ë d lo e) i,_,(r.drop (HT.sIx d.length 0 lo)).take (HT.sIx d.length d.length e - HT.sIx d.length 0 lo),IsTup.new _ _
end
def ixN (n:Nat) (i:Int):Option Nat:=if 0 <= i then (if i < n then some i.toNat else none) else if -(n:Int) <= i then some (i+n).toNat else none
def atI {α:Type} (xs:List α) (i:Int):Option α:=(ixN xs.length i).bind fun j=>xs[j]?
theorem yqe {n:Nat} {i:Int} {j:Nat} (h:ixN n i=some j):seqIndex? i n=some j/\j < n/\-(n:Int) <= i/\i < n:=by
 unfold ixN at h;by_cases h0:0 <= i
 .rw [if_pos h0] at h;by_cases h1:i < n
  .rw [if_pos h1] at h;have e:i.toNat=j:=bF h;exists by rw [seqIndex_of h0 h1,e],by omega,by omega,h1
  .rw [if_neg h1] at h; cases h
 .rw [if_neg h0] at h;by_cases h1:-(n:Int) <= i
  .rw [if_pos h1] at h;have e:(i+n).toNat=j:=bF h;exists by rw [seqIndex_neg (by omega) h1,e],by omega,h1,by omega
  .rw [if_neg h1] at h; cases h
theorem yhj {α:Type} {xs:List α} {i:Int} {v:α} (h:atI xs i=some v):∃ j,seqIndex? i xs.length=some j/\xs[j]?=some v/\j < xs.length/\-(xs.length:Int) <= i/\i < xs.length:=by
 unfold atI at h
 cases e:ixN xs.length i with
 | none=>rw [e] at h; cases h
 | some j =>
  rw [e] at h;obtain ⟨c,b,a,d⟩:=yqe e;exists j,c,h,b,a,d
theorem xr {α:Type} {xs:List α} {j:Nat} {v:α} (h:xs[j]?=some v):atI xs (j:Int)=some v:=by
 have a:j < xs.length:=(bM.mp h).1
 have e:ixN xs.length (j:Int)=some j:=by
  unfold ixN;rw [if_pos (by omega),if_pos (by omega)]; simp
 unfold atI; rw [e]; exact h
def yo9 (b:Expr):Prop:=∀ o i,subscripted b false o i=operate [o,i] (getItem o i)
def IxR (X:Cx) (r:R2):Prop :=
 ∀ (value slice:Expr) (pins:List (Addr × Obj)) (s:Shared) (σ:St) (H:Hp) (x y:V) (v u:Value) (Q:VK),Inv X pins σ H s->w8 x v->w8 y u->r x y H Q ->
  subscripted slice false v u=operate [v,u] (getItem v u)->wpAny (model X.prog X.w) X.A (subscriptTail value slice v u) (EP X pins σ Q) X.xe s
def MtR (X:Cx) (id:String) (r:V->List V->Hp->VK->Prop):Prop :=
 ∀ (pins:List (Addr × Obj)) (s:Shared) (σ:St) (H:Hp) (x:V) (xs:List V) (v:Value) (us:List Value) (Q:VK),Inv X pins σ H s->w8 x v->wd xs us->r x xs H Q ->
  wpAny (model X.prog X.w) X.A (call (.builtin id) (v :: us)) (EP X pins σ Q) X.xe s
section
variable {X:Cx} {a b:Expr} {ta tb:TE} {pos:Pos}
theorem IxR.or {r r':R2} (h:IxR X r) (h':IxR X r'):IxR X (fun x y H Q=>r x y H Q\/r' x y H Q):=by
 intro a b c s σ H x y v u Q I d e q f;rcases q with q | q
 .exact h a b c s σ H x y v u Q I d e q f
 .exact h' a b c s σ H x y v u Q I d e q f
theorem MtR.or {id:String} {r r':V->List V->Hp->VK->Prop} (h:MtR X id r) (h':MtR X id r'):MtR X id (fun x xs H Q=>r x xs H Q\/r' x xs H Q):=by
 intro a s σ H x xs v c Q I b d q;rcases q with q | q
 .exact h a s σ H x xs v c Q I b d q
 .exact h' a s σ H x xs v c Q I b d q
theorem ut {r:R2} (hr:IxR X r) (ha:PE X a ta) (hb:PE X b tb) (hs:yo9 b):PE X (.Subscript a b pos) (tOp r ta tb):=by
 refine .mk fun c s σ H Q I h=>?_;exact Subscript_ (vaq ha hb I h fun v u e x y f i d g q=>hr a b c e σ f x y v u Q i d g q (hs _ _))
def vdy (K:W.Frag):R2:=fun x y H Q=>∃ p xs i v,x=.ref p/\y=.int i/\SqL K H p xs/\atI xs i=some v/\Q v H
def yn5 (K:W.Frag):R2:=fun x y H Q=>∃ p xs i v,x=.ref p/\y=.int i/\SqT K H p xs/\atI xs i=some v/\Q v H
theorem j4:IxR X (vdy X.K):=by
 intro f l a s σ H x y v u Q I E F h n;obtain ⟨p,M,i,z,rfl,rfl,C,A,q⟩:=h;cases E;obtain ⟨t,rfl⟩:=F;obtain ⟨g,r,d,O⟩:=I.list C;obtain ⟨j,c,B,L,G,J⟩:=yhj A;obtain ⟨w,m,e⟩:=r.get B;have D:=r.length;have N:=yas;have b:EP X a σ Q w s:=⟨z,H,I,e,q⟩;by_cases h0:0 <= i
 .have k:i.toNat=j:=by
   rw [seqIndex_of h0 J] at c;exact bF c
  exact item_listR d.isList h0 (by omega) (by rw [k]; simpa using m) b n
 .have k:(i+(g.toArray.size:Int)).toNat=j:=by
   rw [seqIndex_neg (by omega) G] at c;rw [bD,<- D];exact bF c
  exact subscriptTail_builtinR (x:=w) d.isList.typeIs slot_list_getitem.lookup
   (wpAny_getItem_list_neg (Q:=fun r o=>r=w/\EP X a σ Q r o) d.isList (by omega) (by rw [bD] <;> omega) (by omega) (by rw [k]; simpa using m) ⟨rfl,b⟩) n
theorem uh:IxR X (yn5 X.K):=by
 intro c e a s σ H x y v u Q I B D h E;obtain ⟨p,G,i,z,rfl,rfl,n,k,q⟩:=h;cases B;obtain ⟨t,rfl⟩:=D;obtain ⟨m,r,f,L⟩:=I.tuple n;obtain ⟨j,A,l,F,M,N⟩:=yhj k;obtain ⟨w,C,b⟩:=r.get l;have o:=r.length;have J:=yas;have d:EP X a σ Q w s:=⟨z,H,I,b,q⟩;exact subscriptTail_builtinR (x:=w) f.typeIs slot_tuple_getitem.lookup
  (getItem_tuple (j:=j) (Q:=fun r g=>r=w/\EP X a σ Q r g) f (by omega) (by omega) (by rw [bD,<- o]; exact A) (by simpa using C) ⟨rfl,d⟩) E
theorem Inv.lst {σ:St} {H:Hp} {s:Shared} {p:Addr} {xs:List V} (I:Inv X pins σ H s) (h:H p=some (.lst xs)) :
  ∃ (its:List Value) (n:Nat),wd xs its/\s.heap.get? p=some { cls:=.type "list",data:=.seq its.toArray n }/\xs.length <= sizeLine:=by
 obtain ⟨z,its,n,r,e⟩:=I.hok p _ h;exists its,n,r,e,z
theorem ů (lo hi:Option Int) (n:Nat):(sliceBounds lo hi none n).1=((HT.sIx n 0 lo:Nat):Int)/\(sliceBounds lo hi none n).2.1=((HT.sIx n n hi:Nat):Int)/\(sliceBounds lo hi none n).2.2=1:=by
 exists ?_,?_,rfl
 .cases lo with
  | none=>simp [sliceBounds,HT.sIx]
  | some i =>
   simp only [sliceBounds,HT.sIx,Option.getD_none,show (1:Int) > 0 by decide,if_true];by_cases h:i < 0
   .simp only [h,if_true] <;> omega
   .simp only [h,if_false] <;> omega
 .cases hi with
  | none=>simp [sliceBounds,HT.sIx]
  | some i =>
   simp only [sliceBounds,HT.sIx,Option.getD_none,show (1:Int) > 0 by decide,if_true];by_cases h:i < 0
   .simp only [h,if_true] <;> omega
   .simp only [h,if_false] <;> omega
theorem Ĳ (its:List Value) (lo hi:Option Int):slicePick its.toArray lo hi none=((its.drop (HT.sIx its.length 0 lo)).take (HT.sIx its.length its.length hi - HT.sIx its.length 0 lo)).toArray:=by
 obtain ⟨c,b,a⟩:=ů lo hi its.toArray.size;unfold slicePick;rw [c,b,a];simp only [sliceRange_one,pick_run,bD] <;> rfl
def vds (K:W.Frag):V->Option Int->Option Int->Hp->VK->Prop:=fun x lo hi H Q=>∃ a xs,x=.ref a/\SqL K H a xs/\∀ p,H p=none->Q (.ref p) (upd H p (.lst (yd7 xs lo hi)))
theorem ť:SlR X (vds X.K):=by
 intro g s σ H x v y t lo e u Q I j n k i h;obtain ⟨a,c,rfl,l,q⟩:=h;cases j;obtain ⟨m,r,f,p⟩:=I.list l;have d:=r.length;refine ⟨"list",_,slot_list_getitem.lookup,f.isList.typeIs,?_⟩;refine wpAny_getItem_list_slice f.isList n k i .none (by simp) ?_ (by rw [bD] <;> omega);rw [Ĳ,<- d];exists .ref s.heap.objs.size,_,I.laid (t':=s.toks) (o:=.lst (yd7 c lo e)) (fun b w q=>bn _ q) (bp _) ?_,rfl,q _ (I.hok.fresh (bp _));exists bN (ë c lo e) p,_,0,(r.drop (HT.sIx c.length 0 lo)).take (HT.sIx c.length c.length e - HT.sIx c.length 0 lo),bC _ rfl
def Ē:V->Bool
 | .non=>true
 | .bl _=>true
 | .int _=>true
 | .str _=>true
 | _=>false
def eqV:V->V->Bool
 | .non,.non=>true
 | .bl a,.bl b=>a == b
 | .bl a,.int b=>(if a then 1 else 0) == b
 | .int a,.bl b=>a == (if b then 1 else 0)
 | .int a,.int b=>a == b
 | .str a,.str b=>a == b
 | _,_=>false
theorem yzb {A:Around} {s:Shared} {y x:V} {u:Value} (ry:w8 y u) (rx:w8 x v) (fy:Ē y=true) (fx:Ē x=true):SeqAt.EqAt A s u v (eqV y x):=by
 cases y with
 | non =>
  cases ry
  cases x with
  | non=>cases rx; exact SeqAt.EqAt.same _
  | bl b=>cases rx; exact SeqAt.EqAt.none_bool b
  | int b=>obtain ⟨t,rfl⟩:=rx; exact SeqAt.EqAt.none_int b t
  | str b=>obtain ⟨t,rfl⟩:=rx; exact SeqAt.EqAt.none_str b t
  | _=>exact absurd (show false=true from fx) bE
 | bl a =>
  cases ry
  cases x with
  | non=>cases rx; exact SeqAt.EqAt.bool_none a
  | bl b=>cases rx; exact SeqAt.EqAt.bool_bool a b
  | int b=>obtain ⟨t,rfl⟩:=rx; exact SeqAt.EqAt.bool_int a b t
  | str b=>obtain ⟨t,rfl⟩:=rx; exact SeqAt.EqAt.bool_str a b t
  | _=>exact absurd (show false=true from fx) bE
 | int a =>
  obtain ⟨c,rfl⟩:=ry
  cases x with
  | non=>cases rx; exact SeqAt.EqAt.int_none a c
  | bl b=>cases rx; exact SeqAt.EqAt.int_bool a c b
  | int b=>obtain ⟨t,rfl⟩:=rx; exact SeqAt.EqAt.int_int a c b t
  | str b=>obtain ⟨t,rfl⟩:=rx; exact SeqAt.EqAt.int_str a c b t
  | _=>exact absurd (show false=true from fx) bE
 | str a =>
  obtain ⟨c,rfl⟩:=ry
  cases x with
  | non=>cases rx; exact SeqAt.EqAt.str_none a c
  | bl b=>cases rx; exact SeqAt.EqAt.str_bool a c b
  | int b=>obtain ⟨t,rfl⟩:=rx; exact SeqAt.EqAt.str_int a c b t
  | str b=>obtain ⟨t,rfl⟩:=rx; exact SeqAt.EqAt.str_str a c b t
  | _=>exact absurd (show false=true from fx) bE
 | _=>exact absurd (show false=true from fy) bE
def eqU (x:V) (u:Value):Bool:=match u with
 | .none=>eqV .non x
 | .bool b=>eqV (.bl b) x
 | .int i _=>eqV (.int i) x
 | .str z _=>eqV (.str z) x
 | _=>false
theorem yno {x y:V} {u:Value} (r:w8 y u) (f:Ē y=true):eqU x u=eqV y x:=by
 cases y with
 | non=>cases r; rfl
 | bl b=>cases r; rfl
 | int i=>obtain ⟨t,rfl⟩:=r; rfl
 | str z=>obtain ⟨t,rfl⟩:=r; rfl
 | _=>exact absurd (show false=true from f) bE
theorem ø {x:V}:∀ {xs:List V} {us:List Value},wd xs us->xs.all Ē=true->us.any (eqU x)=xs.any fun y=>eqV y x
 | _,_,.nil,_=>rfl
 | y :: xs,u :: us,.cons r t,f=>by
  rw [List.all_cons,bO] at f;rw [List.any_cons,List.any_cons,yno r f.1,ø t f.2]
theorem ο {A:Around} {s:Shared} {x:V} (rx:w8 x v) (fx:Ē x=true):∀ {xs:List V} {us:List Value},wd xs us->xs.all Ē=true->∀ u∈us,SeqAt.EqAt A s u v (eqU x u)
 | _,_,.nil,_=>fun u a=>by cases a
 | y :: xs,u :: us,.cons r t,f=>fun b a=>by
  rw [List.all_cons,bO] at f;rcases bB.mp a with rfl | a
  .rw [yno r f.1]; exact yzb r rx f.1 fx
  .exact ο rx fx t f.2 b a
def inV (x:V) (xs:List V):Bool:=xs.any fun y=>eqV y x
def rIn (K:W.Frag) (neg:Bool):R2:=fun x y H Q=>∃ p xs,y=.ref p/\(SqL K H p xs\/SqT K H p xs)/\Ē x=true/\xs.all Ē=true/\Q (.bl (if neg then !inV x xs else inV x xs)) H
theorem õ:OpR X (compareOp .In) (rIn X.K false):=by
 intro i s σ H x y v u Q I f j h;obtain ⟨p,l,rfl,b,g,c,q⟩:=h;cases j;rcases b with b | b
 .obtain ⟨a,r,e,k⟩:=I.list b;refine SeqAt.in_listAt (eqU x) e.isList (fun w d=>ο f g r c w (by simpa using d)) ⟨.bl _,H,I,rfl,?_⟩;rw [show a.toArray.any (eqU x)=a.any (eqU x) by simp,ø r c];exact q
 .obtain ⟨a,r,e,k⟩:=I.tuple b;refine SeqAt.in_tupleAt (eqU x) e (fun w d=>ο f g r c w (by simpa using d)) ⟨.bl _,H,I,rfl,?_⟩;rw [show a.toArray.any (eqU x)=a.any (eqU x) by simp,ø r c];exact q
theorem Ŷ:OpR X (compareOp .NotIn) (rIn X.K true):=by
 intro i s σ H x y v u Q I f j h;obtain ⟨p,l,rfl,b,g,c,q⟩:=h;cases j;rcases b with b | b
 .obtain ⟨a,r,e,k⟩:=I.list b;refine SeqAt.notIn_listAt (eqU x) e.isList (fun w d=>ο f g r c w (by simpa using d)) ⟨.bl _,H,I,rfl,?_⟩;rw [show a.toArray.any (eqU x)=a.any (eqU x) by simp,ø r c];exact q
 .obtain ⟨a,r,e,k⟩:=I.tuple b;refine SeqAt.notIn_tupleAt (eqU x) e (fun w d=>ο f g r c w (by simpa using d)) ⟨.bl _,H,I,rfl,?_⟩;rw [show a.toArray.any (eqU x)=a.any (eqU x) by simp,ø r c];exact q
theorem yo:uu X (.builtin "len") (fun xs H Q=>∃ p ys,xs=[.ref p]/\(SqL X.K H p ys\/SqT X.K H p ys)/\Q (.int ys.length) H):=by
 intro f s σ H xs k Q I r h;obtain ⟨p,ys,rfl,b,q⟩:=h;obtain ⟨u,rfl,g⟩:=Ā r;cases g;have j:=yas;rcases b with b | b
 .obtain ⟨d,e,c,i⟩:=I.list b;have a:=e.length;exact Calls.call_len_list c.isList (by simp only [bD] <;> omega) ⟨.int ys.length,H,I.tok _,⟨s.toks+1,by rw [bD,a]⟩,q⟩
 .obtain ⟨d,e,c,i⟩:=I.tuple b;have a:=e.length;exact len_tuple c (by simp only [bD] <;> omega) ⟨.int ys.length,H,I.tok _,⟨s.toks+1,by rw [bD,a]⟩,q⟩
theorem uf:uu X (.builtin "len") (fun xs H Q=>∃ z,xs=[.str z]/\z.length <= sizeLine/\Q (.int z.length) H):=by
 intro a s σ H xs c Q I r h;obtain ⟨z,rfl,d,q⟩:=h;obtain ⟨u,rfl,t,rfl⟩:=Ā r;have b:=yas;exact len_str (by omega) ⟨.int z.length,H,I.tok _,⟨_,rfl⟩,q⟩
theorem uu.or {f:Value} {r r':List V->Hp->VK->Prop} (h:uu X f r) (h':uu X f r'):uu X f (fun xs H Q=>r xs H Q\/r' xs H Q):=by
 intro a s σ H xs b Q I c q;rcases q with q | q
 .exact h a s σ H xs b Q I c q
 .exact h' a s σ H xs b Q I c q
theorem wo:uu X (.type "list") (fun xs H Q=>∃ p ys,xs=[.ref p]/\(SqL X.K H p ys\/SqT X.K H p ys)/\∀ l,H l=none->Q (.ref l) (upd H l (.lst ys))):=by
 intro m s σ H xs B Q I r h;obtain ⟨p,ys,rfl,i,q⟩:=h;obtain ⟨u,rfl,A⟩:=Ā r;cases A;have t:∀ (a:List Value),wd ys a->ys.length <= sizeLine->∀ (c:Heap) (f:Nat),(∀ b o',s.heap.get? b=some o'->c.get? b=some o') ->
   c.get? s.heap.objs.size=some { cls:=.type "list",dict:=none,data:=.seq a.toArray f,slots:=#[] }->EP X m σ Q (.ref s.heap.objs.size) { s with heap:=c }:=fun a d k c f j e =>
  ⟨.ref s.heap.objs.size,_,I.laid (t':=s.toks) j (bp _) (show xc X.prog X.w _ c _ (.lst ys) from ⟨k,a,f,d,e⟩),rfl,q _ (I.hok.fresh (bp _))⟩
 rcases i with i | i
 .obtain ⟨a,d,x,k⟩:=I.list i;have g:=d.length;obtain ⟨o,z,v,n,y⟩:=x.isList;exact call_list_seq p (.inl rfl) z v y (fun c f j e=>t a d k c f j e) (by simp only [bD] <;> omega)
 .obtain ⟨a,d,x,k⟩:=I.tuple i;have g:=d.length;obtain ⟨o,z,v,n,y⟩:=x;exact call_list_seq p (.inr rfl) z v y (fun c f j e=>t a d k c f j e) (by simp only [bD] <;> omega)
theorem ı:uu X (.type "tuple") (fun xs H Q=>∃ p ys,xs=[.ref p]/\((SqL X.K H p ys/\∀ l,H l=none->Q (.ref l) (upd H l (.tup ys)))\/(SqT X.K H p ys/\Q (.ref p) H))):=by
 intro a s σ H xs x Q I r h;obtain ⟨p,ys,rfl,h⟩:=h;obtain ⟨u,rfl,n⟩:=Ā r;cases n;rcases h with ⟨g,q⟩ | ⟨g,q⟩
 .obtain ⟨c,i,f,m⟩:=I.list g;have j:=i.length;refine call_tuple_list f.isList (fun d t=>?_) (by simp only [bD] <;> omega);have k:Inv X a σ H { s with heap:=d }:=I.kept (t':=s.toks) t
  have v:Inv X a σ (upd H d.objs.size (.tup ys)) { s with heap:=d.push { cls:=.type "tuple",data:=.seq c.toArray } } :=
   k.laid (t':=s.toks) (fun b o e=>bn _ e) (bp _) (show xc X.prog X.w _ _ _ (.tup ys) from ⟨m,c,i,IsTup.new _ _⟩)
  exists .ref d.objs.size,_,v,rfl,q _ (k.hok.fresh (bp _))
 .obtain ⟨c,i,f,m⟩:=I.tuple g;exact call_tuple_same f ⟨.ref p,H,I,rfl,q⟩
def tyV (K:W.Frag) (T:String) (x:V) (H:Hp):Prop:=match x with
 | .str _=>T="str"
 | .int _=>T="int"
 | .ref p=>(T="list"/\∃ xs,SqL K H p xs)\/(T="tuple"/\∃ o,K.lookup p=some o/\o.cls=.type "tuple"/\o.dict=none) \/
   (T="dict"/\((∃ kvs,H p=some (.dK kvs))\/∃ kvs,H p=some (.dT kvs)))\/(T="set"/\∃ S n,H p=some (.set S n))
 | _=>False
theorem ym9 {σ:St} {H:Hp} {s:Shared} {T:String} {x:V} (I:Inv X pins σ H s) (r:w8 x v) (ty:tyV X.K T x H) :
  s.TypeIs v T/\∀ a,v=.ref a->∃ ob,s.heap.get? a=some ob/\ob.dict=none:=by
 cases x with
 | str z =>
  obtain ⟨t,rfl⟩:=r;cases (show T="str" from ty)
  exists typeIs_str s z t,fun _ e=>nomatch e
 | int i =>
  obtain ⟨t,rfl⟩:=r;cases (show T="int" from ty)
  exists typeIs_int s i t,fun _ e=>nomatch e
 | ref p =>
  cases r;rcases ty with ⟨rfl,q,m⟩ | ⟨rfl,o,b,k,f⟩ | ⟨rfl,b⟩ | ⟨rfl,S,n,b⟩
  .obtain ⟨l,_,j,_⟩:=I.list m;exists j.isList.typeIs,fun a e=>?_;cases e;obtain ⟨o,n,e,c,f,_⟩:=j;exact ⟨o,e,f⟩
  .exists ⟨o,I.kIn p o b,k⟩,fun a e=>?_;cases e;exists o,I.kIn _ o b,f
  .have z:∃ o,s.heap.get? p=some o/\o.ExactDict:=by
    rcases b with ⟨h,b⟩ | ⟨h,b⟩
    .obtain ⟨_,_,_,_,o,_,_,e,d,_⟩:=I.hok p _ b;exact ⟨o,e,d⟩
    .obtain ⟨_,_,_,_,o,_,_,e,d,_⟩:=I.hok p _ b;exact ⟨o,e,d⟩
   obtain ⟨o,e,d⟩:=z;exists ⟨o,e,d.1⟩,fun a g=>?_;cases g;exact ⟨o,e,d.2.1⟩
  .obtain ⟨o,_,_,_,e,d,_⟩:=I.hok p _ b;exists ⟨o,e,d.1⟩,fun a g=>?_;cases g;exact ⟨o,e,d.2.1⟩
 | _=>exact False.elim ty
def vdn (K:W.Frag) (T:String) (r:V->List V->Hp->VK->Prop) (to:TE):TE:=fun σ H Q=>to σ H fun x H1=>tyV K T x H1/\r x [] H1 Q
def tBM (K:W.Frag) (T:String) (r:V->List V->Hp->VK->Prop) (to:TE) (t:TA):TE:=fun σ H Q=>to σ H fun x H1=>tyV K T x H1/\t σ H1 fun xs H2=>r x xs H2 Q
variable {o e:Expr} {es:List Expr} {to:TE} {t:TA} {name:Str} {apos cpos:Pos} {T id:String} {r:V->List V->Hp->VK->Prop}
theorem yd5 (pa:PlainAttrs T) (slot:Slot T name id) (hty:typeOf (.builtin id)=pure (.type "method_descriptor")) (hm:MtR X id r) (ho:PE X o to)
  (hbase:attributeBase o name X.env (eval o X.env)=eval o X.env:=by rfl) (hline:(apos.endLine == cpos.line)=true:=by rfl):PE X (.Call (.Attribute o name apos) [] [] cpos) (vdn X.K T r to):=by
 refine .mk fun a s σ H Q I h=>?_;refine wpAny_Call_method0_late hbase hline (thn (ho a s σ H _ I h) fun v e h'=>?_);obtain ⟨x,i,c,b,d,f⟩:=h';obtain ⟨g,j⟩:=ym9 c b d;exists T,id,pa,slot,hty,g,j,Calls.callWith_builtin rfl (PySem.evalArgs_none (hm a e σ i x [] v [] Q c b .nil f))
theorem ue (pa:PlainAttrs T) (slot:Slot T name id) (hty:typeOf (.builtin id)=pure (.type "method_descriptor")) (hm:MtR X id r) (ho:PE X o to) (ha:PA X (e :: es) t)
  (hbase:attributeBase o name X.env (eval o X.env)=eval o X.env:=by rfl)
  (hfew:((backTo cpos (starEach (e :: es) X.env)).all (fun x=>!x.1) && (backToKw cpos (keywordEach [] X.env)).all (fun x=>x.1.isSome)
   && decide ((e :: es).length+([]:List Keyword).length+(if ([]:List Keyword).isEmpty then 0 else 1) < 30))=true:=by rfl)
  (hline:(apos.endLine == cpos.line)=true:=by rfl) (hs:starEach (e :: es) X.env=(false,eval e X.env) :: starEach es X.env:=by rfl) (hplain:(backTo cpos (starEach es X.env)).any (·.1)=false:=by rfl) :
  PE X (.Call (.Attribute o name apos) (e :: es) [] cpos) (tBM X.K T r to t):=by
 refine .mk fun a s σ H Q I h=>?_;refine wpAny_Call_method_late hbase hfew hline rfl (thn (ho a s σ H _ I h) fun v g h'=>?_);obtain ⟨x,w,c,b,f,p⟩:=h';obtain ⟨u,y⟩:=ym9 c b f;exists T,id,pa,slot,hty,u,y,?_;have d:=ha cpos a g σ w _ c p;rw [hs] at d ⊢;refine Calls.callWith_builtin (by show (false || (backTo cpos (starEach es X.env)).any (·.1))=false; rw [hplain] <;> rfl) (Calls.evalArgs_plain ?_);exact thn d fun l n ⟨j,q,k,i,m⟩=>hm a n σ q x j v l Q k b i m
end
def MtM (X:Cx) (id:String) (r:V->List V->Hp->VK->Prop):Prop :=
 ∀ (pins:List (Addr × Obj)) (s:Shared) (σ:St) (H:Hp) (x:V) (xs:List V) (v:Value) (us:List Value) (Q:VK),Inv X pins σ H s->w8 x v->wd xs us->r x xs H Q ->
  wpAny (model X.prog X.w) X.A (call (.builtin id) (v :: us)) (EP X pins σ Q) X.xe s
theorem wd.one:∀ {x:V} {us:List Value},wd [x] us->∃ u,us=[u]/\w8 x u
 | _,_,.cons r .nil=>⟨_,rfl,r⟩
theorem wd.two:∀ {x y:V} {us:List Value},wd [x,y] us->∃ u v,us=[u,v]/\w8 x u/\w8 y v
 | _,_,_,.cons r (.cons q .nil)=>⟨_,_,rfl,r,q⟩
theorem wd.zero:∀ {us:List Value},wd [] us->us=[]
 | _,.nil=>rfl
theorem wd.reverse {xs:List V} {us:List Value} (h:wd xs us):wd xs.reverse us.reverse:=by
 induction h with
 | nil=>exact .nil
 | cons r t ih=>rw [List.reverse_cons,List.reverse_cons]; exact wd.append ih (.cons r .nil)
theorem wd.rep {xs:List V} {us:List Value} (h:wd xs us):∀ k:Nat,wd (List.replicate k xs).flatten (List.replicate k us).flatten
 | 0=>.nil
 | k+1=>by
  rw [ci,ci,List.flatten_cons,List.flatten_cons];exact wd.append h (wd.rep h k)
theorem ſ (its:List Value):∀ (k:Nat) (acc:List Value),
  List.foldl (fun x1 x2=>x1++x2) acc.toArray (List.replicate k its.toArray)=(acc++(List.replicate k its).flatten).toArray
 | 0,acc=>by simp
 | k+1,acc=>by
  have e:acc.toArray++its.toArray=(acc++its).toArray:=by simp
  have a:(acc++its)++(List.replicate k its).flatten=acc++(List.replicate (k+1) its).flatten:=by
   rw [ci,List.flatten_cons,bR]
  rw [<- a,<- ſ its k (acc++its),<- e,ci,List.foldl_cons]
section
variable {X:Cx} {σ:St} {H:Hp} {s:Shared} {l b:Addr} {xs ys zs:List V}
theorem Inv.lset {its its':List Value} {n:Nat} {f:Array Value->Array Value} {t':Nat} (I:Inv X pins σ H s) (hH:H l=some (.lst xs))
  (e:s.heap.get? l=some { cls:=.type "list",data:=.seq its.toArray n }) (hf:f its.toArray=its'.toArray) (hv:wd ys its') (hz:ys.length <= sizeLine) :
  Inv X pins σ (upd H l (.lst ys)) { s with heap:=s.heap.update l (Obj.mapSeq f),toks:=t' }:=by
 have q:=PySem.IsL.update e f;rw [hf] at q;refine I.write (x:=l) (e:=l) (by rw [hH]; exact trivial) (.inl rfl) (fun c u b a=>(Heap.get?_update_other s.heap (Obj.mapSeq f) (Ne.symm b)).trans a) ⟨_,q⟩ ?_;exists hz,its',_,hv,q
theorem Inv.lnew {its:List Value} {t':Nat} (I:Inv X pins σ H s) (hv:wd ys its) (hz:ys.length <= sizeLine) :
  Inv X pins σ (upd H s.heap.objs.size (.lst ys)) { s with heap:=s.heap.push { cls:=.type "list",data:=.seq its.toArray },toks:=t' } :=
 I.laid (fun _ _ q=>bn _ q) (bp _) ⟨hz,its,0,hv,bC _ rfl⟩
theorem Inv.fresh (I:Inv X pins σ H s):H s.heap.objs.size=none:=I.hok.fresh (bp _)
theorem Inv.lstM (I:Inv X pins σ H s) (hH:H l=some (.lst xs)):xs.length <= sizeLine/\∃ (its:List Value) (n:Nat),wd xs its/\xs.length=its.length/\s.heap.get? l=some { cls:=.type "list",data:=.seq its.toArray n }:=by
 obtain ⟨z,its,n,r,e⟩:=I.hok l _ hH;exists z,its,n,r,r.length,e
theorem ydh {n:Nat} (h:n <= sizeLine):Builtin.List.listTooLong n=false:=by
 unfold Builtin.List.listTooLong;exact bA (by omega)
end
section
variable {X:Cx}
def yhq:V->List V->Hp->VK->Prop:=fun x vs H Q=>∃ l xs y,x=.ref l/\vs=[y]/\H l=some (.lst xs)/\xs.length < sizeLine/\Q .non (upd H l (.lst (xs++[y])))
theorem v7:MtM X "list.append" yhq:=by
 intro b s σ H x i v j Q I d f h;obtain ⟨l,o,y,rfl,rfl,c,m,q⟩:=h;cases d;obtain ⟨u,rfl,g⟩:=f.one;obtain ⟨z,a,n,r,k,e⟩:=I.lstM c;refine call_meets F.slot_list_append ⟨_,e,rfl⟩ F.entry_list_append (F.args_list_append_2 _ _) (PySem.list_append l a.toArray n u (by rw [bD]; omega)) ⟨e,?_⟩;exists .non,_,I.lset (its':=a++[u]) c e (by simp) (r.append (.cons g .nil)) ?_,rfl,q;rw [bj,cF];omega
def yqj:V->List V->Hp->VK->Prop:=fun x vs H Q=>∃ l b xs zs,x=.ref l/\vs=[.ref b]/\H l=some (.lst xs)/\H b=some (.lst zs)/\xs.length+zs.length <= sizeLine/\Q .non (upd H l (.lst (xs++zs)))
theorem ι:MtM X "list.extend" yqj:=by
 intro i s σ H x A v D Q I w m h;obtain ⟨l,b,C,G,rfl,rfl,g,j,J,q⟩:=h;cases w;obtain ⟨u,rfl,y⟩:=m.one;cases y;obtain ⟨z,c,n,r,E,e⟩:=I.lstM g;obtain ⟨B,a,t,k,p,o⟩:=I.lstM j;have f:c.toArray.size+a.toArray.size <= sizeLine:=by rw [bD,bD]; omega
 have d:¬ (!c.toArray.isEmpty && Builtin.List.listTooLong (c.toArray.size+a.toArray.size))=true:=by
  rw [ydh f,Bool.and_false];exact bE
 refine call_meets F.slot_list_extend ⟨_,e,rfl⟩ F.entry_list_extend (F.args_list_extend_2 _ _)
  (AutoSeq1.list_extend_list_list_0 l c.toArray n b a.toArray t d (by rw [bD]; omega) (by omega)) ⟨e,o,?_⟩
 exists .non,_,I.lset (its':=c++a) g e (by simp) (r.append k) ?_,rfl,q;rw [bj];omega
def ydj:V->List V->Hp->VK->Prop:=fun x vs H Q=>∃ l xs,x=.ref l/\vs=[]/\H l=some (.lst xs)/\Q .non (upd H l (.lst xs.reverse))
theorem Ġ:MtM X "list.reverse" ydj:=by
 intro c s σ H x i v j Q I f g h;obtain ⟨l,m,rfl,rfl,d,q⟩:=h;cases f;have b:=g.zero;subst b;obtain ⟨z,a,n,r,k,e⟩:=I.lstM d;refine call_meets F.slot_list_reverse ⟨_,e,rfl⟩ F.entry_list_reverse (F.args_list_reverse_1 _) (AutoSeq1.list_reverse_list_0 l a.toArray n (by rw [bD]; omega)) ⟨e,?_⟩;exists .non,_,I.lset (its':=a.reverse) d e (by simp) r.reverse ?_,rfl,q;rw [List.length_reverse];omega
def yxn:V->List V->Hp->VK->Prop:=fun x vs H Q=>∃ l xs,x=.ref l/\vs=[]/\H l=some (.lst xs)/\Q .non (upd H l (.lst []))
theorem yko:MtM X "list.clear" yxn:=by
 intro c s σ H x i v j Q I f g h;obtain ⟨l,m,rfl,rfl,d,q⟩:=h;cases f;have a:=g.zero;subst a;obtain ⟨z,b,n,r,k,e⟩:=I.lstM d;refine call_meets F.slot_list_clear ⟨_,e,rfl⟩ F.entry_list_clear (F.args_list_clear_1 _) (AutoSeq1.list_clear_list_0 l b.toArray n (by rw [bD]; omega)) ⟨e,?_⟩;exists .non,_,I.lset (its':=[]) (ys:=[]) d e rfl .nil (bL _),rfl,q
def veo:R2:=fun x y H Q=>∃ l b xs zs,x=.ref l/\y=.ref b/\H l=some (.lst xs)/\H b=some (.lst zs)/\xs.length+zs.length <= sizeLine/\∀ p,H p=none->Q (.ref p) (upd H p (.lst (xs++zs)))
theorem zx:OpR X (binaryOp .Add) veo:=by
 intro d s σ H x y v u Q I i j h;obtain ⟨l,b,D,t,rfl,rfl,p,k,B,q⟩:=h;cases i;cases j;obtain ⟨z,c,n,r,A,e⟩:=I.lstM p;obtain ⟨w,a,C,f,o,m⟩:=I.lstM k;refine PySem.P.add_list e m ?_ (by rw [bD,bD]; omega);have g:c.toArray++a.toArray=(c++a).toArray:=by simp
 rw [g];exists .ref _,_,I.lnew (t':=s.toks) (r.append f) (by rw [bj]; omega),rfl,q _ I.fresh
def vep:R2:=fun x y H Q=>∃ l k xs,x=.ref l/\y=.int k/\H l=some (.lst xs)/\-(2 ^ 63) <= k/\k < 2 ^ 63/\xs.length * k.toNat <= sizeLine /\
 ∀ p,H p=none->Q (.ref p) (upd H p (.lst (List.replicate k.toNat xs).flatten))
theorem yoj {α:Type} (xs:List α) (k:Nat):(List.replicate k xs).flatten.length=k * xs.length:=by
 induction k with
 | zero=>simp
 | succ k ih=>rw [ci,List.flatten_cons,bj,ih,Nat.succ_mul,Nat.add_comm]
theorem yty:OpR X (binaryOp .Mult) vep:=by
 intro p s σ H x y v u Q I G K h;obtain ⟨l,k,L,rfl,rfl,C,E,B,w,q⟩:=h;cases G;obtain ⟨t,rfl⟩:=K;obtain ⟨z,b,n,r,D,e⟩:=I.lstM C;have g:b.toArray.size * k.toNat <= sizeLine:=by rw [bD,<- D]; exact w
 have f:¬ b.toArray.size * k.toNat > (2 ^ 63 - 1) / 8:=by
  have:(sizeLine:Nat) <= (2 ^ 63 - 1) / 8:=by decide
  omega
 have i:¬ (!Builtin.List.listFitsIndex k)=true:=by
  rw [fitsIndex_both E B];exact bE
 have c:¬ Builtin.List.listTooLong (b.toArray.size * k.toNat)=true:=by
  rw [ydh g];exact bE
 have d:List.foldl (fun o j=>o++j) #[] (List.replicate (if b.toArray.isEmpty=true then 0 else k.toNat) b.toArray)=(List.replicate k.toNat b).flatten.toArray:=by
  have J:∀ m:Nat,List.foldl (fun o j=>o++j) #[] (List.replicate m b.toArray)=(List.replicate m b).flatten.toArray:=fun m=>by
   have:=ſ b m [];rw [List.nil_append] at this;exact this
  rw [J]
  cases b with
  | nil=>simp
  | cons a r'=>rw [if_neg (by simp)]
 refine wpAny_binaryOp_repeat_ref (T:="list") (U:="int") (by decide) ⟨_,e,rfl⟩ (fun A=>typeIs_int A k t) noFill_list_mul F.fills_int_mul F.slot_int_rmul repeat_list F.slot_int_index.lookup
  (call_meets F.slot_int_rmul (typeIs_int s k t) F.entry_int_rmul (F.args_int_rmul_2 _ _) (int___rmul___int_list k t l b.toArray n)
   ⟨e,rfl,⟨_,e,rfl⟩,call_meets F.slot_list_mul ⟨_,e,rfl⟩ F.entry_list_mul (F.args_list_mul_2 _ _) (AutoListH.list___mul___list_int_3 l b.toArray n k t i f c) ⟨e,?_⟩⟩)
 rw [d];exists .ref _,_,I.lnew (t':=s.toks) (r.rep k.toNat) (by rw [yoj,Nat.mul_comm]; exact w),rfl,q _ I.fresh
end
end L2
namespace Att
open PySem PySem.W PySem.Calls PyProof.Rows
theorem â {P:Params} {h:Heap}:∀ (ns:List Int) (vs:List Value),WellAll P h vs (ns.map WData.int)->IntsAre vs ns:=by
 intro ns
 induction ns with
 | nil =>
  intro vs w;rw [List.map_nil] at w;cases w;exact .nil
 | cons n ns ih =>
  intro vs w;rw [bW] at w
  cases w with
  | cons a b =>
   cases a;exact .cons _ _ (ih _ b)
theorem yfn {l:OpenLaw} {n:Nat} (hn:l.most=some n) {P:Params} {h:Heap} {args:List WData} {vals:List Value}
  (hpre:l.row.toRowW.claim.pre args=true) (hwl:WellAll P h vals args) :
  ∃ a vs ns,vals=[Value.ref a]/\args=[WData.list (ns.map WData.int)]/\h.get? a=some { cls:=.type "list",data:=.seq vs.toArray }/\IntsAre vs ns/\ns.length <= n:=by
 have f:WShape.hasAll [] args [.list .int]=true:=(pre_splitW hpre).1;have g:l.pre.holds [] { args:=args }=true:=(pre_splitW hpre).2;obtain ⟨d,r,rfl,k,m⟩:=hasAllW_cons f;obtain rfl:=hasAllW_nil m;obtain ⟨o,rfl,i⟩:=hasW_list k;obtain ⟨ns,rfl⟩:=items_int i
 have b:ns.length <= n:=by
  unfold OpenLaw.pre at g
  have c:(WTm.not (.lt (.lit (.int (n:Int))) (.len (.arg 0)))).holds [] { args:=[.list (ns.map .int)] }=true:=by
   have c:=(holds_andW g).1;rw [hn] at c;exact c
  have e:=condW_of c (w_not (w_lt w_lit (w_len_list (w_arg rfl))));rw [bf] at e;refine Nat.le_of_not_lt fun q=>?_;have j:(n:Int) < ((ns.length:Nat):Int):=by omega
  first
   | (rw [bx j] at e; exact absurd e (by decide))
   | (simp at e; omega)
 cases hwl with
 | cons w1 w2 =>
  cases w2
  cases w1 with
  | list ho hall=>exists _,_,ns,rfl,rfl,ho,â ns _ hall,b
theorem ygz (l:OpenLaw) (args:List WData):l.row.toRowW.claim.post args (.bool true) args=true :=
 postW_of (r:=l.row.toRowW) (X:=(true == true))
  (show WShape.has [] (.bool true) .bool=true by first | rfl | decide | simp [WShape.has,WShape.arms,WShape.armsAll])
  (show (WTm.eq .res (.lit (.bool true))).value [] { args:=args,res:=some (.bool true),after:=args }=some (.bool (true == true)) from w_eq_bool (w_res rfl) w_lit) rfl
theorem attach_call {l:OpenLaw} {n:Nat} {q:Program} {loose:List Str} {XP:(Str->Option Value)->Heap->Prop} {YP:World->Heap->Prop} {d:DefRec}
  (hn:l.most=some n) (hdf:d.params.defaults=[])
  (call:∀ (w:World) (s₀ s₁:Shared) (mg mb:Str->Option Value) (fa:Addr) (o:Obj) (pm cd doc:Value) (a:Addr) (vs:List Value) (ns:List Int),
   Ground q loose [] XP w s₀ mg mb s₁.heap->YP w s₁.heap ->
   s₁.heap.get? fa=some o->o.data=.func (docDef d.name d.params d.body d.scope pm cd doc)->s₁.heap.CodeRec cd d.name->mg d.name=some (.ref fa) ->
   s₁.heap.get? a=some { cls:=.type "list",data:=.seq vs.toArray }->IntsAre vs ns->ns.length <= n->s₁.gens=#[] ->
   codeAny (model l.prog w) callerA (.call (.ref fa) ⟨[.ref a],[]⟩) (fun r s'=>r=.ok (.ret (.bool true))/\OldK s₁.heap s'.heap/\s'.os=s₁.os/\AllBare s'.gens) s₁) :
  WalkO q loose XP YP l.row.toRowW d [] (fun f vs=>PySem.call f vs):=by
 intro w s₀ s₁ mg mb G Y fa o pm cd doc D kV E x i k j B m t H c p C h y;obtain rfl:D=.none:=Dflts.none k hdf;obtain rfl:kV=.none:=Dflts.noKw k;obtain ⟨a,vs,ns,rfl,rfl,g,b,e⟩:=yfn hn c h;refine enter_call (codeAny_mono (call w s₀ s₁ mg mb fa o pm cd doc a vs ns G Y E (fd_plain x) i j g b e B) fun r s' A=>?_);obtain ⟨rfl,z,u,F⟩:=A
 exists .inl ⟨.bool true,.bool true,[],rfl,fun _=>rfl,.bool true,ygz l _,fun _=>⟨List.Pairwise.nil,fun _ v=>(nomatch v)⟩⟩,z,u,F
section
variable {prog:Program} {w:World} {A:Around} {E:Value->Shared->Prop} {s:Shared} {K:Frag}
def vdm (h:Heap) (L d:Addr):List (Addr × Obj):=(List.range h.objs.size).filterMap fun a=>if a=L\/a=d then none else (h.get? a).map fun o=>(a,o)
end
end Att
namespace L2
open PySem PySem.Spec PyProof.Rows
variable {C a p:Addr} {fd:FuncData} {qual x:Str} {T:String}
theorem yal:∀ {vs:List Value} {ns:List Int},IntsAre vs ns->wd (ns.map V.int) vs
 | _,_,.nil=>.nil
 | _,_,.cons n t h=>.cons ⟨t,rfl⟩ (yal h)
def vdg (H:Hp):Prop:=∀ b,H b=none\/∃ o xs,H b=some (.frz o (.lst xs))
theorem yj6 {P:Program} {w:World} {K:W.Frag} {mg mb:Str->Option Value} {CX:CXT} {k:Nat} {fa:Addr} {sp:Sp} {s₁:Shared} {vs:List Value} {ns:List Int}
  (KX:K.In s₁.heap) (hns:s₁.heap.Ns mainGlobals mg) (hb:s₁.heap.Ns builtinsNs mb) (hbb:∀ x:Str,x≠"__name__"->mb x=bootBuiltins x) (hlim:s₁.heap.NoLimit) (hg:s₁.gens=#[])
  (ha:s₁.heap.get? a=some { cls:=.type "list",data:=.seq vs.toArray }) (hi:IntsAre vs ns) (hl:ns.length <= sizeLine) (hr:uy k callerA)
  (F:∀ base:Heap,K.In base->base.Ns mainGlobals mg->vk P w K mg base CX k fa fd [x] sp) (hbind:∀ (s:Shared) (u:Value),BindsTo s fd ⟨[u],[]⟩ [(x,u)])
  (hsp:∀ H:Hp,vdg H->SqL K H a (ns.map V.int)->sp [.ref a] H (fun v _=>v=.bl true) fun _ _ _=>False)
  (hCX:∀ H e s',CX [] H s₁ (fun _ _ _=>False) e s'->False) :
  codeAny (model P w) callerA (.call (.ref fa) ⟨[.ref a],[]⟩) (fun r s'=>r=.ok (.ret (.bool true))/\OldK s₁.heap s'.heap/\s'.os=s₁.os/\AllBare s'.gens) s₁:=by
 have I:=yal hi;have j:=hi.length;have g:∀ H:Hp,vdg H->SqL K H a (ns.map V.int)->HOk P w H s₁.heap->(∀ b,H b≠none->b=a)->(H a≠none->K.lookup a=none) ->
   codeAny (model P w) callerA (.call (.ref fa) ⟨[.ref a],[]⟩) (fun r s'=>r=.ok (.ret (.bool true))/\OldK s₁.heap s'.heap/\s'.os=s₁.os/\AllBare s'.gens) s₁:=by
  intro H L Q l J Y;have c:∀ {b:Addr} {o:Obj},s₁.heap.get? b=some o->H b=none->(ylw s₁.heap H).get? b=some o:=fun e n=>ykl e n
  have D:∀ {b:Addr} {o:Obj} {y:Array DictEntry} {p:Nat},s₁.heap.get? b=some o->o.data=.dict y p->H b=none:=fun {b o y p} e d=>by
   cases q:H b with
   | none=>rfl
   | some u =>
    have C:b=a:=J b (by rw [q]; simp);subst C;rw [ha] at e; cases e;have U:Data.seq vs.toArray _=Data.dict y p:=d;cases U
  have f:∀ {b:Addr} {m:Str->Option Value},s₁.heap.Ns b m->(ylw s₁.heap H).Ns b m:=fun {b m} ⟨o,y,p,e,d,r⟩=>⟨o,y,p,c e (D e d),d,r⟩
  have B:K.In (ylw s₁.heap H):=fun b o e=>c (KX b o e) (by
   cases q:H b with
   | none=>rfl
   | some u =>
    have C:b=a:=J b (by rw [q]; simp);subst C;rw [Y (by rw [q]; simp)] at e; cases e)
  have S:Mod K mg (ylw s₁.heap H):=⟨B,f hns,⟨mb,f hb,hbb⟩,let ⟨mc,h1,h2⟩:=hlim; ⟨mc,f h1,h2⟩⟩;have O:yi8 P w K mg (ylw s₁.heap H) callerA [] s₁ H:=⟨rfl,S,fun b o e=>yos e,Nat.le_of_eq (ygn _ _),trivial,fun b hb=>absurd (show b∈([]:List Addr) from hb) (by simp),l,.of_eq hg⟩;refine codeAny_mono ((F _ B (f hns)).run callerA [] s₁ H ⟨[.ref a],[]⟩ [.ref a] [.ref a] _ _ hr O (hbind s₁ (.ref a)) (.cons rfl .nil) (hsp H L Q)) fun r s' h=>?_
  cases r with
  | error e=>exact (hCX H e s' h).elim
  | ok fl =>
   cases fl with
   | next=>exact False.elim h
   | brk=>exact False.elim h
   | cont=>exact False.elim h
   | ret u =>
    obtain ⟨v,Z,os,A,G,i,N,q⟩:=h;have R:v=.bl true:=q;subst R;obtain rfl:u=Value.bool true:=N;exists rfl,OldK.of_keep fun b o e=>?_,os,A
    cases q:H b with
    | none=>exact G.keep b o e q (by intro z; exact absurd (show b∈([]:List Addr) from z) (by simp)) (by simp)
    | some u =>
     rcases L b with z | ⟨X,xs,z⟩
     .rw [q] at z; cases z
     .have M:=G.frzs b X _ z;obtain ⟨E,_⟩:=l b _ z;obtain ⟨T,_⟩:=i b _ M;rw [e] at E; cases E;exact T
 cases hk:K.lookup a with
 | some o =>
  have e:=KX a o hk;rw [ha] at e;cases e;refine g (fun _=>none) (fun _=>.inl rfl) (.inr ⟨_,vs.toArray,_,hk,rfl,rfl,rfl,by rw [bD,j]; exact hl,by simpa using I⟩) (fun b u z=>by have t:(none:Option HO)=some u:=z; cases t) (fun b z=>absurd rfl z) fun z=>absurd rfl z
 | none =>
  refine g (fun b=>if b=a then some (.frz { cls:=.type "list",data:=.seq vs.toArray } (.lst (ns.map V.int))) else none) (fun b=>?_) (.inl (.inr ⟨{ cls:=.type "list",data:=.seq vs.toArray },if_pos rfl⟩)) (fun b u z=>?_) (fun b z=>?_) fun _=>hk
  .by_cases hb:b=a
   .exact .inr ⟨_,_,if_pos hb⟩
   .exact .inl (if_neg hb)
  .by_cases hb:b=a
   .have t:=(if_pos hb).symm.trans z;cases t;subst hb;exists ha,by rw [bf]; exact hl,vs,_,I,ha
   .have t:=(if_neg hb).symm.trans z;cases t
  .by_cases hb:b=a
   .exact hb
   .exact absurd (if_neg hb) z
theorem walk_of {l:W.OpenLaw} {n k:Nat} {q:Program} {loose:List Str} {XP:(Str->Option Value)->Heap->Prop} {YP:World->Heap->Prop} {d:DefRec} {K:Params->W.Frag} {CX:World->CXT} {sp:World->Sp} 
  (hn:l.most=some n) (hn2:n <= sizeLine) (hdf:d.params.defaults=[]) (hr:uy k callerA)
  (hY:∀ (w:World) (h:Heap),YP w h->(K w.params).In h)
  (F:∀ (w:World) (mg:Str->Option Value) (fa:Addr) (h:Heap),(K w.params).In h->h.Ns mainGlobals mg->mg d.name=some (.ref fa) ->
   ∃ fd:FuncData,(∀ (s:Shared) (u:Value),BindsTo s fd ⟨[u],[]⟩ [(x,u)]) /\
    ∀ base:Heap,(K w.params).In base->base.Ns mainGlobals mg->vk l.prog w (K w.params) mg base (CX w) k fa fd [x] (sp w))
  (hsp:∀ (w:World) (H:Hp) (a:Addr) (ns:List Int),ns.length <= n->vdg H->SqL (K w.params) H a (ns.map V.int)->sp w [.ref a] H (fun v _=>v=.bl true) fun _ _ _=>False)
  (hCX:∀ (w:World) (H:Hp) (s:Shared) (e:Value) (s':Shared),CX w [] H s (fun _ _ _=>False) e s'->False) :
  W.WalkO q loose XP YP l.row.toRowW d [] (fun f vs=>PySem.call f vs):=by
 refine Att.attach_call hn hdf fun w s₀ s₁ mg D fa o E L z a vs ns G Y J I A m j i c C=>?_;have p:=hY w _ Y;obtain ⟨fd,B,y⟩:=F w mg fa _ p G.T.g m;exact yj6 p G.T.g G.T.b G.T.builtins G.T.nolimit C j i (bN c hn2) hr y B (fun H r t=>hsp w H a ns c r t) fun H e s'=>hCX w H s₁ e s'
def yw (s:Stmt) (j:Nat):Stmt:=match s with
 | .ClassDef _ _ _ body _ _ _ _ _ _ _=>body.getD j (.Pass ⟨0,0,0,0⟩)
 | _=>.Pass ⟨0,0,0,0⟩
def wn (s:Stmt):Arguments:=match s with
 | .FunctionDef _ a _ _ _ _ _ _ _ _=>a
 | _=>{ posonlyargs:=[],args:=[],vararg:=none,kwonlyargs:=[],kw_defaults:=[],kwarg:=none,defaults:=[] }
def vt (s:Stmt):List Stmt:=match s with
 | .FunctionDef _ _ b _ _ _ _ _ _ _=>b
 | _=>[]
def yc (s:Stmt):Scope:=match s with
 | .FunctionDef _ _ _ _ _ _ sc _ _ _=>sc
 | _=>{ kind:=.function,names:=[],isGenerator:=false,isCoroutine:=false }
abbrev CX0:CXT:=fun _ _ _ _ _ _=>False
abbrev E0:XK:=fun _ _ _=>False
theorem wv {X:Cx}:Ò CX0 X E0:=fun _ _ _ _ _ _ _ h=>h.elim
structure Fun (K:W.Frag) (x qual:Str) (st:Stmt) (f:Addr) (fd:FuncData):Prop where
 ex:∃ (oc:Value) (od:Option Addr) (kV doc pm:Value) (an:Option Addr) (cdv ct:Value) (osl:Array (Option Value)),
  fd=W.fnOf x qual (wn st) (vt st) (yc st) .none kV doc pm an cdv ct/\K.lookup f=some ⟨oc,od,.func fd,osl⟩/\W.codeIn K cdv qual=true
 kp:W.keepIn K (.ref f)=true
section
variable {P:Program} {w:World} {K:W.Frag} {mg:Str->Option Value} {base:Heap}
theorem Fun.ok {st:Stmt} {f:Addr} {N ps:List Str} {k:Nat} {sp:Sp} (F:Fun K x qual st f fd) (S:yh N ps (yc st)) (len:∀ vs H Q E,sp vs H Q E->vs.length=ps.length)
  (hbody:∀ (cdv:Value) (A:Around) (outer:List Env) (s:Shared) (H:Hp) (vs:List V) (Q:VK) (E:XK),uy k (A.deeper (envOfC qual (yc st) s.heap.objs.size f cdv))->sp vs H Q E ->
   ∃ t,PSs (vo CX0 P w K mg base N qual (yc st) f cdv A outer s H E).nox (vt st) t/\t { nx:=fun _ H'=>Q .non H',rt:=Q } (Ë N vs) H):vk P w K mg base CX0 (k+1) f fd ps sp:=by
 obtain ⟨n,m,kV,e,j,l,cdv,i,g,rfl,c,b⟩:=F.ex;refine ylr c b S len fun A outer s H vs Q E d a=>?_;obtain ⟨t,h,q⟩:=hbody cdv A outer s H vs Q E d a;exact ⟨t,h.nox,q⟩
theorem Fun.binds {st:Stmt} {f:Addr} {ps:List Str} (F:Fun K x qual st f fd)
  (h:∀ (kV doc pm:Value) (an:Option Addr) (cdv ct:Value) (us:List Value),us.length=ps.length->bindArgs (W.fnOf x qual (wn st) (vt st) (yc st) .none kV doc pm an cdv ct) ⟨us,[]⟩=pure (ps.zip us)):uw K fd ps []:=by
 obtain ⟨e,d,kV,doc,pm,an,cdv,ct,b,rfl,c,a⟩:=F.ex;exact .all (h kV doc pm an cdv ct)
theorem ynh {st:Stmt} {f:Addr} {oc:Value} {od an:Option Addr} {osl:Array (Option Value)} {kV doc pm cdv ct:Value} (l:K.lookup f=some ⟨oc,od,.func (W.fnOf x qual (wn st) (vt st) (yc st) .none kV doc pm an cdv ct),osl⟩)
  (c:W.codeIn K cdv qual=true) (k:W.keepIn K (.ref f)=true):Fun K x qual st f (W.fnOf x qual (wn st) (vt st) (yc st) .none kV doc pm an cdv ct):=⟨⟨oc,od,kV,doc,pm,an,cdv,ct,osl,rfl,l,c⟩,k⟩
end
theorem đ {A:Around} {k:Nat} (hr:uy k A):A.units+1 < cLine:=Nat.lt_of_le_of_lt (Nat.add_le_add_left (by decide:1 <= 64) _) hr.units
section
variable {X:Cx}
theorem pv (i:Nat) {pos:Pos} (hN:X.N[i]?=some x:=by rfl) (hv:Vis X.env.scope x:=by first | exact Or.inl rfl | exact Or.inr (Or.inl rfl) | exact Or.inr (Or.inr rfl)) (hd:(x == ("__debug__":Str))=false:=by decide)
  (hcd:(x == ("__classdict__":Str))=false:=by decide):PE X (.Name x pos) (vap i):=yu1 hN hv hd hcd
end
theorem ē {A B:Prop} (h:B):if false=true then A else B:=by
 rw [if_neg bE];exact h
theorem ī {A B:Prop} (h:A):if true=true then A else B:=by
 rw [if_pos rfl];exact h
def yq (H H':Hp):Prop:=∀ b o,H b=some o->H' b=some o
theorem yq.refl (H:Hp):yq H H:=fun _ _ h=>h
theorem yq.trans {H H1 H2:Hp} (a:yq H H1) (b:yq H1 H2):yq H H2:=fun c o h=>b c o (a c o h)
theorem yq.free {H H':Hp} (e:yq H H') {l:Addr} (h:H' l=Option.none):H l=Option.none:=by
 cases q:H l with
 | none=>rfl
 | some o =>
  rw [e l o q] at h;cases h
theorem yq.seq {K:W.Frag} {H H':Hp} {xs:List V} (e:yq H H') (h:SqL K H a xs):SqL K H' a xs:=by
 rcases h with (h | ⟨o,h⟩) | h
 .exact .inl (.inl (e _ _ h))
 .exact .inl (.inr ⟨o,e _ _ h⟩)
 .exact .inr h
section
variable {X:Cx}
theorem vx:uu X (.builtin "isinstance") (fun xs H Q=>∃ x cv t c k,xs=[x,cv]/\w8 cv c/\(∀ u,w8 cv u->u=c)/\xp X.K H x t/\W.kitOne X.K t c=some k/\Q (.bl k) H):=by
 intro a s σ H xs l Q I r h;obtain ⟨x,cv,t,c,k,rfl,_,d,b,e,q⟩:=h;obtain ⟨u,f,rfl,g,i⟩:=ys0 r;obtain rfl:=d f i;exact yfv I g b e fun j=>⟨.bl k,H,I.tok j,rfl,q⟩
theorem zv {pos:Pos} (hg:Gl X x) (hm:X.mg x=none) (hv:bootBuiltins x=some (.type T)) (hn:x≠"__name__":=by decide) (hd:(x == ("__debug__":Str))=false:=by decide):PE X (.Name x pos) (tC (.ty T)):=ypt hg hm hv rfl hn hd
theorem vg {i:Int} {t:Tok} {pos:Pos} (hg:Gl X x) (hm:X.mg x=some (.int i t)) (hd:(x == ("__debug__":Str))=false:=by decide):PE X (.Name x pos) (tC (.int i)):=yb6 hg hm ⟨t,rfl⟩ hd
theorem Ş {pos:Pos} (hg:Gl X x) (hm:X.mg x=some (.ref C)) (hd:(x == ("__debug__":Str))=false:=by decide):PE X (.Name x pos) (tC (.ref C)):=yb6 hg hm rfl hd
mutual
inductive RdV (K:W.Frag) (H:Hp):V->PyData->Prop
 | non:RdV K H .non .none
 | bl (b:_):RdV K H (.bl b) (.bool b)
 | int (i:_):RdV K H (.int i) (.int i)
 | str (x:_):RdV K H (.str x) (.str x)
 | lst {a xs ds:_}:SqL K H a xs->yfe K H xs ds->RdV K H (.ref a) (.list ds)
 | tup {a xs ds:_}:SqT K H a xs->yfe K H xs ds->RdV K H (.ref a) (.tuple ds)
inductive yfe (K:W.Frag) (H:Hp):List V->List PyData->Prop
 | nil:yfe K H [] []
 | cons {x xs d ds:_}:RdV K H x d->yfe K H xs ds->yfe K H (x :: xs) (d :: ds)
end
mutual
theorem RdV.reads {pins:List (Addr × Obj)} {σ:St} {H:Hp} {s:Shared} (I:Inv X pins σ H s):∀ {x:V} {d:PyData} {u:Value},RdV X.K H x d->w8 x u->∃ as,Reads s.heap u d as
 | _,_,_,.non,r=>by cases r; exists _,.none
 | _,_,_,.bl _,r=>by cases r; exists _,.bool _
 | _,_,_,.int _,r=>by obtain ⟨t,rfl⟩:=r; exists _,.int _ _
 | _,_,_,.str _,r=>by obtain ⟨t,rfl⟩:=r; exists _,.str _ _
 | _,_,_,.lst hq hs,r=>by
  cases r;obtain ⟨c,b,⟨o,n,e,g,i,f⟩,h⟩:=I.list hq;obtain ⟨as,a⟩:=yfe.reads I hs b;exists _,.list e g f (by simpa using a)
 | _,_,_,.tup hq hs,r=>by
  cases r;obtain ⟨c,b,⟨o,e,g,n,f⟩,h⟩:=I.tuple hq;obtain ⟨as,a⟩:=yfe.reads I hs b;exists _,.tuple e g f (by simpa using a)
theorem yfe.reads {pins:List (Addr × Obj)} {σ:St} {H:Hp} {s:Shared} (I:Inv X pins σ H s):∀ {xs:List V} {ds:List PyData} {us:List Value},yfe X.K H xs ds->wd xs us->∃ as,ReadsAll s.heap us ds as
 | _,_,_,.nil,.nil=>⟨_,.nil⟩
 | _,_,_,.cons h hs,.cons r rs=>by
  obtain ⟨as,a⟩:=RdV.reads I h r;obtain ⟨c,b⟩:=yfe.reads I hs rs;exists _,.cons a b
end
def vax (K:W.Frag) (g:Bool->Bool):R2:=fun x y H Q=>∃ d e,RdV K H x d/\RdV K H y e/\SeqAt.shaped d=true/\SeqAt.shaped e=true/\Q (.bl (g (PyData.eqv d e))) H
theorem yuc (hu:X.A.units+64 < cLine):OpR X (compareOp .Eq) (vax X.K fun b=>b):=by
 intro a s σ H x y v u Q I g l h;obtain ⟨d,e,m,j,f,i,q⟩:=h;obtain ⟨o,c⟩:=m.reads I g;obtain ⟨n,k⟩:=j.reads I l;exact eq_dataH c k f i hu ⟨.bl _,H,I,rfl,q⟩
theorem yik (hu:X.A.units+64 < cLine):OpR X (compareOp .NotEq) (vax X.K fun b=>!b):=by
 intro a s σ H x y v u Q I g l h;obtain ⟨d,e,m,j,f,i,q⟩:=h;obtain ⟨o,c⟩:=m.reads I g;obtain ⟨n,k⟩:=j.reads I l;exact ne_dataH c k f i hu ⟨.bl _,H,I,rfl,q⟩
theorem z5 {K:W.Frag} {H:Hp}:∀ ns:List Int,yfe K H (ns.map V.int) (ns.map PyData.int)
 | []=>.nil
 | n :: r=>.cons (.int n) (z5 r)
theorem jv:∀ ns:List Int,PyData.canLayAll0 (ns.map PyData.int)=true
 | []=>rfl
 | _ :: r=>by simp [PyData.canLayAll0,PyData.canLay0,jv r]
theorem È:∀ ns:List Int,PyData.depthAll (ns.map PyData.int)=0
 | []=>rfl
 | _ :: r=>by simp [PyData.depthAll,PyData.depth,È r]
theorem ĝ (ns:List Int):SeqAt.shaped (.list (ns.map PyData.int))=true:=by
 simp [SeqAt.shaped,PyData.canLay0,PyData.depth,jv,È]
theorem jr:∀ ns ms:List Int,PyData.eqvAll (ns.map PyData.int) (ms.map PyData.int)=decide (ns=ms)
 | [],[]=>by simp [PyData.eqvAll]
 | [],_ :: _=>by simp [PyData.eqvAll]
 | _ :: _,[]=>by simp [PyData.eqvAll]
 | a :: r,b :: t=>by
  simp only [bW,PyData.eqvAll,PyData.eqv,jr r t];by_cases h:a=b <;> by_cases h':r=t <;> simp [h,h']
theorem vag {K:W.Frag} {g:Bool->Bool} {H:Hp} {Q:VK} {b:Addr} (ns ms:List Int) (ha:SqL K H a (ns.map V.int)) (hb:SqL K H b (ms.map V.int)) (h:Q (.bl (g (decide (ns=ms)))) H):vax K g (.ref a) (.ref b) H Q :=
 ⟨_,_,.lst ha (z5 ns),.lst hb (z5 ms),ĝ ns,ĝ ms,by rw [PyData.eqv,jr]; exact h⟩
def vbz (_ j:Int):Prop:=0 < j/\j < 2 ^ 200
theorem vi:OpR X (binaryOp .FloorDiv) (rI vbz fun i j=>.int (i / j)):=opI fun i j _ _ _ _ _ b q=>by
 obtain ⟨d,c⟩:=b;refine floordiv_int (by omega) ?_ (.inl (PyProof.noPylong_of_log2 ?_))
 .rw [Int.fdiv_eq_ediv_of_nonneg _ (by omega)]; exact q
 .have e:j.natAbs < 2 ^ 200:=by omega
  have a:j.natAbs≠0:=by omega
  have:=(Nat.log2_lt a).mpr e;omega
def vb7 (k:Int):R2:=fun x y H Q=>∃ i j,x=.int i/\y=.int j/\vaz i j/\i ^ j.toNat=k/\Q (.int k) H
def vdp (t:TS):TS:=fun D σ H=>∃ M:St->Hp->Prop,t { D with nx:=M } σ H/\∀ σ' H',M σ' H'->D.nx σ' H'
theorem Ģ {st:Stmt} {t:TS} (h:PS X st t):PS X st (vdp t):=by
 refine .mk fun a s σ H D I ⟨M,d,e⟩=>?_;refine thn (h a s σ H { D with nx:=M } I d) fun f g q=>?_
 cases f with
 | next =>
  obtain ⟨σ',b,c,q⟩:=q;exists σ',b,c,e σ' b q
 | ret v=>exact q
 | brk=>exact q
 | cont=>exact q
end
def vj (nx:St->Hp->Prop) (σ:St) (H:Hp):Prop:=nx σ H
section
variable {K:W.Frag} {σ:St} {H:Hp} {Q:VK} {QB:Bool->Hp->Prop} {QL:List V->Hp->Prop} {v x y:V} {i j:Int} {b:Bool} {ta tb tc te:TE} {t u:TS} {tA tB':TT} {tr:TA} {D:Ĭ}
 {nx bk ct:St->Hp->Prop} {rt:VK} {A B:Prop}
theorem yj {N:List Str} {vs:List V} {σ':St} (e:Ë N vs=σ') (h:t D σ' H):t D (Ë N vs) H:=by rw [e]; exact h
theorem vab {k:Nat} (e:σ[k]?=some (some v)) (h:Q v H):vap k σ H Q:=⟨v,e,h⟩
theorem i_c (h:Q v H):tC v σ H Q:=h
theorem vex {r:R2} (h:ta σ H fun x H1=>tb σ H1 fun y H2=>r x y H2 Q):tOp r ta tb σ H Q:=h
theorem ven {r:V->Hp->VK->Prop} (h:ta σ H fun x H1=>r x H1 Q):tUn r ta σ H Q:=h
theorem vec {g:Int->Int->V} (h:Q (g i j) H):rI0 g (.int i) (.int j) H Q:=⟨i,j,rfl,rfl,h⟩
theorem i_I {C:Int->Int->Prop} {g:Int->Int->V} (hc:C i j) (h:Q (g i j) H):rI C g (.int i) (.int j) H Q:=⟨i,j,rfl,rfl,hc,h⟩
theorem i_U {g:Int->V} (h:Q (g i) H):rU g (.int i) H Q:=⟨i,rfl,h⟩
theorem vbl (h:Q (.bl (decide (i=j))) H):rEq (.int i) (.int j) H Q:=⟨rfl,by
 have e:decide (V.int i=V.int j)=decide (i=j):=by simp
 rw [e]; exact h⟩
theorem vbk (h:Q (.bl (!decide (i=j))) H):rNe (.int i) (.int j) H Q:=⟨rfl,by
 have e:decide (V.int i=V.int j)=decide (i=j):=by simp
 rw [e]; exact h⟩
theorem yvt (h:ta σ H fun x H'=>∃ k,x=.bl k/\QB k H'):yti ta σ H QB:=h
theorem vew (h:ta σ H fun x H'=>∃ k,x=.bl k/\QB k H'):tB ta σ H QB:=h
theorem ver {P:Bool->Prop} (h:P b):∃ k,V.bl b=V.bl k/\P k:=⟨b,rfl,h⟩
theorem yom {r r':R2} (h:ta σ H fun x H1=>tb σ H1 fun y H2=>r x y H2 fun z H3=>∃ k,z=.bl k/\(if k=true then tc σ H3 fun w' H4=>r' y w' H4 Q else Q (.bl false) H3)):yij r r' ta tb tc σ H Q:=h
theorem yvy (h:ta σ H fun x H1=>∃ c,x=.bl c/\if c=true then tb σ H1 Q else Q (.bl false) H1):vaf ta tb σ H Q:=h
theorem vbt (h:ta σ H fun x H1=>∃ c,x=.bl c/\if c=true then Q (.bl true) H1 else tb σ H1 Q):veg ta tb σ H Q:=h
theorem ywb (h:ta σ H fun x H1=>∃ c,x=.bl c/\Q (.bl (!c)) H1):vaj ta σ H Q:=h
theorem vby {t1 t2:TT} (h:t1 σ H fun c H1=>if c=true then t2 σ H1 QB else QB false H1):vdx t1 t2 σ H QB:=h
theorem veq {t1 t2:TT} (h:t1 σ H fun c H1=>if c=true then QB true H1 else t2 σ H1 QB):tOr t1 t2 σ H QB:=h
theorem vbx {t1:TT} (h:t1 σ H fun c H1=>QB (!c) H1):vdv t1 σ H QB:=h
theorem vb6 (h:tA σ H fun c H1=>if c=true then ta σ H1 Q else tb σ H1 Q):tIf tA ta tb σ H Q:=h
theorem vcs (h:t ⟨u D,D.rt,D.bk,D.ct⟩ σ H):vdb t u D σ H:=h
theorem yyd (h:nx σ H):yz9 ⟨nx,rt,bk,ct⟩ σ H:=h
theorem va3 (h:te σ H rt):vdo te ⟨nx,rt,bk,ct⟩ σ H:=h
theorem yze (h:rt .non H):vcu ⟨nx,rt,bk,ct⟩ σ H:=h
theorem yx0 (h:te σ H fun _ H1=>nx σ H1):yzr te ⟨nx,rt,bk,ct⟩ σ H:=h
theorem vem (h:tA σ H fun c H1=>if c=true then t D σ H1 else u D σ H1):vd0 tA t u D σ H:=h
theorem ylp (M:St->Hp->Prop) (h1:t ⟨M,rt,bk,ct⟩ σ H) (h2:∀ σ' H',M σ' H'->nx σ' H'):vdp t ⟨nx,rt,bk,ct⟩ σ H:=⟨M,h1,h2⟩
theorem vcq {g:TG} (h:te σ H fun x H1=>g x σ H1 nx):vau te g ⟨nx,rt,bk,ct⟩ σ H:=h
theorem yu4 {sp:Sp} {dvs:List V} {E:XK} (h:tr σ H fun vs H1=>sp (vs++dvs) H1 Q E):yrh sp dvs E tr σ H Q:=h
theorem ywp (h:ta σ H fun x H1=>tr σ H1 fun xs H2=>QL (x :: xs) H2):ylo ta tr σ H QL:=h
theorem vbg (h:QL [] H):yn7 σ H QL:=h
theorem veu {r:List V->Hp->VK->Prop} (h:tr σ H fun vs H1=>r vs H1 Q):tCB r tr σ H Q:=h
theorem vb0 (h:tr σ H fun xs H1=>xs.length <= sizeLine/\∀ p,H1 p=none->Q (.ref p) (upd H1 p (.tup xs))):vd5 tr σ H Q:=h
theorem vbm (h:tr σ H fun xs H1=>xs.length <= sizeLine/\∀ p,H1 p=none->Q (.ref p) (upd H1 p (.lst xs))):vd3 tr σ H Q:=h
theorem yds {m:Str} {sp:Sp} {dvs:List V} {E:XK} (h:ta σ H fun x H1=>∃ a dx fs,x=.ref a/\H1 a=some (.ins C dx fs)/\fs.lookup m=none/\tr σ H1 fun vs H2=>sp (x :: (vs++dvs)) H2 Q E):yce C m sp dvs E ta tr σ H Q:=h
theorem vbn {f:Str} (h:ta σ H fun x H1=>∃ a C dx fs v,x=.ref a/\H1 a=some (.ins C dx fs)/\Cls K C/\vd K C f/\fs.lookup f=some v/\Q v H1):vcx K ta f σ H Q:=h
theorem yut {f:Str} (h:tb σ H fun y H1=>ta σ H1 fun x H2=>∃ a C dx fs,x=.ref a/\H2 a=some (.ins C dx fs)/\Cls K C/\vd K C f/\fs.length < 1000/\vj nx σ (upd H2 a (.ins C dx (jk f y fs)))):vdu K ta tb f ⟨nx,rt,bk,ct⟩ σ H:=h
theorem vee {r:V->Option Int->Option Int->Hp->VK->Prop} {tl th:TO} (h:te σ H fun x H1=>tl σ H1 fun l H2=>th σ H2 fun u H3=>r x l u H3 Q):tSl r te tl th σ H Q:=h
theorem yj8 {QO:Option Int->Hp->Prop} (h:QO none H):yg9 σ H QO:=h
theorem yw3 {QO:Option Int->Hp->Prop} (h:ta σ H fun x H1=>∃ i,x=.int i/\QO (some i) H1):yzz ta σ H QO:=h
theorem vcp {P:Int->Prop} (h:P i):∃ k,V.int i=V.int k/\P k:=⟨i,rfl,h⟩
theorem yye (h:A):V.non=V.non/\A:=⟨rfl,h⟩
theorem g0 {a0:Option V} {r:St} {N:St->Hp->Prop} (h:N (some v :: r) H):wj 0 v (a0 :: r) H N:=h
theorem g1 {a0 a1:Option V} {r:St} {N:St->Hp->Prop} (h:N (a0 :: some v :: r) H):wj 1 v (a0 :: a1 :: r) H N:=h
theorem g2 {a0 a1 a2:Option V} {r:St} {N:St->Hp->Prop} (h:N (a0 :: a1 :: some v :: r) H):wj 2 v (a0 :: a1 :: a2 :: r) H N:=h
theorem g3 {a0 a1 a2 a3:Option V} {r:St} {N:St->Hp->Prop} (h:N (a0 :: a1 :: a2 :: some v :: r) H):wj 3 v (a0 :: a1 :: a2 :: a3 :: r) H N:=h
theorem g4 {a0 a1 a2 a3 a4:Option V} {r:St} {N:St->Hp->Prop} (h:N (a0 :: a1 :: a2 :: a3 :: some v :: r) H):wj 4 v (a0 :: a1 :: a2 :: a3 :: a4 :: r) H N:=h
theorem g5 {a0 a1 a2 a3 a4 a5:Option V} {r:St} {N:St->Hp->Prop} (h:N (a0 :: a1 :: a2 :: a3 :: a4 :: some v :: r) H):wj 5 v (a0 :: a1 :: a2 :: a3 :: a4 :: a5 :: r) H N:=h
theorem g6 {a0 a1 a2 a3 a4 a5 a6:Option V} {r:St} {N:St->Hp->Prop} (h:N (a0 :: a1 :: a2 :: a3 :: a4 :: a5 :: some v :: r) H):wj 6 v (a0 :: a1 :: a2 :: a3 :: a4 :: a5 :: a6 :: r) H N:=h
theorem g7 {a0 a1 a2 a3 a4 a5 a6 a7:Option V} {r:St} {N:St->Hp->Prop} (h:N (a0 :: a1 :: a2 :: a3 :: a4 :: a5 :: a6 :: some v :: r) H):wj 7 v (a0 :: a1 :: a2 :: a3 :: a4 :: a5 :: a6 :: a7 :: r) H N:=h
theorem g8 {a0 a1 a2 a3 a4 a5 a6 a7 a8:Option V} {r:St} {N:St->Hp->Prop} (h:N (a0 :: a1 :: a2 :: a3 :: a4 :: a5 :: a6 :: a7 :: some v :: r) H):wj 8 v (a0 :: a1 :: a2 :: a3 :: a4 :: a5 :: a6 :: a7 :: a8 :: r) H N:=h
theorem g9 {a0 a1 a2 a3 a4 a5 a6 a7 a8 a9:Option V} {r:St} {N:St->Hp->Prop} (h:N (a0 :: a1 :: a2 :: a3 :: a4 :: a5 :: a6 :: a7 :: a8 :: some v :: r) H):wj 9 v (a0 :: a1 :: a2 :: a3 :: a4 :: a5 :: a6 :: a7 :: a8 :: a9 :: r) H N:=h
theorem g10 {a0 a1 a2 a3 a4 a5 a6 a7 a8 a9 a10:Option V} {r:St} {N:St->Hp->Prop} (h:N (a0 :: a1 :: a2 :: a3 :: a4 :: a5 :: a6 :: a7 :: a8 :: a9 :: some v :: r) H):wj 10 v (a0 :: a1 :: a2 :: a3 :: a4 :: a5 :: a6 :: a7 :: a8 :: a9 :: a10 :: r) H N:=h
theorem g11 {a0 a1 a2 a3 a4 a5 a6 a7 a8 a9 a10 a11:Option V} {r:St} {N:St->Hp->Prop} (h:N (a0 :: a1 :: a2 :: a3 :: a4 :: a5 :: a6 :: a7 :: a8 :: a9 :: a10 :: some v :: r) H):wj 11 v (a0 :: a1 :: a2 :: a3 :: a4 :: a5 :: a6 :: a7 :: a8 :: a9 :: a10 :: a11 :: r) H N:=h
theorem g12 {a0 a1 a2 a3 a4 a5 a6 a7 a8 a9 a10 a11 a12:Option V} {r:St} {N:St->Hp->Prop} (h:N (a0 :: a1 :: a2 :: a3 :: a4 :: a5 :: a6 :: a7 :: a8 :: a9 :: a10 :: a11 :: some v :: r) H):wj 12 v (a0 :: a1 :: a2 :: a3 :: a4 :: a5 :: a6 :: a7 :: a8 :: a9 :: a10 :: a11 :: a12 :: r) H N:=h
theorem g13 {a0 a1 a2 a3 a4 a5 a6 a7 a8 a9 a10 a11 a12 a13:Option V} {r:St} {N:St->Hp->Prop} (h:N (a0 :: a1 :: a2 :: a3 :: a4 :: a5 :: a6 :: a7 :: a8 :: a9 :: a10 :: a11 :: a12 :: some v :: r) H):wj 13 v (a0 :: a1 :: a2 :: a3 :: a4 :: a5 :: a6 :: a7 :: a8 :: a9 :: a10 :: a11 :: a12 :: a13 :: r) H N:=h
theorem g14 {a0 a1 a2 a3 a4 a5 a6 a7 a8 a9 a10 a11 a12 a13 a14:Option V} {r:St} {N:St->Hp->Prop} (h:N (a0 :: a1 :: a2 :: a3 :: a4 :: a5 :: a6 :: a7 :: a8 :: a9 :: a10 :: a11 :: a12 :: a13 :: some v :: r) H):wj 14 v (a0 :: a1 :: a2 :: a3 :: a4 :: a5 :: a6 :: a7 :: a8 :: a9 :: a10 :: a11 :: a12 :: a13 :: a14 :: r) H N:=h
theorem g15 {a0 a1 a2 a3 a4 a5 a6 a7 a8 a9 a10 a11 a12 a13 a14 a15:Option V} {r:St} {N:St->Hp->Prop} (h:N (a0 :: a1 :: a2 :: a3 :: a4 :: a5 :: a6 :: a7 :: a8 :: a9 :: a10 :: a11 :: a12 :: a13 :: a14 :: some v :: r) H):wj 15 v (a0 :: a1 :: a2 :: a3 :: a4 :: a5 :: a6 :: a7 :: a8 :: a9 :: a10 :: a11 :: a12 :: a13 :: a14 :: a15 :: r) H N:=h
theorem g16 {a0 a1 a2 a3 a4 a5 a6 a7 a8 a9 a10 a11 a12 a13 a14 a15 a16:Option V} {r:St} {N:St->Hp->Prop} (h:N (a0 :: a1 :: a2 :: a3 :: a4 :: a5 :: a6 :: a7 :: a8 :: a9 :: a10 :: a11 :: a12 :: a13 :: a14 :: a15 :: some v :: r) H):wj 16 v (a0 :: a1 :: a2 :: a3 :: a4 :: a5 :: a6 :: a7 :: a8 :: a9 :: a10 :: a11 :: a12 :: a13 :: a14 :: a15 :: a16 :: r) H N:=h
theorem g17 {a0 a1 a2 a3 a4 a5 a6 a7 a8 a9 a10 a11 a12 a13 a14 a15 a16 a17:Option V} {r:St} {N:St->Hp->Prop} (h:N (a0 :: a1 :: a2 :: a3 :: a4 :: a5 :: a6 :: a7 :: a8 :: a9 :: a10 :: a11 :: a12 :: a13 :: a14 :: a15 :: a16 :: some v :: r) H):wj 17 v (a0 :: a1 :: a2 :: a3 :: a4 :: a5 :: a6 :: a7 :: a8 :: a9 :: a10 :: a11 :: a12 :: a13 :: a14 :: a15 :: a16 :: a17 :: r) H N:=h
theorem g18 {a0 a1 a2 a3 a4 a5 a6 a7 a8 a9 a10 a11 a12 a13 a14 a15 a16 a17 a18:Option V} {r:St} {N:St->Hp->Prop} (h:N (a0 :: a1 :: a2 :: a3 :: a4 :: a5 :: a6 :: a7 :: a8 :: a9 :: a10 :: a11 :: a12 :: a13 :: a14 :: a15 :: a16 :: a17 :: some v :: r) H):wj 18 v (a0 :: a1 :: a2 :: a3 :: a4 :: a5 :: a6 :: a7 :: a8 :: a9 :: a10 :: a11 :: a12 :: a13 :: a14 :: a15 :: a16 :: a17 :: a18 :: r) H N:=h
theorem g19 {a0 a1 a2 a3 a4 a5 a6 a7 a8 a9 a10 a11 a12 a13 a14 a15 a16 a17 a18 a19:Option V} {r:St} {N:St->Hp->Prop} (h:N (a0 :: a1 :: a2 :: a3 :: a4 :: a5 :: a6 :: a7 :: a8 :: a9 :: a10 :: a11 :: a12 :: a13 :: a14 :: a15 :: a16 :: a17 :: a18 :: some v :: r) H):wj 19 v (a0 :: a1 :: a2 :: a3 :: a4 :: a5 :: a6 :: a7 :: a8 :: a9 :: a10 :: a11 :: a12 :: a13 :: a14 :: a15 :: a16 :: a17 :: a18 :: a19 :: r) H N:=h
theorem g20 {a0 a1 a2 a3 a4 a5 a6 a7 a8 a9 a10 a11 a12 a13 a14 a15 a16 a17 a18 a19 a20:Option V} {r:St} {N:St->Hp->Prop} (h:N (a0 :: a1 :: a2 :: a3 :: a4 :: a5 :: a6 :: a7 :: a8 :: a9 :: a10 :: a11 :: a12 :: a13 :: a14 :: a15 :: a16 :: a17 :: a18 :: a19 :: some v :: r) H):wj 20 v (a0 :: a1 :: a2 :: a3 :: a4 :: a5 :: a6 :: a7 :: a8 :: a9 :: a10 :: a11 :: a12 :: a13 :: a14 :: a15 :: a16 :: a17 :: a18 :: a19 :: a20 :: r) H N:=h
theorem g21 {a0 a1 a2 a3 a4 a5 a6 a7 a8 a9 a10 a11 a12 a13 a14 a15 a16 a17 a18 a19 a20 a21:Option V} {r:St} {N:St->Hp->Prop} (h:N (a0 :: a1 :: a2 :: a3 :: a4 :: a5 :: a6 :: a7 :: a8 :: a9 :: a10 :: a11 :: a12 :: a13 :: a14 :: a15 :: a16 :: a17 :: a18 :: a19 :: a20 :: some v :: r) H):wj 21 v (a0 :: a1 :: a2 :: a3 :: a4 :: a5 :: a6 :: a7 :: a8 :: a9 :: a10 :: a11 :: a12 :: a13 :: a14 :: a15 :: a16 :: a17 :: a18 :: a19 :: a20 :: a21 :: r) H N:=h
theorem g22 {a0 a1 a2 a3 a4 a5 a6 a7 a8 a9 a10 a11 a12 a13 a14 a15 a16 a17 a18 a19 a20 a21 a22:Option V} {r:St} {N:St->Hp->Prop} (h:N (a0 :: a1 :: a2 :: a3 :: a4 :: a5 :: a6 :: a7 :: a8 :: a9 :: a10 :: a11 :: a12 :: a13 :: a14 :: a15 :: a16 :: a17 :: a18 :: a19 :: a20 :: a21 :: some v :: r) H):wj 22 v (a0 :: a1 :: a2 :: a3 :: a4 :: a5 :: a6 :: a7 :: a8 :: a9 :: a10 :: a11 :: a12 :: a13 :: a14 :: a15 :: a16 :: a17 :: a18 :: a19 :: a20 :: a21 :: a22 :: r) H N:=h
theorem g23 {a0 a1 a2 a3 a4 a5 a6 a7 a8 a9 a10 a11 a12 a13 a14 a15 a16 a17 a18 a19 a20 a21 a22 a23:Option V} {r:St} {N:St->Hp->Prop} (h:N (a0 :: a1 :: a2 :: a3 :: a4 :: a5 :: a6 :: a7 :: a8 :: a9 :: a10 :: a11 :: a12 :: a13 :: a14 :: a15 :: a16 :: a17 :: a18 :: a19 :: a20 :: a21 :: a22 :: some v :: r) H):wj 23 v (a0 :: a1 :: a2 :: a3 :: a4 :: a5 :: a6 :: a7 :: a8 :: a9 :: a10 :: a11 :: a12 :: a13 :: a14 :: a15 :: a16 :: a17 :: a18 :: a19 :: a20 :: a21 :: a22 :: a23 :: r) H N:=h
theorem ya0 {n:Nat} {tg:TGs} {xs:List V} {N:St->Hp->Prop} (hq:SqT K H a xs) (hl:xs.length=n) (h:tg xs σ H N):ytw K n tg (.ref a) σ H N:=⟨a,xs,rfl,hq,hl,h⟩
theorem yqo {tg:TG} {us:TGs} {r:List V} {N:St->Hp->Prop} (h:tg v σ H fun σ' H'=>us r σ' H' N):jl tg us (v :: r) σ H N:=⟨v,r,rfl,h⟩
theorem yy7 {N:St->Hp->Prop} (h:N σ H):ylx [] σ H N:=⟨rfl,h⟩
theorem z0 {p:Prop} [Decidable p] (h1:p->A) (h2:¬ p->B):if decide p=true then A else B:=by
 by_cases h:p
 .rw [if_pos (bx h)]; exact h1 h
 .rw [if_neg (by simp [h])]; exact h2 h
theorem ŧ {p:Prop} [Decidable p] (hp:p) (h:A):if decide p=true then A else B:=by rw [if_pos (bx hp)]; exact h
theorem yfa {p:Prop} [Decidable p] (hp:¬ p) (h:B):if decide p=true then A else B:=by rw [if_neg (by simp [hp])]; exact h
theorem yte {p:Prop} [Decidable p] (hp:p) (h:B):if (!decide p)=true then A else B:=by rw [if_neg (by simp [hp])]; exact h
theorem ysh {p:Prop} [Decidable p] (hp:¬ p) (h:A):if (!decide p)=true then A else B:=by rw [if_pos (by simp [hp])]; exact h
theorem yn6 {p:Prop} [Decidable p] (h1:p->B) (h2:¬ p->A):if (!decide p)=true then A else B:=by
 by_cases h:p
 .exact yte h (h1 h)
 .exact ysh h (h2 h)
theorem vbc (h:B):if (!true)=true then A else B:=ē h
theorem vct (h:A):if (!false)=true then A else B:=ī h
theorem xk {f:Str} {r:List (Str × V)}:List.lookup f ((f,v) :: r)=some v:=by simp [List.lookup]
theorem vz {f g:Str} {r:List (Str × V)} {o:Option V} (h:¬ f=g) (e:List.lookup f r=o):List.lookup f ((g,v) :: r)=o:=by
 have a:(f == g)=false:=by simp [h]
 simp [List.lookup,a,e]
theorem ü {f:Str}:List.lookup f ([]:List (Str × V))=none:=rfl
theorem xj {f:Str} {r:List (Str × V)}:jk f v ((f,x) :: r)=(f,v) :: r:=by simp [jk]
theorem y9 {f g:Str} {r r':List (Str × V)} (h:¬ g=f) (e:jk f v r=r'):jk f v ((g,x) :: r)=(g,x) :: r':=by simp [jk,h,e]
theorem wl {f:Str}:jk f v []=[(f,v)]:=rfl
theorem uq {c:Addr} {o o':HO} (hn:H a=none) (h:H c=some o):upd H a o' c=some o:=by rw [yk (yb h hn)]; exact h
theorem yf {c:Addr} {o o':HO} (hn:c≠a) (h:H c=some o):upd H a o' c=some o:=by rw [yk hn]; exact h
theorem yx {o:HO} (hn:H a=none):yq H (upd H a o):=fun _ _ h=>uq hn h
theorem yq.tup {H':Hp} {xs:List V} (e:yq H H') (h:SqT K H a xs):SqT K H' a xs:=by
 rcases h with (h | ⟨o,h⟩) | h
 .exact .inl (.inl (e _ _ h))
 .exact .inl (.inr ⟨o,e _ _ h⟩)
 .exact .inr h
theorem yat {tb:TS} {W:Nat->St->Hp->Prop} {m:Nat} (h:tb ⟨fun σ' H'=>∃ m',m' < m/\W m' σ' H',rt,nx,fun σ' H'=>∃ m',m' < m/\W m' σ' H'⟩ σ H) :
  ∃ N:St->Hp->Prop,(∀ σ' H',N σ' H'->∃ m',m' < m/\W m' σ' H')/\tb ⟨N,rt,nx,N⟩ σ H:=⟨_,fun _ _ q=>q,h⟩
theorem yve {sp:Sp} {dvs:List V} {E:XK} (h:tr σ H fun vs H1=>∀ x dx,H1 x=none->H1 dx=none->dx≠x->sp (.ref x :: (vs++dvs)) (upd (upd H1 dx (.own x)) x (.ins C dx [])) (fun v H2=>v=.non/\Q (.ref x) H2) E):ys8 C sp dvs E tr σ H Q:=h
theorem vey {r:V->List V->Hp->VK->Prop} (h:ta σ H fun x H1=>tyV K T x H1/\tr σ H1 fun xs H2=>r x xs H2 Q):tBM K T r ta tr σ H Q:=h
theorem vbo {r:V->List V->Hp->VK->Prop} (h:ta σ H fun x H1=>tyV K T x H1/\r x [] H1 Q):vdn K T r ta σ H Q:=h
theorem uc {xs:List V} (h:H p=some (.lst xs)) (k:A):tyV K "list" (.ref p) H/\A:=⟨.inl ⟨rfl,_,SqL.of h⟩,k⟩
theorem w9 {l:Addr} {xs:List V} (h:H l=some (.lst xs)) (hz:xs.length < sizeLine) (k:Q .non (upd H l (.lst (xs++[y])))):yhq (.ref l) [y] H Q:=⟨l,xs,y,rfl,rfl,h,hz,k⟩
theorem yah {l:Addr} {xs:List V} (h:H l=some (.lst xs)) (k:Q .non (upd H l (.lst xs.reverse))):ydj (.ref l) [] H Q:=⟨l,xs,rfl,rfl,h,k⟩
theorem zg {ys:List V} {P:List V->Prop} (h:SqL K H p ys) (k:P ys):∃ p' ys',[V.ref p]=[V.ref p']/\(SqL K H p' ys'\/SqT K H p' ys')/\P ys':=⟨p,ys,rfl,.inl h,k⟩
theorem ymk {ys:List V} {P:List V->Prop} (h:SqT K H p ys) (k:P ys):∃ p' ys',[V.ref p]=[V.ref p']/\(SqL K H p' ys'\/SqT K H p' ys')/\P ys':=⟨p,ys,rfl,.inr h,k⟩
theorem yc1 {ys:List V} {P:List V->Prop} (h:SqL K H p ys) (k:P ys):∃ p' ys',[V.ref p]=[V.ref p']/\(SqL K H p' ys'\/SqT K H p' ys')/\P ys':=⟨p,ys,rfl,.inl h,k⟩
theorem yci {xs:List V} (h:SqL K H p xs) (e:atI xs i=some v) (k:Q v H):vdy K (.ref p) (.int i) H Q:=⟨p,xs,i,v,rfl,rfl,h,e,k⟩
theorem Ŧ {xs:List V} (h:SqT K H p xs) (e:atI xs i=some v) (k:Q v H):yn5 K (.ref p) (.int i) H Q:=⟨p,xs,i,v,rfl,rfl,h,e,k⟩
theorem yll {xs:List V} {lo hi:Option Int} (h:SqL K H p xs) (k:∀ q,H q=none->Q (.ref q) (upd H q (.lst (yd7 xs lo hi)))):vds K (.ref p) lo hi H Q:=⟨p,xs,rfl,h,k⟩
theorem ydg {xs:List V} (n:Nat):yd7 xs none (some (n:Int))=xs.take n:=by
 unfold yd7;rw [HT.sIx_none,HT.sIx_nat,List.drop_zero,Nat.sub_zero];rcases Nat.le_total n xs.length with h | h
 .rw [Nat.min_eq_left h]
 .rw [Nat.min_eq_right h,cE (bp _),cE h]
theorem vcg {wi:TI} {g:TG} {tb:TS} (h:wi σ H fun J H1=>∃ W:Nat->Nat->St->Hp->Prop,(∃ m,W 0 m σ H1)/\∀ i m σ H,W i m σ H ->
  (J.stop i H/\D.nx σ H)\/(J.go i H/\∃ N:St->Hp->Prop,(∀ σ' H',N σ' H'->∃ m',m' < m/\W (i+1) m' σ' H')/\∀ x H',J.yld i H x H'->g x σ H' fun σ2 H2=>tb { D with nx:=N,ct:=N,bk:=D.nx } σ2 H2)):veb wi g tb D σ H:=h
theorem yox {R:It->Hp->Prop} (h:ta σ H fun x H1=>∃ a,x=.ref a/\(∃ xs,SqL K H1 a xs)/\R (Itl K a) H1):yz5 K ta σ H R:=h
theorem yxg {R:It->Hp->Prop} (h:ta σ H fun x H1=>∃ a,x=.ref a/\(∃ xs,SqT K H1 a xs)/\R (Itt K a) H1):vd1 K ta σ H R:=h
theorem ypu {R:It->Hp->Prop} (h:tr σ H fun vs H1=>∃ j:Int,vs=[.int j]/\-(2 ^ 62) <= j/\j < 2 ^ 62/\R (Itr 0 j.toNat) H1):yzs tr σ H R:=h
theorem ψ {n m:String} {k:Bool} {P:Bool->Prop} (ty:xp K H x (.type n)) (e:W.kitOne K (.type n) (.type m)=some k) (h:P k) :
  ∃ x' cv t c k',[x,V.ty m]=[x',cv]/\w8 cv c/\(∀ u,w8 cv u->u=c)/\xp K H x' t/\W.kitOne K t c=some k'/\P k':=⟨x,.ty m,.type n,.type m,k,rfl,rfl,fun _ r=>r,ty,e,h⟩
theorem yzl {k:Int} (hc:vaz i j) (e:i ^ j.toNat=k) (h:Q (.int k) H):vb7 k (.int i) (.int j) H Q:=⟨i,j,rfl,rfl,hc,e,h⟩
theorem yqw (h:nx σ H):vj nx σ H:=h
end
def yid:V->Bool
 | .int _=>true
 | .bl _=>true
 | _=>false
def yb4:V->Bool
 | .bl _=>true
 | _=>false
def zw:V->Bool
 | .int _=>true
 | _=>false
theorem yjs (K:W.Frag) (n:String):W.kitOne K (.type n) (.type n)=some true:=by
 unfold W.kitOne;rw [if_pos (by simp)]
theorem yhr {K:W.Frag} {H:Hp} {x:V} {n:String} (ty:xp K H x (.type n)):W.kitOne K (.type n) (.type "int")=some (yid x):=by
 cases ty <;> rfl
theorem ycr {K:W.Frag} {H:Hp} {x:V} {n:String} (ty:xp K H x (.type n)):W.kitOne K (.type n) (.type "bool")=some (yb4 x):=by
 cases ty <;> rfl
end L2
namespace SpanMath
def Ch (c:Int):Prop:=32768 <= c/\c <= 16744448
def ren (l w s:Int):Int × Int × Int :=
 if w < 4294967296 then (if w * 256 < 4294967296 then (l * 65536,w * 65536,s+2) else (l * 256,w * 256,s+1)) else (l,w,s)
def cut (w c:Int):Int:=w * c / 16777216
def nar (x:Int × Int × Int) (c b:Int):Int × Int × Int :=
 if b=1 then ren x.1 (cut x.2.1 c) x.2.2 else ren (x.1+cut x.2.1 c) (x.2.1 - cut x.2.1 c) x.2.2
def s0:Int × Int × Int:=(0,1099511627776,5)
theorem yjb {l w s:Int} (h:w < 4294967296) (h2:8388608 <= w):ren (l * 256) (w * 256) (s+1)=ren l w s:=by
 unfold ren;rw [if_pos h];by_cases h3:w * 256 < 4294967296
 .rw [if_pos h3,if_pos h3,if_neg (by omega)];refine Prod.ext ?_ (Prod.ext ?_ ?_)
  .show l * 256 * 256=l * 65536; omega
  .show w * 256 * 256=w * 65536; omega
  .show s+1+1=s+2; omega
 .rw [if_neg h3,if_neg h3]
theorem yoi {l w s:Int} (h:¬ w < 4294967296):ren l w s=(l,w,s):=by
 unfold ren; rw [if_neg h]
theorem yaz {w c:Int} (hw:4294967296 <= w) (hw2:w <= 1099511627776) (hc:Ch c):8388608 <= cut w c/\8388608 <= w - cut w c/\cut w c < 1099511627776:=by
 obtain ⟨b,e⟩:=hc;have a:w * 32768 <= w * c:=cz b (by omega);have d:w * c <= w * 16744448:=cz e (by omega);unfold cut;generalize w * c=p at a d ⊢;omega
structure Ok (x:Int × Int × Int):Prop where
 l0:0 <= x.1
 w0:4294967296 <= x.2.1
 w1:x.2.1 <= 1099511627776
 z:5 <= x.2.2
theorem ok0:Ok s0:=⟨by decide,by decide,by decide,by decide⟩
theorem yl5 {l w s:Int} (h0:0 <= l) (h1:8388608 <= w) (h2:w <= 1099511627776) (h3:5 <= s):Ok (ren l w s):=by
 unfold ren
 split
 .split
  .exists by show 0 <= l * 65536; omega,by show _ <= w * 65536; omega,by show w * 65536 <= _; omega,by show 5 <= s+2; omega
  .exists by show 0 <= l * 256; omega,by show _ <= w * 256; omega,by show w * 256 <= _; omega,by show 5 <= s+1; omega
 .exists h0,by show _ <= w; omega,h2,h3
theorem yub {x:Int × Int × Int} {c b:Int} (h:Ok x) (hc:Ch c):Ok (nar x c b):=by
 obtain ⟨a,e,d⟩:=yaz h.w0 h.w1 hc;have:=h.l0; have:=h.w0; have:=h.w1; have:=h.z;unfold nar
 split
 .exact yl5 (by omega) (by omega) (by omega) (by omega)
 .exact yl5 (by omega) (by omega) (by omega) (by omega)
end SpanMath
namespace SpanMath
def pw:Nat->Int
 | 0=>1
 | k+1=>pw k * 256
theorem ul:∀ k,0 < pw k
 | 0=>by decide
 | k+1=>by have:=ul k; show 0 < pw k * 256; omega
theorem yd6 (a:Nat):∀ b,pw (a+b)=pw a * pw b
 | 0=>by simp [pw]
 | b+1=>by
  show pw (a+b) * 256=pw a * (pw b * 256);rw [yd6 a b,Int.mul_assoc]
theorem yhu {a b:Nat} (h:a <= b):pw a <= pw b:=by
 obtain ⟨c,rfl⟩:=Nat.exists_eq_add_of_le h;rw [yd6];have e:=ul a;have d:=ul c
 calc pw a=pw a * 1:=by omega
  _ <= pw a * pw c:=cz (by omega) (by omega)
theorem yzv {a b:Nat} (h:pw a < pw b):a < b:=by
 apply Nat.lt_of_not_le;intro q;have:=yhu q;omega
def lo:Nat->Int->List Int
 | 0,_=>[]
 | k+1,n=>n % 256 :: lo k (n / 256)
def wr (k:Nat) (n:Int):List Int:=(lo k n).reverse
theorem ymm:∀ k n,(lo k n).length=k
 | 0,_=>rfl
 | k+1,n=>by simp [lo,ymm k]
theorem ywh (k:Nat) (n:Int):(wr k n).length=k:=by simp [wr,ymm]
theorem yhd:∀ k n,∀ x∈lo k n,0 <= x/\x <= 255
 | 0,_,x,h=>by simp [lo] at h
 | k+1,n,x,h=>by
  simp only [lo,bB] at h;rcases h with rfl | h
  .omega
  .exact yhd k _ x h
theorem yo1 (k:Nat) (n:Int):∀ x∈wr k n,0 <= x/\x <= 255:=fun x h=>yhd k n x (by simpa [wr] using h)
theorem yoh (k:Nat) (n:Int):wr (k+1) n=wr k (n / 256)++[n % 256]:=by simp [wr,lo]
def val (xs:List Int):Int:=xs.foldl (fun a b=>a * 256+b) 0
theorem ycz (xs:List Int) (b:Int):val (xs++[b])=val xs * 256+b:=by simp [val,List.foldl_append]
theorem ynx:∀ (k:Nat) (n:Int),0 <= n->n < pw k->val (wr k n)=n
 | 0,n,h0,h1=>by
  have:n < 1:=h1;have:n=0:=by omega
  subst this; rfl
 | k+1,n,h0,h1=>by
  have a:n < pw k * 256:=h1;rw [yoh,ycz,ynx k (n / 256) (by omega) (by omega)];omega
def vef:Nat->Int->Int->Nat
 | 0,_,_=>0
 | n+1,a,b=>if a=b then 0 else vef n (a / 256) (b / 256)+1
end SpanMath
namespace SpanMath
abbrev Sn:=Int × Int × Int
def sz (x:Sn):Nat:=x.2.2.toNat
structure OkS (x:Sn):Prop where
 ok:Ok x
 top:x.1+x.2.1 <= pw (sz x)
theorem OkS.sz {x:Sn} (h:OkS x):((sz x:Nat):Int)=x.2.2:=by
 have:=h.ok.z;unfold SpanMath.sz;omega
theorem OkS.sz5 {x:Sn} (h:OkS x):5 <= SpanMath.sz x:=by
 have:=h.ok.z;unfold SpanMath.sz;omega
theorem vc2:OkS s0:=⟨ok0,by decide⟩
structure Sub (x y:Sn) (r:Nat):Prop where
 z:sz y=sz x+r
 l:x.1 * pw r <= y.1
 h:y.1+y.2.1 <= (x.1+x.2.1) * pw r
theorem yhy {l w s:Int} (hs:0 <= s):∃ r,Sub (l,w,s) (ren l w s) r/\(ren l w s).2.1=w * pw r/\(ren l w s).1=l * pw r:=by
 unfold ren
 split
 .split
  .refine ⟨2,⟨?_,?_,?_⟩,?_,?_⟩
   .show (s+2).toNat=s.toNat+2; omega
   .show l * (1 * 256 * 256) <= l * 65536; omega
   .show l * 65536+w * 65536 <= (l+w) * (1 * 256 * 256); omega
   .show w * 65536=w * (1 * 256 * 256); omega
   .show l * 65536=l * (1 * 256 * 256); omega
  .refine ⟨1,⟨?_,?_,?_⟩,?_,?_⟩
   .show (s+1).toNat=s.toNat+1; omega
   .show l * (1 * 256) <= l * 256; omega
   .show l * 256+w * 256 <= (l+w) * (1 * 256); omega
   .show w * 256=w * (1 * 256); omega
   .show l * 256=l * (1 * 256); omega
 .refine ⟨0,⟨?_,?_,?_⟩,?_,?_⟩
  .rfl
  .show l * 1 <= l; omega
  .show l+w <= (l+w) * 1; omega
  .show w=w * 1; omega
  .show l=l * 1; omega
theorem ypj {x:Sn} {c b:Int} (h:Ok x) (hc:Ch c):∃ r,Sub x (nar x c b) r:=by
 obtain ⟨g,j,i⟩:=yaz h.w0 h.w1 hc;have f:=h.l0; have k:=h.z;unfold nar
 split
 .obtain ⟨r,⟨e,d,a⟩,_⟩:=yhy (l:=x.1) (w:=cut x.2.1 c) (s:=x.2.2) (by omega);exists r,e,d,Int.le_trans a (ck ?_ (Int.le_of_lt (ul r)));show x.1+cut x.2.1 c <= x.1+x.2.1;omega
 .obtain ⟨r,⟨e,d,a⟩,_⟩:=yhy (l:=x.1+cut x.2.1 c) (w:=x.2.1 - cut x.2.1 c) (s:=x.2.2) (by omega);exists r,e,Int.le_trans (ck ?_ (Int.le_of_lt (ul r))) d,Int.le_trans a (ck ?_ (Int.le_of_lt (ul r)))
  .show x.1 <= x.1+cut x.2.1 c; omega
  .show x.1+cut x.2.1 c+(x.2.1 - cut x.2.1 c) <= x.1+x.2.1; omega
theorem j5 {x:Sn} {c b:Int} (h:OkS x) (hc:Ch c):OkS (nar x c b):=by
 exists yub h.ok hc,?_;obtain ⟨r,q⟩:=ypj (b:=b) h.ok hc;rw [q.z,yd6];exact Int.le_trans q.h (ck h.top (Int.le_of_lt (ul r)))
def blk (l e:Int):Int:=(l+e - 1) / e
def yff (l w:Int) (k:Nat):Prop:=(blk l (pw k)+1) * pw k <= l+w
instance (l w:Int) (k:Nat):Decidable (yff l w k):=inferInstanceAs (Decidable ((blk l (pw k)+1) * pw k <= l+w))
theorem yl0 (l:Int) {e:Int} (h:0 < e):l <= blk l e * e/\blk l e * e < l+e:=by
 unfold blk;have a:=Int.emod_add_mul_ediv (l+e - 1) e;have c:=cH (l+e - 1) (show e≠0 by omega);have b:=cr (l+e - 1) h;rw [Int.mul_comm] at a;generalize (l+e - 1) / e * e=q at a ⊢;omega
theorem yho {l w:Int} {k:Nat} (h:yff l w k):pw k <= w:=by
 have a:=yl0 l (ul k);unfold yff at h;rw [Int.add_mul] at h;omega
def tel (l w:Int):Nat->Nat->Nat
 | 0,k=>k
 | f+1,k=>if yff l w (k+1) then tel l w f (k+1) else k
theorem yj0 {l w:Int} {f k:Nat} (h:yff l w (k+1)):tel l w f (k+1)=tel l w (f+1) k:=by
 rw [tel,if_pos h]
theorem yoe {l w:Int} {f k:Nat} (h:¬ yff l w (k+1)):tel l w f k=k:=by
 cases f with
 | zero=>rfl
 | succ f=>rw [tel,if_neg h]
theorem yda {l w:Int}:∀ {f k:Nat},yff l w k->yff l w (tel l w f k)
 | 0,_,h=>h
 | f+1,k,h=>by
  unfold tel
  split
  .rename_i q; exact yda q
  .exact h
theorem pw5:pw 5=1099511627776:=by decide
theorem ynt {l w:Int} {k:Nat} (hw:w <= 1099511627776) (h:yff l w k):k <= 5:=by
 have b:=yho h;rw [<- pw5] at hw;have a:pw k < pw 6:=Int.lt_of_le_of_lt (Int.le_trans b hw) (by decide);have:=yzv a;omega
def tK (x:Sn):Nat:=tel x.1 x.2.1 5 0
def tCn (x:Sn):Int:=blk x.1 (pw (tK x))
def tL (x:Sn):List Int:=wr (sz x - tK x) (tCn x)
theorem vcv {x:Sn} (h:Ok x):yff x.1 x.2.1 0:=by
 have:=h.w0;show ((x.1+1 - 1) / 1+1) * 1 <= x.1+x.2.1;omega
theorem Š {x:Sn} (h:Ok x):yff x.1 x.2.1 (tK x):=yda (vcv h)
theorem yrc {x:Sn} (h:OkS x):tK x <= 5/\tK x <= sz x:=by
 have b:=ynt h.ok.w1 (Š h.ok);have a:=h.sz5;omega
theorem yie (x:Sn):(tL x).length=sz x - tK x:=ywh _ _
theorem yu2 {x:Sn} (h:Ok x):0 <= tCn x:=by
 have:=h.l0;have:=ul (tK x);exact Int.ediv_nonneg (by omega) (by omega)
theorem yy1 {x:Sn} (h:OkS x):tCn x < pw (sz x - tK x):=by
 have b:(tCn x+1) * pw (tK x) <= x.1+x.2.1:=Š h.ok;have a:=h.top;have e:sz x - tK x+tK x=sz x:=Nat.sub_add_cancel (yrc h).2;rw [<- e,yd6] at a;have c:=Int.le_of_mul_le_mul_right (Int.le_trans b a) (ul (tK x));omega
theorem yuz {x:Sn} (h:OkS x):val (tL x)=tCn x:=ynx _ _ (yu2 h.ok) (yy1 h)
end SpanMath
namespace L2
open PySem PySem.Spec PyProof.Rows
abbrev Cx.comp (X:Cx) (scope:Scope) (C:Addr) (x:Str) (s2:Shared) (H2:Hp) (fp:List Addr):Cx :=
 { X with N:=[x],s₀:=s2,H₀:=H2,env:=compEnv scope C X.env,outer:=X.stack,ex:=fp,fn:=fun _=>true,pn:=[],xe:=fun _ _=>False }
def ĩ (J:It) (te:TE) (D:Addr) (R:Hp->Prop) (H1:Hp):Prop:=∃ W:Nat->Nat->Hp->Prop,(∃ m,W 0 m (upd H1 D (.lst []))) /\
 ∀ i m H2,W i m H2->(J.stop i H2/\R H2)\/(J.go i H2/\∀ x H3,J.yld i H2 x H3->te [some x] H3 fun y H4=>∃ ys,H4 D=some (.lst ys)/\ys.length < sizeLine/\∃ m',m' < m/\W (i+1) m' (upd H4 D (.lst (ys++[y]))))
def vbs (wi:TI) (te:TE):TE:=fun σ H Q=>wi σ H fun J H1=>∀ D,H1 D=none->ĩ J te D (fun H2=>Q (.ref D) H2) H1
section
variable {X:Cx} {iter elt:Expr} {x:Str} {px pos:Pos} {scope:Scope} {te:TE} {wi:TI} {pins:List (Addr × Obj)} {σ:St}
theorem ytu {α:Type} {t:Sem α} {Q Q':α->Shared->Prop} {M:Model} {A:Around} {E:Value->Shared->Prop} {s:Shared} (h:wpAny M A t Q (fun _ _=>False) s) (hQ:∀ a s,Q a s->Q' a s):wpAny M A t Q' E s:=cJ h hQ fun _ _ z=>z.elim
theorem yxd {H:Hp} {Q:VK} (h:wi σ H fun J H1=>∀ D,H1 D=none->ĩ J te D (fun H2=>Q (.ref D) H2) H1):vbs wi te σ H Q:=h
def cW (n:Nat) (Pv:Nat->Hp->Prop) (i m:Nat) (H:Hp):Prop:=m=n - i/\i <= n/\Pv i H
theorem ε {K:W.Frag} {a D:Addr} {xs:List V} {R:Hp->Prop} {H1:Hp} (Pv:Nat->Hp->Prop) (h0:Pv 0 (upd H1 D (.lst []))) (hl:∀ i H,i <= xs.length->Pv i H->SqL K H a xs)
  (hs:∀ i x H,xs[i]?=some x->i < xs.length->Pv i H->te [some x] H fun y H4=>∃ ys,H4 D=some (.lst ys)/\ys.length < sizeLine/\∃ m',m' < xs.length - i/\cW xs.length Pv (i+1) m' (upd H4 D (.lst (ys++[y]))))
  (hd:∀ H,Pv xs.length H->R H):ĩ (Itl K a) te D R H1:=by
 exists cW xs.length Pv,⟨xs.length,by simp,bL _,h0⟩,?_;rintro i m H ⟨rfl,b,p⟩;have q:=hl i H b p;by_cases hlt:i < xs.length
 .refine .inr ⟨⟨xs,xs[i],q,by simp [hlt]⟩,fun x c y=>?_⟩;obtain ⟨e,y⟩:=y;subst e;exact hs i x _ (y xs q) hlt p
 .have e:i=xs.length:=by omega
  subst e;exact .inl ⟨⟨xs,q,bp _⟩,hd H p⟩
theorem u9 {n i:Nat} {Pv:Nat->Hp->Prop} {D:Addr} {ys:List V} {y:V} {H4:Hp} (hD:H4 D=some (.lst ys)) (hl:ys.length < sizeLine) (hi:i < n) (p:Pv (i+1) (upd H4 D (.lst (ys++[y])))) :
  ∃ ys,H4 D=some (.lst ys)/\ys.length < sizeLine/\∃ m',m' < n - i/\cW n Pv (i+1) m' (upd H4 D (.lst (ys++[y]))):=⟨ys,hD,hl,n - (i+1),by omega,rfl,hi,p⟩
end
end L2
namespace L2
open PySem
def ycd:Expr->Bool
 | .Starred _ _=>false
 | _=>true
theorem yh0 {e:Expr} {es:List Expr} {env:Env} (h:ycd e=true):starEach (e :: es) env=(false,eval e env) :: starEach es env:=by
 cases e <;> first | rfl | cases h
end L2
namespace L2
open PySem PySem.Spec PyProof.Rows
variable {C D a x:Addr} {e:Expr} {fd:FuncData} {h':Heap} {pins:List (Addr × Obj)} {P:Program} {scope:Scope} {qual:Str} {cd u:Value} {E Q:Value->Shared->Prop}
structure XCls (K:W.Frag) (C:Addr):Prop where
 hd:W.hasDictIn K C=true
 ga:W.findIn K (.ref C) "__getattribute__"=some (some (.builtin "BaseException.__getattribute__"))
 gt:W.findIn K (.ref C) "__getattr__"=some none
 ca:W.findIn K (.ref C) "__class__"=some (some (.builtin "object.__class__"))
 gg:W.specialIn K (.builtin "object.__class__") "__get__"=some (some (.builtin "getset_descriptor.__get__"))
 tk:W.takesIn K (.builtin "object.__class__")=some true
 mo:W.mroIn K C (.type "object")=some true
 mb:W.mroIn K C (.type "BaseException")=some true
theorem XCls.cl {K:W.Frag} (c:XCls K C):(W.clsIn K C).isSome=true:=by
 obtain ⟨a,h,_⟩:=W.any_some c.hd;rw [h]; rfl
def vdj (x C:Addr) (h:Heap):Prop:=∃ ox,h.get? x=some ox/\ox.cls=.ref C
section
variable {prog:Program} {w:World} {A:Around} {s:Shared} {K:W.Frag}
theorem vdj.type {M:Model} {h:Heap} (I:vdj x C h):W.Looks M h (typeOf (.ref x)) (.ref C):=by
 obtain ⟨c,b,a⟩:=I;exact a ▸ (W.Looks.ld b).andThen .now
end
theorem xc.there {w:World} {H:Hp} {h:Heap} {o:HO} (x:xc P w H h a o):∃ ob,h.get? a=some ob:=by
 cases o with
 | lst xs=>obtain ⟨_,_,_,_,e⟩:=x; exists _,e
 | tup xs=>obtain ⟨_,_,_,ob,e,_⟩:=x; exists _,e
 | dK kvs=>obtain ⟨_,_,_,_,ob,_,_,e,_⟩:=x; exists _,e
 | dT kvs=>obtain ⟨_,_,_,_,ob,_,_,e,_⟩:=x; exists _,e
 | set S n=>obtain ⟨ob,_,_,_,e,_⟩:=x; exists _,e
 | ins C dx fs=>obtain ⟨_,_,_,e,_⟩:=x; exists _,e
 | own y=>exact x
 | xd fs=>obtain ⟨_,⟨_,_,_,e,_⟩,_⟩:=x; exists _,e
 | rng lo hi=>obtain ⟨_,_,_,e⟩:=x; exists _,e
 | frz ob u=>obtain ⟨e,_⟩:=x; exists _,e
 | tbl ps=>exists _,(show h.get? a=some _ from x)
 | met f y=>exists _,(show h.get? a=some _ from x)
 | ext φ=>obtain ⟨_,e,_⟩:=x; exact e
theorem HOk.none_of {w:World} {H:Hp} {h:Heap} (x:HOk P w H h) (e:h.get? a=none):H a=none:=by
 cases q:H a with
 | none=>rfl
 | some u =>
  obtain ⟨b,z⟩:=(x a u q).there;rw [e] at z;cases z
def Fy (X:Cx) (pins:List (Addr × Obj)) (H:Hp) (b:Addr):Prop :=
 H b=none/\b≠X.env.locals/\b∉X.fs/\(b∈X.ex\/X.s₀.heap.get? b=none)/\(∀ y c,X.env.cells.lookup y=some c->c≠b)/\∀ p∈X.pn++pins,p.1≠b
section
variable {X:Cx} {σ:St} {H H':Hp} {s:Shared} {b T:Addr}
theorem ydq (I:Inv X pins σ H s) (hb:s.heap.get? b=none) (hn:H' b=none):Fy X pins H' b:=by
 exists hn,?_,?_,?_,?_,?_
 .rintro rfl;obtain ⟨_,⟨_,_,_,e,_⟩,_⟩:=I.loc;rw [hb] at e; cases e
 .intro z;obtain ⟨_,o,e,_⟩:=I.funs.mem z;rw [hb] at e; cases e
 .by_cases hx:b∈X.ex
  .exact .inl hx
  .refine .inr ?_
   cases q:X.s₀.heap.get? b with
   | none=>rfl
   | some o =>
    obtain ⟨_,e⟩:=I.base.there b o q hx;rw [hb] at e; cases e
 .rintro y c e rfl;obtain ⟨_,_,q,_⟩:=I.cell y c e;rw [hb] at q; cases q
 .intro p a z;have q:=(I.pin p a).1;rw [z,hb] at q; cases q
theorem Inv.fly (I:Inv X pins σ H s) (hx:Fy X pins H x) (hT:Fy X pins H T)
  (keep:∀ b o,b≠x->b≠T->b∉frs X.stack->s.heap.get? b=some o->h'.get? b=some o)
  (slot:∀ b o,b∈frs X.stack->s.heap.get? b=some o->∃ sl,h'.get? b=some { o with slots:=sl }):Inv X pins σ H { s with heap:=h' }:=by
 have a:∀ {y b o},Fy X pins H y->X.s₀.heap.get? b=some o->b∉X.ex->b≠y:=fun {y b o} R e f z=>by
  subst z;rcases R.2.2.2.1 with q | q
  .exact f q
  .rw [e] at q; cases q
 have h:∀ b o,b≠x->b≠T->s.heap.get? b=some o->∃ sl,h'.get? b=some { o with slots:=sl }:=fun b o S M e=>by
  by_cases z:b∈frs X.stack
  .exact slot b o z e
  .exists o.slots,keep b o S M z e
 have g:∀ y c,X.env.cells.lookup y=some c->∀ v,s.heap.IsCell c v->h'.IsCell c v:=fun y c e v ⟨o,D,K⟩=>by
  obtain ⟨sl,q⟩:=h c o (hx.2.2.2.2.1 y c e) (hT.2.2.2.2.1 y c e) D;exists _,q,K
 exists I.ok,I.os,I.bare,⟨fun b o e n A f=>?_,fun b o e n A f=>?_,I.base.free,fun b o e f=>?_,I.base.tups,I.base.frzs,I.base.tbls⟩,?_,fun y c e=>?_,I.free,I.freeC,fun p C=>?_,fun b u e=>?_,I.len
 .refine keep b o (a hx e f) (a hT e f) (fun z=>?_) (I.base.keep b o e n A f);rcases bB.mp (I.stkSub b z) with q | q
  .exact absurd q (bQ (bT (bv e) I.ok.above))
  .exact A q
 .obtain ⟨sl,j⟩:=I.base.slot b o e n A f;obtain ⟨w,t⟩:=h b _ (a hx e f) (a hT e f) j;exists w,t
 .obtain ⟨Y,j⟩:=I.base.there b o e f;obtain ⟨w,t⟩:=h b _ (a hx e f) (a hT e f) j;exists _,t
 .obtain ⟨m,O,Q⟩:=I.loc;exists m,?_,fun i y v j t U=>?_
  .obtain ⟨o,P,N,D,r⟩:=O;obtain ⟨sl,q⟩:=h _ o (Ne.symm hx.2.1) (Ne.symm hT.2.1) D;exists _,P,N,q,r
  .obtain ⟨u,r,l⟩:=Q i y v j t U;exists u,r,?_;rcases l with l | ⟨k,c,e,z⟩
   .exact .inl l
   .exact .inr ⟨k,c,e,g y c e _ z⟩
 .obtain ⟨v,z⟩:=I.cell y c e;exists v,g y c e v z
 .obtain ⟨e,n,F,E,d⟩:=I.pin p C;exists keep p.1 p.2 (hx.2.2.2.2.2 p C) (hT.2.2.2.2.2 p C) (fun z=>?_) e,n,F,E,d;rcases bB.mp (I.stkSub _ z) with q | q
  .exact F q
  .exact E q
 .have G:∀ c v,H c=some v->c≠x/\c≠T/\c∉frs X.stack:=fun c v q =>
   ⟨fun z=>(by rw [z,hx.1] at q; cases q),fun z=>(by rw [z,hT.1] at q; cases q),fun z=>(by rw [I.stkFree c z] at q; cases q)⟩
  refine (I.hok b u e).stay (fun c v B q=>?_) (fun _ q=>q) fun _ _ q=>q
  obtain ⟨L,J,W⟩:c≠x/\c≠T/\c∉frs X.stack:=by
   rcases B with rfl | B
   .exact G _ _ e
   .exact G _ _ B
  exact keep c v L J W q
def Trd (h:Heap) (x T:Addr) (C fl:Value):Prop :=
 ∃ oe vs oT ts a0,h.get? x=some oe/\(oe.cls=C/\vs[0]?=some a0)/\oe.data=.fields vs/\vs[1]?=some (.ref T)/\T≠x/\h.get? T=some oT/\oT.data=.fields ts/\ts[3]?=some fl
def hid (s:Shared) (X:Cx) (x T:Addr):Heap:=W.hideAll s.heap (x :: T :: frs X.stack)
theorem ymj:(hid s X x T).StaysIn s.heap:=fun _ _ e=>W.of_hideAll _ e
theorem yzu:(hid s X x T).get? x=none:=W.hideAll_none _ (.head _)
theorem vcc:(hid s X x T).get? T=none:=W.hideAll_none _ (.tail _ (.head _))
theorem ynr (I:Inv X pins σ H s):s.heap.FunFrames (hid s X x T) X.stack :=
 W.funFrames_hide I.stack fun b c a d=>.tail _ (.tail _ (List.mem_filterMap.mpr ⟨b,c,d⟩))
theorem yw4 {C fl:Value} (t:Trd s.heap x T C fl):∃ a0,s.heap.TracedAtW (hid s X x T) x C a0 fl:=by
 obtain ⟨d,e,j,g,a0,h,k,a,i,l,c,f,b⟩:=t;exists a0,d,e,T,j,g,h,k,a,i,vcc,l,c,f,b
theorem yan {C a0 fl:Value} (I:Inv X pins σ H s) (hx:Fy X pins H x) (hT:Fy X pins H T) (k1:(hid s X x T).StaysIn h') (k2:h'.FunFrames (hid s X x T) X.stack) (k3:h'.TracedAtW (hid s X x T) x C a0 fl)
  (k4:∀ b o,s.heap.get? b=some o->(∀ vs,o.data≠.fields vs)->∃ sl,h'.get? b=some { o with slots:=sl }) :
  Inv X pins σ H { s with heap:=h' }/\∃ T',Fy X pins H T'/\Trd h' x T' C fl:=by
 exists I.fly hx hT (fun b o p v t e=>k1 b o (W.hideAll_get _ e fun z=>?_)) fun b o l e=>?_,?_
 .rcases bB.mp z with z | z
  .exact p z
  .rcases bB.mp z with z | z
   .exact v z
   .exact t z
 .obtain ⟨_,i,a,c⟩:=I.stack.mem l;rw [e] at a; cases a;exact k4 b o e c
 .obtain ⟨r,vs,T',k,y,u,j,h,w,A,f,g,d,n⟩:=k3;exists T',?_,r,vs,k,y,a0,u,j,h,w,f,g,d,n;by_cases q:T'=T
  .rw [q]; exact hT
  .cases e:s.heap.get? T' with
   | none=>exact ydq I e (I.hok.none_of e)
   | some o =>
    have z:T'∈frs X.stack:=Classical.byContradiction fun z=>by
     have:=W.hideAll_get (x :: T :: frs X.stack) e (fun m=>by
      rcases bB.mp m with m | m
      .exact f m
      .rcases bB.mp m with m | m
       .exact q m
       .exact z m)
     rw [show (W.hideAll s.heap (x :: T :: frs X.stack)).get? T'=none from A] at this;cases this
    obtain ⟨_,i,a,c⟩:=k2.mem z;rw [g] at a; cases a;exact absurd d (c _)
end
def CXe (P:Program) (w:World):CXT:=fun outer H s E e s'=>∃ x T C H',e=.ref x/\s'.os=s.os/\AllBare s'.gens/\Un (frs outer) [] H H' s.heap s'.heap/\HOk P w H' s'.heap /\
 (H' x=none/\s.heap.get? x=none)/\(H' T=none/\s.heap.get? T=none)/\Trd s'.heap x T C .none/\E C none H'
def Ũ (X:Cx) (Ex:St->XK):Prop:=∀ (pins:List (Addr × Obj)) (σ:St) (H:Hp) (s':Shared) (x T:Addr) (C:Value),Inv X pins σ H s'->Fy X pins H x->Fy X pins H T->Trd s'.heap x T C .none->Ex σ C none H->X.xe (.ref x) s'
theorem vk.up {w:World} {K:W.Frag} {mg:Str->Option Value} {base:Heap} {CX:CXT} {k:Nat} {f:Addr} {ps:List Str} {sp:Sp} (F:vk P w K mg base CX0 k f fd ps sp):vk P w K mg base CX k f fd ps sp :=
 ⟨F.len,fun A a s H b h g Q E d i m j l=>codeAny_mono (F.run A a s H b h g Q E d i m j l) fun r n c=>by
  cases r with
  | error e=>exact False.elim c
  | ok fl=>cases fl <;> exact c⟩
theorem yz {w:World} {K:W.Frag} {mg:Str->Option Value} {base:Heap} {N:List Str} {f:Addr} {A:Around} {outer:List Env} {s:Shared} {H:Hp} {E:XK} :
  Ũ (vo (CXe P w) P w K mg base N qual scope f cd A outer s H E) (fun _=>E):=by
 intro a σ e j x T C I i r p q;show wpAny _ _ (leaving _ _) _ _ _;obtain ⟨y,n⟩:=yw4 (X:=vo (CXe P w) P w K mg base N qual scope f cd A outer s H E) p;refine wpAny_leaving_nextW (base:=hid j (vo (CXe P w) P w K mg base N qual scope f cd A outer s H E) x T) (L:=s.heap.objs.size) I.ok.frames (ynr I) rfl n ymj yzu fun v ⟨l,u,t,m⟩=>?_;obtain ⟨d,o,g,k⟩:=yan I i r l u t m;have c:∀ {b},Fy (vo (CXe P w) P w K mg base N qual scope f cd A outer s H E) a e b->e b=none/\s.heap.get? b=none:=fun h=>⟨h.1,h.2.2.2.1.resolve_left (by intro z; cases z)⟩;exists x,o,C,e,rfl,d.os,d.bare,d.base,d.hok,c i,c g,k,q
theorem yky {w:World} {K:W.Frag} {mg:Str->Option Value} {base:Heap} {N:List Str} {f:Addr} {A:Around} {outer:List Env} {s:Shared} {H:Hp} {E:XK}
  {pins:List (Addr × Obj)} {σ:St} {H1:Hp} {s1:Shared} {h':Heap} {x:Addr} {C:Value} {vs:List Value} (I:Inv (vo (CXe P w) P w K mg base N qual scope f cd A outer s H E) pins σ H1 s1) (m:Heap.MadeExcOf s1.heap h' x C vs) (q:E C none H1) :
  (vo (CXe P w) P w K mg base N qual scope f cd A outer s H E).xe (.ref x) { s1 with heap:=h' }:=by
 obtain ⟨t,j,_,_⟩:=m.there;have d:Fy (vo (CXe P w) P w K mg base N qual scope f cd A outer s H E) pins H1 x:=ydq I m.new (I.hok.none_of m.new);have e:Inv (vo (CXe P w) P w K mg base N qual scope f cd A outer s H E) pins σ H1 { s1 with heap:=h' }:=I.kept (t':=s1.toks) m.keeps;show wpAny _ _ (leaving _ _) _ _ _
 refine wpAny_leaving_firstW (base:=hid { s1 with heap:=h' } (vo (CXe P w) P w K mg base N qual scope f cd A outer s H E) x x) (L:=s.heap.objs.size) (a0:=.ref t) e.ok.frames (ynr e) rfl j ymj yzu rfl rfl rfl fun i ⟨k,n,l,p⟩=>?_
 obtain ⟨c,o,g,t'⟩:=yan e d d k n l p;have a:∀ {b},Fy (vo (CXe P w) P w K mg base N qual scope f cd A outer s H E) pins H1 b->H1 b=none/\s.heap.get? b=none:=fun h=>⟨h.1,h.2.2.2.1.resolve_left (by intro z; cases z)⟩;exists x,o,C,H1,rfl,c.os,c.bare,c.base,c.hok,a d,a g,t',q
def yiv (sp:Sp) (dvs:List V) (Ex:St->XK) (t:TA):TE:=fun σ H Q=>t σ H fun vs H1=>sp (vs++dvs) H1 Q (Ex σ)
def ya1 (C:Addr) (m:Str) (sp:Sp) (dvs:List V) (Ex:St->XK) (ta:TE) (t:TA):TE:=fun σ H Q=>ta σ H fun x H1=>∃ a dx fs,x=.ref a/\H1 a=some (.ins C dx fs)/\fs.lookup m=none /\
 t σ H1 fun vs H2=>sp (x :: (vs++dvs)) H2 Q (Ex σ)
def ymw (C:Addr) (sp:Sp) (dvs:List V) (Ex:St->XK) (t:TA):TE:=fun σ H Q=>t σ H fun vs H1=>∀ x dx,H1 x=none->H1 dx=none->dx≠x ->
 sp (.ref x :: (vs++dvs)) (upd (upd H1 dx (.own x)) x (.ins C dx [])) (fun v H2=>v=.non/\Q (.ref x) H2) (Ex σ)
section
variable {X:Cx} {k:Nat} {f:Addr} {ps:List Str} {sp:Sp} {dvs:List V} {ds:List Value} {Ex:St->XK} {x m:Str} {p pos apos:Pos} {o:Expr} {es:List Expr} {ta:TE} {t:TA}
theorem Inv.came {σ:St} {H:Hp} {s s':Shared} {v:Value} (I:Inv X pins σ H s) (hc:Ũ X Ex) (h:CXe X.prog X.w X.stack H s (Ex σ) v s'):X.xe v s':=by
 obtain ⟨y,T,D,f,rfl,j,a,g,c,e,d,i,q⟩:=h;exact hc pins σ f s' y T D (I.call' j g c a fun b z=>absurd z (by simp)) (ydq I e.2 e.1) (ydq I d.2 d.1) i q
theorem yg4 {σ:St} {H:Hp} {s:Shared} {Q:VK} {us:List Value} {vs:List V} (F:vk X.prog X.w X.K X.mg X.base (CXe X.prog X.w) k f fd ps sp) (hr:uy k X.A) (hb:uw X.K fd ps ds) (hd:wd dvs ds) (hc:Ũ X Ex)
  (I:Inv X pins σ H s) (r:wd vs us) (h:sp (vs++dvs) H Q (Ex σ)):wpAny (model X.prog X.w) X.A (call (.ref f) us) (EP X pins σ Q) X.xe s:=by
 have b:wd (vs++dvs) (us++ds):=r.append hd;have c:(us++ds).length=ps.length:=by rw [<- b.length]; exact F.len _ _ _ _ h
 refine wpAny_call (codeAny_mono (F.run X.A X.stack s H ⟨us,[]⟩ (us++ds) (vs++dvs) Q (Ex σ) hr I.env0 (hb s us I.kIn c) b h) fun r d a=>?_)
 cases r with
 | error e=>exact I.came hc a
 | ok fl =>
  cases fl with
  | ret u=>exact I.after a
  | next=>exact False.elim a
  | brk=>exact False.elim a
  | cont=>exact False.elim a
theorem yjc (F:vk X.prog X.w X.K X.mg X.base (CXe X.prog X.w) k f fd ps sp) (hr:uy k X.A) (hg:Gl X x) (hm:X.mg x=some (.ref f)) (hk:W.keepIn X.K (.ref f)=true) (hb:uw X.K fd ps ds) (hd:wd dvs ds) (hc:Ũ X Ex)
  (ha:PA X (e :: es) t) (hdb:(x == ("__debug__":Str))=false:=by decide) (he:starEach (e :: es) X.env=(false,eval e X.env) :: starEach es X.env:=by rfl) (hpl:(backTo pos (starEach es X.env)).any (·.1)=false:=by rfl) :
  PE X (.Call (.Name x p) (e :: es) [] pos) (yiv sp dvs Ex t):=by
 refine .mk fun a s σ H Q I h=>?_;refine wpAny_Call_Name_kw (j3 I hg hm ?_ hdb);refine W.callWith_K (h₀:=X.base) I.ok.mod.kin hk (thn (ha pos a s σ H _ I h) fun g c ⟨d,i,b,r,q⟩=>⟨b.kIn,?_⟩) he hpl;exact yg4 F hr hb hd hc b r q
theorem vw {pl:Sem Bool} (he:PE X o ta) (c:Cls X.K C) (hm:yts X.K C m f) (F:vk X.prog X.w X.K X.mg X.base (CXe X.prog X.w) k f fd ps sp) (hr:uy k X.A) (hb:uw X.K fd ps ds) (hd:wd dvs ds) (hc:Ũ X Ex) (ha:PA X (e :: es) t)
  (hst:starEach (e :: es) X.env=(false,eval e X.env) :: starEach es X.env:=by rfl) (hpl:(backTo pos (starEach es X.env)).any (·.1)=false:=by rfl)
  (ht:eval (.Call (.Attribute o m apos) (e :: es) [] pos) X.env=(do
   let ov <- eval o X.env
   standAt apos.atName
   let (f,first) <- holding [ov] (getMethod ov m pl)
   callWith pos f first (backTo pos (starEach (e :: es) X.env)) (backToKw pos (keywordEach [] X.env))):=by rfl) :
  PE X (.Call (.Attribute o m apos) (e :: es) [] pos) (ya1 C m sp dvs Ex ta t):=by
 refine .mk fun b s σ H Q I h=>?_;refine W.methodCall_KW (pl:=pl) (thn (he b s σ H _ I h) fun u i h'=>?_) ht;obtain ⟨x,y,d,n,a,E,z,v,j,l,q⟩:=h';subst v;obtain rfl:u=Value.ref a:=n;refine Ã d j c hm l ?_
 refine W.callWith_K (first:=[.ref a]) (h₀:=X.base) I.ok.mod.kin hm.kp (thn (ha pos b i σ y _ d q) fun us B ⟨vs,D,g,r,p⟩=>⟨g.kIn,?_⟩) hst hpl
 exact yg4 (us:=.ref a :: us) (vs:=.ref a :: vs) F hr hb hd hc g (.cons rfl r) p
theorem yfr {σ:St} {H:Hp} {s:Shared} {Q:VK} {us:List Value} {vs:List V} (M:Mk X.K C f) (F:vk X.prog X.w X.K X.mg X.base (CXe X.prog X.w) k f fd ps sp) (hr:uy (k+1) X.A) (hb:uw X.K fd ps ds) (hd:wd dvs ds)
  (hc:Ũ X Ex) (I:Inv X pins σ H s) (r:wd vs us)
  (h:∀ x dx,H x=none->H dx=none->dx≠x->sp (.ref x :: (vs++dvs)) (upd (upd H dx (.own x)) x (.ins C dx [])) (fun v H2=>v=.non/\Q (.ref x) H2) (Ex σ)) :
  wpAny (model X.prog X.w) X.A (call (.ref C) us) (EP X pins σ Q) X.xe s:=by
 have d:=h (s.heap.objs.size+1) s.heap.objs.size (I.hok.fresh (Nat.le_succ _)) (I.hok.fresh (bp _)) (bQ (cP _));have b:=Inv.made (C:=C) I;have c:wd (V.ref (s.heap.objs.size+1) :: (vs++dvs)) (Value.ref (s.heap.objs.size+1) :: (us++ds)):=.cons rfl (r.append hd)
 have m:(Value.ref (s.heap.objs.size+1) :: us++ds).length=ps.length:=by
  have e:=c.length;rw [F.len _ _ _ _ d] at e;exact e.symm
 refine wpAny_call (ydf (f:=f) I.kIn M.makes M.init (beq_iff_eq.mp M.fn) (codeAny_mono (F.run _ X.stack _ _ ⟨Value.ref (s.heap.objs.size+1) :: us,[]⟩ (Value.ref (s.heap.objs.size+1) :: (us++ds)) _ _ (Ex σ) (hr.make C us [])
  (b.env0.make C us []) (hb _ (Value.ref (s.heap.objs.size+1) :: us) b.kIn m) c d) fun r o a=>?_))
 cases r with
 | error e=>exact b.came hc a
 | ok fl =>
  cases fl with
  | ret u =>
   obtain ⟨v,g,n,l,i,j⟩:=b.after a;subst i;exists l,⟨V.ref (s.heap.objs.size+1),g,n,rfl,j⟩
  | next=>exact False.elim a
  | brk=>exact False.elim a
  | cont=>exact False.elim a
theorem je (M:Mk X.K C f) (F:vk X.prog X.w X.K X.mg X.base (CXe X.prog X.w) k f fd ps sp) (hr:uy (k+1) X.A) (hg:Gl X x) (hm:X.mg x=some (.ref C)) (hb:uw X.K fd ps ds) (hd:wd dvs ds) (hc:Ũ X Ex)
  (ha:PA X (e :: es) t) (hdb:(x == ("__debug__":Str))=false:=by decide) (he:starEach (e :: es) X.env=(false,eval e X.env) :: starEach es X.env:=by rfl) (hpl:(backTo pos (starEach es X.env)).any (·.1)=false:=by rfl) :
  PE X (.Call (.Name x p) (e :: es) [] pos) (ymw C sp dvs Ex t):=by
 refine .mk fun a s σ H Q I h=>?_;refine wpAny_Call_Name_kw (j3 I hg hm ?_ hdb);refine W.callWith_K (h₀:=X.base) I.ok.mod.kin M.kp (thn (ha pos a s σ H _ I h) fun g c ⟨d,i,b,r,q⟩=>⟨b.kIn,?_⟩) he hpl;exact yfr M F hr hb hd hc b r q
end
theorem PS.nox {X:Cx} {st:Stmt} {t:TS} (h:PS X.nox st t):PS X st t:=.mk fun a s σ H D I b =>
 cJ (h a s σ H D (I.wish _) b) (fun _ _ q=>q.unwish) fun _ _ z=>False.elim z
section
variable {w:World} {K:W.Frag} {mg:Str->Option Value} {base:Heap}
theorem ww {X:Cx}:Ũ X (fun _ _ _ _=>False):=fun _ _ _ _ _ _ _ _ _ _ _ q=>q.elim
theorem Fun.okE {x:Str} {st:Stmt} {f:Addr} {N ps:List Str} {k:Nat} {sp:Sp} (F:Fun K x qual st f fd) (S:yh N ps (yc st)) (len:∀ vs H Q E,sp vs H Q E->vs.length=ps.length)
  (hbody:∀ (cdv:Value) (A:Around) (outer:List Env) (s:Shared) (H:Hp) (vs:List V) (Q:VK) (E:XK),uy k (A.deeper (envOfC qual (yc st) s.heap.objs.size f cdv))->sp vs H Q E ->
   ∃ t,PSs (vo (CXe P w) P w K mg base N qual (yc st) f cdv A outer s H E) (vt st) t/\t { nx:=fun _ H'=>Q .non H',rt:=Q } (Ë N vs) H):vk P w K mg base (CXe P w) (k+1) f fd ps sp:=by
 obtain ⟨m,l,kV,e,i,j,cdv,h,g,rfl,c,b⟩:=F.ex;exact ylr c b S len fun A outer s H vs Q E d a=>hbody cdv A outer s H vs Q E d a
end
abbrev bmV:List Value:=[.type "ValueError",.type "Exception",.type "BaseException",.type "object"]
abbrev XMk (K:W.Frag) (C:Addr):Prop:=W.excIn K C bmV "ValueError.__new__"=true
theorem yov {K:W.Frag} {h:Heap} {bmB:List Value} {newId:String} (X:K.In h) (q:W.excIn K C bmB newId=true) :
  ∃ bm N nm qn bs hdct sn sub ab col dd k0 k1 k2 k3 k5 mN,h.get? C=some (excClassObj nm qn C N bs bm hdct sn sub ab col dd k0 k1 k2 k3 k5 newId)/\h.Ns N mN/\mN "__init__"=none/\OwnTail h bmB bm:=by
 unfold W.excIn at q
 split at q
 .rename_i dd cd sl ho
  split at q
  .rename_i C' bm k0 k1 k2 k3 n k5 hm d
   simp only [bO,beq_iff_eq,Bool.not_eq_true'] at q;obtain ⟨⟨⟨⟨⟨rfl,rfl⟩,a⟩,j⟩,b⟩,c⟩:=q;obtain ⟨nm,bs,e,f,qn,i,sn,sub,ab,col,g⟩:=cd;dsimp only at hm a b c;subst hm a;obtain ⟨l⟩:=sl;have d:l=[k0,k1,k2,k3,some (.builtin n),k5]:=d;subst d;exists bm,f,nm,qn,bs,i,sn,sub,ab,col,dd,k0,k1,k2,k3,k5,_,X _ _ ho,.of_isNs (W.isNs_of_in X b),W.nsMap_none_of_in X b c,W.tail_of_in X j
  .cases q
 .cases q
def yl4 (E:XK) (C:Addr) (t:TA):TS:=fun _ σ H=>t σ H fun vs H1=>vs.length <= sizeLine/\E (.ref C) none H1
theorem w5 {w:World} {K:W.Frag} {mg:Str->Option Value} {base:Heap} {N:List Str} {f:Addr} {A:Around} {outer:List Env} {s:Shared} {H:Hp} {E:XK}
  {C:Addr} {x:Str} {np cpos pos:Pos} {e₀:Expr} {jj:List Expr} {t:TA} (hg:Gl (vo (CXe P w) P w K mg base N qual scope f cd A outer s H E) x) (hm:mg x=some (.ref C)) (hC:XMk K C)
  (ha:PA (vo (CXe P w) P w K mg base N qual scope f cd A outer s H E) (e₀ :: jj) t)
  (he:starEach (e₀ :: jj) (envOfC qual scope s.heap.objs.size f cd)=(false,eval e₀ (envOfC qual scope s.heap.objs.size f cd)) :: starEach jj (envOfC qual scope s.heap.objs.size f cd):=by rfl)
  (hplain:(backTo cpos (starEach jj (envOfC qual scope s.heap.objs.size f cd))).any (·.1)=false:=by rfl) (hdb:(x == ("__debug__":Str))=false:=by decide) :
  PS (vo (CXe P w) P w K mg base N qual scope f cd A outer s H E) (.Raise (some (.Call (.Name x np) (e₀ :: jj) [] cpos)) none pos) (yl4 E C t):=by
 refine .mk fun a k σ u D I h=>?_;obtain ⟨j,n,nm,q,bs,hdct,sn,sub,ab,col,dd,k0,k1,k2,k3,k5,mN,g,p,d,T⟩:=yov I.mod.kin hC;refine wpAny_Raise_call_subT (C:=C) (nm:=nm) (q:=q) (N:=n) (bs:=bs) (bm:=j) (hdct:=hdct) (sn:=sn) (sub:=sub) (ab:=ab) (col:=col) (dd:=dd) (k0:=k0) (k1:=k1) (k2:=k2) (k3:=k3) (k5:=k5)
  F.excBase_ValueError (mN:=mN) (T.hasType F.excBase_ValueError.hasBase) (I.ok.hd rfl) (by
   show (backTo cpos (starEach (e₀ :: jj) (envOfC qual scope s.heap.objs.size f cd))).any (·.1)=false;rw [he]; show (false || (backTo cpos (starEach jj (envOfC qual scope s.heap.objs.size f cd))).any (·.1))=false; rw [hplain]; rfl) d (j3 I hg hm ⟨rfl,?_⟩ hdb)
 have i:=ha cpos a k σ u _ I h;have c:starEach (e₀ :: jj) (vo (CXe P w) P w K mg base N qual scope f cd A outer s H E).env=(false,eval e₀ (vo (CXe P w) P w K mg base N qual scope f cd A outer s H E).env) :: starEach jj (vo (CXe P w) P w K mg base N qual scope f cd A outer s H E).env:=he;rw [c] at i ⊢;refine Calls.evalArgs_plain (cJ i (by rintro v s₂ ⟨G,B,b,r,o,l⟩; exact ⟨rfl,by rw [<- r.length]; exact o,b.bk _ _ g,p.keeps b.bk,T.keeps b.bk,fun z y m=>yky b m l⟩) fun _ _ y=>y)
section
variable {X:Cx} {σ:St} {H:Hp} {s:Shared} {T:Addr}
abbrev Cx.pnd (X:Cx) (pn:List (Addr × Obj)):Cx:={ X with pn:=pn }
theorem Cx.Ok.pnd (ok:X.Ok) (pn:List (Addr × Obj)):(X.pnd pn).Ok :=
 ⟨ok.mod,ok.kind,ok.glob,ok.blt,ok.above,ok.inj,ok.has,ok.cab,ok.hd,ok.frames,ok.stk,ok.exf,ok.bs,ok.bsz,ok.noex,ok.exfs,ok.funs,ok.frf⟩
theorem Inv.pnd (I:Inv X pins σ H s):Inv (X.pnd (X.pn++pins)) [] σ H s :=
 ⟨I.ok.pnd _,I.os,I.bare,I.base,I.loc,I.cell,I.free,I.freeC,fun p a=>I.pin p (by simpa using a),I.hok,I.len⟩
def XT (Y:Cx) (Ex:St->XK) (e:Value) (s':Shared):Prop:=∃ pins σ H x T C,e=.ref x/\Inv Y pins σ H s'/\Fy Y pins H x/\Fy Y pins H T/\Trd s'.heap x T C .none/\Ex σ C none H
abbrev Cx.tr (X:Cx) (pn:List (Addr × Obj)) (Ex:St->XK):Cx:=(X.pnd pn).wish (XT (X.pnd pn) Ex)
end
variable {X:Cx}
def Ĭ.un (D:Ĭ) (i:Nat):Ĭ:=⟨fun σ H=>D.nx (σ.set i none) H,D.rt,fun σ H=>D.bk (σ.set i none) H,fun σ H=>D.ct (σ.set i none) H⟩
def exT (K:W.Frag) (D:Addr) (i:Nat) (ts:TS) (En:Ĭ):St->XK:=fun σ' C _ H'=>∀ x,H' x=none->∃ Ca,C=.ref Ca/\W.exmOne K (.ref Ca) (.ref D)=some true/\ts (En.un i) (σ'.set i (some (.ref x))) (upd H' x (.ext (vdj x Ca)))
def vel (K:W.Frag) (D:Addr) (i:Nat) (tb:(St->XK)->TS) (ts:TS):TS:=fun En σ H=>tb (exT K D i ts En) En σ H
section
variable {σ:St} {H:Hp} {Q:VK} {tr:TA} {ta:TE} {nx:St->Hp->Prop} {rt:VK} {bk ct:St->Hp->Prop} {ts:TS}
theorem yoz {sp:Sp} {dvs:List V} {Ex:St->XK} (h:tr σ H fun vs H1=>sp (vs++dvs) H1 Q (Ex σ)):yiv sp dvs Ex tr σ H Q:=h
theorem Ť {m:Str} {sp:Sp} {dvs:List V} {Ex:St->XK} (h:ta σ H fun x H1=>∃ a dx fs,x=.ref a/\H1 a=some (.ins C dx fs)/\fs.lookup m=none/\tr σ H1 fun vs H2=>sp (x :: (vs++dvs)) H2 Q (Ex σ)):ya1 C m sp dvs Ex ta tr σ H Q:=h
theorem yot {sp:Sp} {dvs:List V} {Ex:St->XK} (h:tr σ H fun vs H1=>∀ x dx,H1 x=none->H1 dx=none->dx≠x->sp (.ref x :: (vs++dvs)) (upd (upd H1 dx (.own x)) x (.ins C dx [])) (fun v H2=>v=.non/\Q (.ref x) H2) (Ex σ)):ymw C sp dvs Ex tr σ H Q:=h
theorem yoa {E:XK} {D:Ĭ} (h:tr σ H fun vs H1=>vs.length <= sizeLine/\E (.ref C) none H1):yl4 E C tr D σ H:=h
theorem va4 {K:W.Frag} {i:Nat} {tb:(St->XK)->TS} (h:tb (exT K D i ts ⟨nx,rt,bk,ct⟩) ⟨nx,rt,bk,ct⟩ σ H):vel K D i tb ts ⟨nx,rt,bk,ct⟩ σ H:=h
end
section
variable {κ:Type} [DecidableEq κ]
def zz (kvs:List (κ × V)) (k:κ):Option V:=(kvs.find? fun kv=>decide (kv.1=k)).map (·.2)
def Ă (kvs:List (κ × V)) (k:κ) (v:V):List (κ × V) :=
 if (kvs.any fun kv=>decide (kv.1=k))=true then kvs.map (fun kv=>if kv.1=k then (kv.1,v) else kv) else kvs++[(k,v)]
def Ö (kvs:List (κ × V)) (k:κ):List (κ × V):=kvs.filter fun kv=>decide (kv.1≠k)
theorem xm {p:κ × V} {r:List (κ × V)} {k:κ} (e:p.1=k):zz (p :: r) k=some p.2:=by simp [zz,List.find?_cons,e]
theorem xn {p:κ × V} {r:List (κ × V)} {k:κ} (e:¬ p.1=k):zz (p :: r) k=zz r k:=by simp [zz,List.find?_cons,e]
theorem jc (k:κ):∀ kvs:List (κ × V),(kvs.any fun kv=>decide (kv.1=k))=(zz kvs k).isSome
 | []=>rfl
 | p :: r=>by
  rw [List.any_cons];by_cases e:p.1=k
  .simp only [xm e,bx e,Bool.true_or,Option.isSome_some]
  .rw [xn e,bA e,Bool.false_or]; exact jc k r
theorem ydb (k j:κ) (y:V):∀ kvs:List (κ × V),zz (kvs.map fun kv=>if kv.1=k then (kv.1,y) else kv) j=(zz kvs j).map fun x=>if j=k then y else x
 | []=>rfl
 | p :: r=>by
  have a:=ydb k j y r;rw [bW];by_cases h:p.1=k
  .rw [if_pos h];by_cases e:p.1=j
   .rw [xm (p:=(p.1,y)) e,xm e,cB,if_pos (e.symm.trans h)]
   .rw [xn (p:=(p.1,y)) e,xn e,a]
  .rw [if_neg h];by_cases e:p.1=j
   .rw [xm (p:=p) e,xm e,cB,if_neg (fun z=>h (e.trans z))]
   .rw [xn (p:=p) e,xn e,a]
theorem yad (k j:κ) (y:V):∀ kvs:List (κ × V),zz kvs k=none->zz (kvs++[(k,y)]) j=if j=k then some y else zz kvs j
 | [],_=>by
  by_cases e:k=j
  .rw [if_pos e.symm]; exact xm (p:=(k,y)) e
  .rw [if_neg (fun z=>e z.symm)]; exact xn (p:=(k,y)) e
 | p :: r,hn=>by
  rw [List.cons_append];have a:¬ p.1=k:=fun z=>by rw [xm z] at hn; cases hn
  rw [xn a] at hn;have b:=yad k j y r hn;by_cases e:p.1=j
  .rw [xm e,xm e,if_neg (fun z=>a (e.trans z))]
  .rw [xn e,xn e,b]
theorem œ (kvs:List (κ × V)) (k j:κ) (y:V):zz (Ă kvs k y) j=if j=k then some y else zz kvs j:=by
 unfold Ă;by_cases a:(kvs.any fun b=>decide (b.1=k))=true
 .rw [if_pos a,ydb];rw [jc] at a;by_cases e:j=k
  .obtain ⟨x,c⟩:=Option.isSome_iff_exists.mp a;rw [if_pos e,e,c,cB,if_pos rfl]
  .rw [if_neg e]
   cases zz kvs j with
   | none=>rfl
   | some x=>rw [cB,if_neg e]
 .rw [if_neg a];refine yad k j y kvs ?_;rw [jc] at a
  cases q:zz kvs k with
  | none=>rfl
  | some x=>rw [q] at a; exact (a rfl).elim
theorem jt (kvs:List (κ × V)) (k:κ) (v:V):(Ă kvs k v).length <= kvs.length+1:=by
 unfold Ă
 split
 .rw [bf]; omega
 .rw [bj,bK,List.length_nil]; omega
theorem ŏ {kvs:List (κ × V)} {k:κ} (v:V) (h:zz kvs k=none):Ă kvs k v=kvs++[(k,v)]:=by
 unfold Ă;rw [jc,h];exact if_neg (by decide)
theorem Ū.isSome_eq {o:Option V} {u:Option Value} (r:Ū o u):o.isSome=u.isSome:=by
 cases o with
 | none=>cases u with
  | none=>rfl
  | some _=>exact (show False from r).elim
 | some _=>cases u with
  | none=>exact (show False from r).elim
  | some _=>rfl
theorem Ū.getD {o:Option V} {u:Option Value} {d:V} {d':Value} (r:Ū o u) (rd:w8 d d'):w8 (o.getD d) (u.getD d'):=by
 cases o with
 | none=>cases u with
  | none=>exact rd
  | some _=>exact (show False from r).elim
 | some _=>cases u with
  | none=>exact (show False from r).elim
  | some _=>exact r
theorem KV.val {kvs:List (κ × V)} {vs:List (κ × Value)} (r:KV kvs vs) (k:κ):Ū (zz kvs k) (valueAt vs k):=by
 unfold KV at r
 induction r with
 | nil=>exact True.intro
 | @cons p q ps qs h t ih =>
  obtain ⟨c,d⟩:=h;by_cases e:p.1=k
  .have a:q.1=k:=c.symm.trans e;have b:valueAt (q :: qs) k=some q.2:=by simp [valueAt,List.find?_cons,a]
   rw [xm e,b]; exact d
  .have a:¬ q.1=k:=fun z=>e (c.trans z);have b:valueAt (q :: qs) k=valueAt qs k:=by simp [valueAt,List.find?_cons,a]
   rw [xn e,b]; exact ih
theorem KV.any {kvs:List (κ × V)} {vs:List (κ × Value)} (r:KV kvs vs) (k:κ):(kvs.any fun kv=>decide (kv.1=k))=vs.any fun kv=>decide (kv.1=k):=by
 unfold KV at r
 induction r with
 | nil=>rfl
 | cons h t ih=>rw [List.any_cons,List.any_cons,ih,h.1]
theorem KV.repl {kvs:List (κ × V)} {vs:List (κ × Value)} (r:KV kvs vs) (k:κ) {y:V} (ry:w8 y u) :
  KV (kvs.map fun kv=>if kv.1=k then (kv.1,y) else kv) (vs.map fun kv=>if kv.1=k then (kv.1,u) else kv):=by
 unfold KV at r ⊢
 induction r with
 | nil=>exact .nil
 | @cons p q ps qs h t ih =>
  rw [bW,bW];refine .cons ?_ ih;obtain ⟨a,b⟩:=h;by_cases e:p.1=k
  .rw [if_pos e,if_pos (a.symm.trans e)]; exists a,ry
  .rw [if_neg e,if_neg (fun z=>e (a.trans z))]; exists a,b
theorem KV.put {kvs:List (κ × V)} {vs:List (κ × Value)} (r:KV kvs vs) (k:κ) {y:V} (ry:w8 y u):KV (Ă kvs k y) (stored vs k u):=by
 unfold Ă stored;rw [r.any k];by_cases e:(vs.any fun a=>decide (a.1=k))=true
 .rw [if_pos e,if_pos e]; exact r.repl k ry
 .rw [if_neg e,if_neg e]; exact Paired.snoc r ⟨rfl,ry⟩
theorem KV.drop {kvs:List (κ × V)} {vs:List (κ × Value)} (r:KV kvs vs) (k:κ):KV (Ö kvs k) (without vs k):=by
 unfold KV at r ⊢;unfold Ö without
 induction r with
 | nil=>exact .nil
 | @cons p q ps qs h t ih =>
  obtain ⟨c,d⟩:=h;rw [List.filter_cons,List.filter_cons];by_cases e:p.1=k
  .have a:¬ decide (p.1≠k)=true:=by simp [e]
   have b:¬ decide (q.1≠k)=true:=by simp [c.symm.trans e]
   rw [if_neg a,if_neg b]; exact ih
  .have f:¬ q.1=k:=fun z=>e (c.trans z);have a:decide (p.1≠k)=true:=by simp [e]
   have b:decide (q.1≠k)=true:=by simp [f]
   rw [if_pos a,if_pos b]; exact .cons ⟨c,d⟩ ih
theorem KV.keys {kvs:List (κ × V)} {vs:List (κ × Value)} (r:KV kvs vs):kvs.map (·.1)=vs.map (·.1):=by
 unfold KV at r
 induction r with
 | nil=>rfl
 | cons h t ih=>rw [bW,bW,ih,h.1]
theorem KV.length {kvs:List (κ × V)} {vs:List (κ × Value)} (r:KV kvs vs):kvs.length=vs.length:=Paired.length r
theorem ykn (kvs:List (κ × V)) (k:κ):(Ö kvs k).length <= kvs.length:=List.length_filter_le _ _
end
theorem ycg {w:World} {k:Key} (r:w8 (kV k) u):(vy P w).is k u=true:=by
 cases k with
 | inl i=>obtain ⟨t,e⟩:=(show ∃ t,u=Value.int i t from r); subst e; exact ybj P w i t
 | inr x=>obtain ⟨t,e⟩:=(show ∃ t,u=Value.str x t from r); subst e; exact ybe P w x t
theorem ž {w:World}:∀ {ks:List Key} {us:List Value},wd (ks.map kV) us->ItemsAre (vy P w) ks us
 | [],_,r=>by rw [List.map_nil] at r; cases r; exact .nil
 | k :: ks,_,r=>by
  rw [bW] at r
  cases r with
  | cons h t=>exact .cons (ycg h) (ž t)
abbrev KT (H:Hp):List (List Key × V)->List (List Key × Addr × Value)->Prop:=Paired fun p q=>p.1=q.1/\H q.2.1=some (.tup (p.1.map kV))/\w8 p.2 q.2.2
theorem KT.val {H:Hp} {kvs:List (List Key × V)} {xs:List (List Key × Addr × Value)} (r:KT H kvs xs) (k:List Key):Ū (zz kvs k) ((atKey xs k).map (·.2)):=by
 induction r with
 | nil=>exact True.intro
 | @cons p q ps qs h t ih =>
  obtain ⟨c,_,d⟩:=h;by_cases e:p.1=k
  .have a:q.1=k:=c.symm.trans e;have b:atKey (q :: qs) k=some q.2:=by simp [atKey,List.find?_cons,a]
   rw [xm e,b]; exact d
  .have a:¬ q.1=k:=fun z=>e (c.trans z);have b:atKey (q :: qs) k=atKey qs k:=by simp [atKey,List.find?_cons,a]
   rw [xn e,b]; exact ih
theorem KT.repl {H:Hp} {kvs:List (List Key × V)} {xs:List (List Key × Addr × Value)} (r:KT H kvs xs) (k:List Key) {y:V} (ry:w8 y u) :
  KT H (kvs.map fun kv=>if kv.1=k then (kv.1,y) else kv) (xs.map (putAt k u)):=by
 induction r with
 | nil=>exact .nil
 | @cons p q ps qs h t ih =>
  rw [bW,bW];refine .cons ?_ ih;obtain ⟨a,b,c⟩:=h;unfold putAt;by_cases e:p.1=k
  .rw [if_pos e,if_pos (a.symm.trans e)]; exact ⟨a,b,ry⟩
  .rw [if_neg e,if_neg (fun z=>e (a.trans z))]; exact ⟨a,b,c⟩
theorem KT.put {H:Hp} {kvs:List (List Key × V)} {xs:List (List Key × Addr × Value)} (r:KT H kvs xs) (k:List Key) {b:Addr} {y:V} (hb:H b=some (.tup (k.map kV))) (ry:w8 y u) :
  KT H (Ă kvs k y) (storedH xs k b u):=by
 have e:(kvs.any fun a=>decide (a.1=k))=(atKey xs k).isSome:=by
  rw [jc,(r.val k).isSome_eq,Option.isSome_map]
 unfold Ă storedH;rw [e];by_cases q:(atKey xs k).isSome=true
 .rw [if_pos q,if_pos q]; exact r.repl k ry
 .rw [if_neg q,if_neg q]; exact Paired.snoc r ⟨rfl,hb,ry⟩
theorem KT.keeps {H H':Hp} {kvs:List (List Key × V)} {xs:List (List Key × Addr × Value)} (r:KT H kvs xs) (ht:∀ b ys,H b=some (.tup ys)->H' b=some (.tup ys)):KT H' kvs xs :=
 Paired.mapP r fun _ _ z=>⟨z.1,ht _ _ z.2.1,z.2.2⟩
section
variable {w:World} {H:Hp} {h:Heap}
theorem yzx {u:HO} (ok:HOk P w H h) (e:Rd H a u):xc P w H h a u:=e.ok ok
theorem ycf {kvs:List (Key × V)} (ok:HOk P w H h) (e:Rd H a (.dK kvs)):kvs.length <= sizeLine/\(a == sysModules)=false/\∃ vs,KV kvs vs/\h.DictOf (vy P w) a vs :=
 show xc P w H h a (.dK kvs) from yzx ok e
theorem ysk {kvs:List (Key × V)} (ok:HOk P w H h) (e:H a=some (.dK kvs)):kvs.length <= sizeLine/\(a == sysModules)=false/\∃ vs,KV kvs vs/\h.DictOf (vy P w) a vs:=ycf ok (.inl e)
theorem yax {ks:List Key} (ok:HOk P w H h) (e:H a=some (.tup (ks.map kV))):(tupleKind (vy P w)).is h ks a:=by
 obtain ⟨_,b,r,o,f,d,n,c⟩:=(show xc P w H h a (.tup (ks.map kV)) from ok a _ e);exists o,b.toArray,n,f,d,c,by simpa using ž r
theorem yfc {kvs:List (List Key × V)} (ok:HOk P w H h) (e:Rd H a (.dT kvs)):kvs.length <= sizeLine/\(a == sysModules)=false /\
  ∃ xs,KT H kvs xs/\h.DictOfH (tupleKind (vy P w)) a xs:=by
 obtain ⟨z,y,xs,r,o,f,j,g,k,d,i,n⟩:=(show xc P w H h a (.dT kvs) from yzx ok e);exists z,y,xs,r,o,f,j,g,k,d,i,fun x b=>?_,n
 have c:∀ {l:List (List Key × V)} {m:List (List Key × Addr × Value)},KT H l m->∀ x∈m,(tupleKind (vy P w)).is h x.1 x.2.1:=by
  intro l m q
  induction q with
  | nil=>intro x b; exact nomatch b
  | @cons p q ps qs hq t ih =>
   intro x b;rcases bB.mp b with e | b
   .subst e;exact yax ok (by rw [<- hq.1]; exact hq.2.1)
   .exact ih x b
 exact c r x b
theorem vb9 {kvs:List (List Key × V)} (ok:HOk P w H h) (e:H a=some (.dT kvs)):kvs.length <= sizeLine/\(a == sysModules)=false /\
  ∃ xs,KT H kvs xs/\h.DictOfH (tupleKind (vy P w)) a xs:=yfc ok (.inl e)
end
def Ó (H:Hp) (a:Addr) (y:V) (r:Option V):Prop :=
 (∃ kvs k,Rd H a (.dK kvs)/\y=kV k/\r=zz kvs k)\/∃ kvs k b,Rd H a (.dT kvs)/\y=.ref b/\H b=some (.tup (k.map kV))/\r=zz kvs k
def yls (H:Hp) (a:Addr) (y v:V) (H':Hp):Prop :=
 (∃ kvs k,H a=some (.dK kvs)/\y=kV k/\kvs.length < sizeLine/\H'=upd H a (.dK (Ă kvs k v))) \/
 ∃ kvs k b,H a=some (.dT kvs)/\y=.ref b/\H b=some (.tup (k.map kV))/\kvs.length < sizeLine/\H'=upd H a (.dT (Ă kvs k v))
theorem Ó.k {H:Hp} {kvs:List (Key × V)} {k:Key} (e:H a=some (.dK kvs)):Ó H a (kV k) (zz kvs k):=.inl ⟨kvs,k,.inl e,rfl,rfl⟩
theorem Ó.t {H:Hp} {b:Addr} {kvs:List (List Key × V)} {k:List Key} (e:H a=some (.dT kvs)) (eb:H b=some (.tup (k.map kV))):Ó H a (.ref b) (zz kvs k):=.inr ⟨kvs,k,b,.inl e,rfl,eb,rfl⟩
theorem yls.k {H:Hp} {kvs:List (Key × V)} {k:Key} {v:V} (e:H a=some (.dK kvs)) (hl:kvs.length < sizeLine):yls H a (kV k) v (upd H a (.dK (Ă kvs k v))):=.inl ⟨kvs,k,e,rfl,hl,rfl⟩
theorem yls.t {H:Hp} {b:Addr} {kvs:List (List Key × V)} {k:List Key} {v:V} (e:H a=some (.dT kvs)) (eb:H b=some (.tup (k.map kV))) (hl:kvs.length < sizeLine) :
  yls H a (.ref b) v (upd H a (.dT (Ă kvs k v))):=.inr ⟨kvs,k,b,e,rfl,eb,hl,rfl⟩
section
variable {σ:St} {H:Hp} {s:Shared} {y v:V} {r:Value} {o:Option V} {A:Around}
theorem Inv.big (I:Inv X pins σ H s):sysModules < s.heap.objs.size:=by
 have h:mainGlobals < s.heap.objs.size:=(I.mod.glob.keeps I.bk).lt;exact Nat.lt_trans (by decide) h
theorem ygf (hu:A.units+1 < cLine) (I:Inv X pins σ H s) (g:Ó H a y (some v)) (ry:w8 y u) (h:∀ w' s',Inv X pins σ H s'->w8 v w'->Q w' s') :
  wpAny (model X.prog X.w) A (getItem (.ref a) u) Q E s:=by
 rcases g with ⟨m,k,e,f,l⟩ | ⟨m,k,b,e,f,t,l⟩
 .subst f;obtain ⟨z,r,q,c,j⟩:=ycf I.hok e;obtain ⟨w',i,d⟩:=Ū.some_of (v:=v) (o:=valueAt q k) (by rw [l]; exact c.val k);exact wpAny_getItem_of (ycg ry) j.mapOf i (h w' _ (I.tok _) d)
 .subst f;cases (show u=Value.ref b from ry);obtain ⟨z,r,B,c,j⟩:=yfc I.hok e;obtain ⟨w',i,d⟩:=Ū.some_of (v:=v) (o:=(atKey B k).map (·.2)) (by rw [l]; exact c.val k);obtain ⟨p,x,n⟩:=Option.map_eq_some_iff.mp i;refine wpAny_getItem_heap (tupleKind_room_in1 hu) (yax I.hok t) j x ?_;rw [n];exact h w' _ (I.tok _) d
theorem vek (hu:A.units+1 < cLine) (I:Inv X pins σ H s) (g:Ó H a y o) (ry:w8 y u) (h:∀ s',Inv X pins σ H s'->Q (.bool o.isSome) s') :
  wpAny (model X.prog X.w) A (compareOp .In u (.ref a)) Q E s:=by
 rcases g with ⟨j,k,e,d,l⟩ | ⟨j,k,b,e,d,m,l⟩
 .subst d;obtain ⟨z,f,n,c,i⟩:=ycf I.hok e;refine wpAny_in_of (ycg ry) f i.mapOf ?_;rw [<- (c.val k).isSome_eq,<- l];exact h _ (I.tok _)
 .subst d;cases (show u=Value.ref b from ry);obtain ⟨z,f,p,c,i⟩:=yfc I.hok e;refine wpAny_in_heap (tupleKind_room_in1 hu) (yax I.hok m) f i ?_;have q:=(c.val k).isSome_eq;rw [Option.isSome_map] at q;rw [<- q,<- l];exact h _ (I.tok _)
theorem yqb (hu:A.units+1 < cLine) (I:Inv X pins σ H s) (g:Ó H a y o) (ry:w8 y u) (h:∀ s',Inv X pins σ H s'->Q (.bool (!o.isSome)) s') :
  wpAny (model X.prog X.w) A (compareOp .NotIn u (.ref a)) Q E s:=by
 rcases g with ⟨j,k,e,d,l⟩ | ⟨j,k,b,e,d,m,l⟩
 .subst d;obtain ⟨z,f,n,c,i⟩:=ycf I.hok e;refine wpAny_notIn_of (ycg ry) f i.mapOf ?_;rw [<- (c.val k).isSome_eq,<- l];exact h _ (I.tok _)
 .subst d;cases (show u=Value.ref b from ry);obtain ⟨z,f,p,c,i⟩:=yfc I.hok e;refine wpAny_notIn_heap (tupleKind_room_in1 hu) (yax I.hok m) f i ?_;have q:=(c.val k).isSome_eq;rw [Option.isSome_map] at q;rw [<- q,<- l];exact h _ (I.tok _)
theorem ţ {t':Nat} {ob:HO} (I:Inv X pins σ H s) (mu:Mut (H a)) (hs:Heap.SameBut a s.heap h') (he:∃ q,h'.get? a=some q) (new:xc X.prog X.w (upd H a ob) h' a ob) :
  Inv X pins σ (upd H a ob) { s with heap:=h',toks:=t' } :=
 I.write (x:=a) (e:=a) mu (.inl rfl) (fun b q c z=>(hs.2 b c).trans z) he new
theorem yis {w:World} {H':Hp} {kvs:List (Key × V)} {vs:List (Key × Value)} (z:kvs.length <= sizeLine) (hd:(a == sysModules)=false) (rel:KV kvs vs) (dd:h'.DictOf (vy P w) a vs) :
  xc P w H' h' a (.dK kvs):=⟨z,hd,vs,rel,dd⟩
theorem yft {H':Hp} {Q:Unit->Shared->Prop} (hu:A.units+1 < cLine) (I:Inv X pins σ H s) (g:yls H a y v H') (ry:w8 y u) (rv:w8 v r) (h:∀ s',Inv X pins σ H' s'->Q () s') :
  wpAny (model X.prog X.w) A (setItem (.ref a) u r) Q E s:=by
 rcases g with ⟨d,k,e,p,l,B⟩ | ⟨d,k,b,e,p,F,l,B⟩
 .subst p B;obtain ⟨z,m,J,f,n⟩:=ysk I.hok e;have x:J.length <= sizeLine:=by rw [<- f.length]; exact z
  have o:(Ă d k v).length <= sizeLine:=by have:=jt d k v; omega
  refine wpAny_setItem_pairs (hsz:=x) (ycg ry) n fun C i t=>h _ ?_;have K:∃ q,C.get? a=some q:=let ⟨q,_,_,j,_⟩:=i; ⟨q,j⟩;exact ţ I (by rw [e]; exact True.intro) t K (yis o m (f.put k rv) i)
 .subst p B;cases (show u=Value.ref b from ry);obtain ⟨z,m,M,f,n⟩:=vb9 I.hok e;have x:M.length <= sizeLine:=by rw [<- Paired.length f]; exact z
  have o:(Ă d k v).length <= sizeLine:=by have:=jt d k v; omega
  refine wpAny_setItem_heap (hsz:=x) (tupleKind_room_in1 hu) (yax I.hok F) n fun C i t=>h _ ?_;obtain ⟨q,O,N,j,L,G,P,_,R⟩:=i;refine ţ I (by rw [e]; exact True.intro) t ⟨q,j⟩ ⟨o,m,_,(f.put k F rv).keeps fun c S D=>?_,q,O,N,j,L,G,P,R⟩
  rw [yk (wu D e (fun z=>nomatch z))]
  exact D
end
section
variable {σ:St} {H:Hp} {s:Shared} {kvs:List (Key × V)} {k:Key} {A:Around}
theorem vcl {v:V} {more:List Value} (I:Inv X pins σ H s) (e:H a=some (.dK kvs)) (ry:w8 (kV k) u) (l:zz kvs k=some v) (hm:more=[]\/∃ x,more=[x])
  (h:∀ w' s',Inv X pins σ (upd H a (.dK (Ö kvs k))) s'->w8 v w'->Q w' s'):wpAny (model X.prog X.w) A (call (.builtin "dict.pop") (.ref a :: u :: more)) Q E s:=by
 obtain ⟨z,n,f,b,g⟩:=ysk I.hok e;obtain ⟨w',j,d⟩:=Ū.some_of (v:=v) (o:=valueAt f k) (by rw [<- l]; exact b.val k)
 have y:(keyPart u).isSome=true:=by
  cases k with
  | inl i=>obtain ⟨t,q⟩:=(show ∃ t,u=Value.int i t from ry); subst q; rfl
  | inr x=>obtain ⟨t,q⟩:=(show ∃ t,u=Value.str x t from ry); subst q; rfl
 have B:argsOk "dict.pop" ⟨.ref a :: u :: more,[]⟩:=by
  rcases hm with q | ⟨x,q⟩
  .subst q; exact PySem.F.args_dict_pop_2 _ _
  .subst q; exact PySem.F.args_dict_pop_3 _ _ _
 refine call_meetsIn PySem.F.slot_dict_pop g.typeIs PySem.F.entry_dict_pop B (meets_dict_pop_there (vy X.prog X.w) a (ycg ry) more hm y)
  ⟨f,w',g,by rw [<- b.length]; exact z,j,fun p c r=>h w' _ ?_ d⟩
 have m:∃ q,p.get? a=some q:=let ⟨q,_,_,hq,_⟩:=c; ⟨q,hq⟩;exact ţ I (by rw [e]; exact True.intro) r m (yis (bN (ykn kvs k) z) n (b.drop k) c)
theorem vbj (I:Inv X pins σ H s) (e:Rd H a (.dK kvs)) (h:∀ t s',Inv X pins σ H s'->Q (.int kvs.length t) s'):wpAny (model X.prog X.w) A (call (.builtin "len") [.ref a]) Q E s:=by
 obtain ⟨z,d,f,b,c⟩:=ycf I.hok e;refine call_len_dict d c (by rw [<- b.length]; rw [sizeLine_eq] at z; omega) ?_;rw [<- b.length];exact h _ _ (I.tok _)
end
def vd8 (i:Expr):Prop:=∀ ov iv,subscripted i false ov iv=operate [ov,iv] (getItem ov iv)
theorem ypy {prog:Program} {w:World} {A:Around} {s:Shared} {env:Env} {value slice:Expr} {pos:Pos} {T id:String} 
  (hl:typeLookup (.type T) "__getitem__"=pure (some (.builtin id))) (hs:vd8 slice)
  (h:wpAny (model prog w) A (eval value env) (fun o s₁=>wpAny (model prog w) A (eval slice env) (fun i s₂=>s₂.TypeIs o T/\wpAny (model prog w) A (getItem o i) Q E s₂) E s₁) E s) :
  wpAny (model prog w) A (eval (.Subscript value slice pos) env) Q E s:=by
 refine Subscript_ (cJ h (fun o s₁ h₁=>cJ h₁ (fun i s₂ h₂=>?_) fun _ _ x=>x) fun _ _ x=>x);obtain ⟨b,h₂⟩:=h₂;unfold subscriptTail;refine bi ?_;rw [getitemInPython_of_ne b.not_modules];refine bi (wpAny_specialOf b hl ?_)
 have a:wpAny (model prog w) A (subscripted slice false o i) (fun r s₃=>wpAny (model prog w) A (letTemporaryGo value o r >>= fun _=>pure r) Q E s₃) E s₂:=by
  rw [hs o i];exact wpAny_operating (cJ h₂ (fun r s₃ h₃=>bi (wpAny_letTemporaryGo (bw h₃))) fun _ _ x=>x)
 first
  | exact bw (bi a)
  | exact bi (bw (bi a))
  | exact bi a
theorem ybi {σ:St} {H:Hp} {s:Shared} {y:V} {o:Option V} (I:Inv X pins σ H s) (g:Ó H a y o):s.TypeIs (.ref a) "dict":=by
 rcases g with ⟨c,k,e,_,_⟩ | ⟨c,k,b,e,_,_,_⟩
 .obtain ⟨_,_,f,_,d⟩:=ycf I.hok e;exact d.typeIs
 .obtain ⟨_,_,h,_,d⟩:=yfc I.hok e;exact d.typeIs
def yzt (td ty:TE):TE:=fun σ H Q=>td σ H fun x H1=>ty σ H1 fun y H2=>∃ a v,x=.ref a/\Ó H2 a y (some v)/\Q v H2
def vd7 (ty td:TE):TE:=fun σ H Q=>ty σ H fun y H1=>td σ H1 fun x H2=>∃ a o,x=.ref a/\Ó H2 a y o/\Q (.bl o.isSome) H2
def yhf (ty td:TE):TE:=fun σ H Q=>ty σ H fun y H1=>td σ H1 fun x H2=>∃ a o,x=.ref a/\Ó H2 a y o/\Q (.bl (!o.isSome)) H2
def yz7 (td ty tv:TE):TS:=fun D σ H=>tv σ H fun v H1=>td σ H1 fun x H2=>ty σ H2 fun y H3=>∃ a H4,x=.ref a/\yls H3 a y v H4/\D.nx σ H4
section
variable {o i value:Expr} {pos pos' tpos:Pos} {td ty tv:TE}
theorem ú (hu:X.A.units+1 < cLine) (ho:PE X o td) (hi:PE X i ty) (hs:vd8 i):PE X (.Subscript o i pos) (yzt td ty):=by
 refine .mk fun b s σ H Q I h=>?_;refine ypy PySem.F.slot_dict_getitem.lookup hs (thn (ho b s σ H _ I h) fun u e ⟨x,r,m,f,k⟩=>thn (hi b e σ r _ m k) fun z t h'=>?_);obtain ⟨y,l,d,q,a,v,n,g,j⟩:=h';subst n;obtain rfl:u=Value.ref a:=f;exists ybi d g,ygf hu d g q fun w B p c=>⟨v,l,p,c,j⟩
theorem yws (hu:X.A.units+1 < cLine) (hi:PE X i ty) (ho:PE X o td):PC X .In i o (vd7 ty td):=by
 intro b s σ H Q I h;refine thn (hi b s σ H _ I h) fun v c ⟨y,q,k,p,f⟩=>thn (ho b c σ q _ k f) fun u t h'=>?_;obtain ⟨x,j,r,d,a,l,n,g,e⟩:=h';subst n;obtain rfl:u=Value.ref a:=d;exact vek hu r g p fun w m=>⟨.bl l.isSome,j,m,rfl,e⟩
theorem yai (hu:X.A.units+1 < cLine) (hi:PE X i ty) (ho:PE X o td):PC X .NotIn i o (yhf ty td):=by
 intro b s σ H Q I h;refine thn (hi b s σ H _ I h) fun v c ⟨y,q,k,p,f⟩=>thn (ho b c σ q _ k f) fun u t h'=>?_;obtain ⟨x,j,r,d,a,l,n,g,e⟩:=h';subst n;obtain rfl:u=Value.ref a:=d;exact yqb hu r g p fun w m=>⟨.bl (!l.isSome),j,m,rfl,e⟩
theorem yhx (hu:X.A.units+1 < cLine) (ho:PE X o td) (hi:PE X i ty) (hv:PE X value tv) (hs:swapsWith value (some (.Subscript o i pos')) pos.line X.env=pure false) :
  PS X (.Assign [.Subscript o i pos'] value pos) (yz7 td ty tv):=by
 refine .mk fun b s σ H D I h=>?_;refine wpAny_Assign_Subscript (thn (hv b s σ H _ I h) fun r n ⟨v,e,d,p,t⟩=>thn (ho b n σ e _ d t) fun u z ⟨x,c,f,w,k⟩=>thn (hi b z σ c _ f k) fun E J h'=>?_) hs;obtain ⟨y,F,q,B,a,j,l,g,m⟩:=h';subst l;obtain rfl:u=Value.ref a:=w;exact yft hu q g B p fun G C=>⟨σ,j,C,m⟩
end
theorem ydk {w:World} {H:Hp} (h:Heap) (hb:sysModules < h.objs.size):xc P w H (h.push { cls:=.type "dict",data:=.dict #[] }) h.objs.size (.dK []) :=
 ⟨bL _,cN.mpr (Ne.symm (bQ hb)),[],.nil,Heap.DictOf.new h⟩
theorem yi9 {w:World} {H:Hp} (h:Heap) (hb:sysModules < h.objs.size):xc P w H (h.push { cls:=.type "dict",data:=.dict #[] }) h.objs.size (.dT []) :=
 ⟨bL _,cN.mpr (Ne.symm (bQ hb)),[],.nil,_,#[],0,bC _ rfl,⟨rfl,rfl,rfl⟩,rfl,rfl,List.nodup_nil⟩
def ym1:TE:=fun _ H Q=>∀ p,H p=none->Q (.ref p) (upd H p (.dK []))
def ymv:TE:=fun _ H Q=>∀ p,H p=none->Q (.ref p) (upd H p (.dT []))
section
variable {pos:Pos}
theorem yjw:PE X (.Dict [] [] pos) ym1:=.mk fun b s σ H Q I h =>
 wpAny_Dict_empty ⟨.ref s.heap.objs.size,_,I.laid (a:=s.heap.objs.size) (o:=.dK []) (t':=s.toks) (fun _ _ q=>bn _ q) (bp _) (ydk s.heap I.big),rfl,h _ (I.hok.fresh (bp _))⟩
theorem ylf:PE X (.Dict [] [] pos) ymv:=.mk fun b s σ H Q I h =>
 wpAny_Dict_empty ⟨.ref s.heap.objs.size,_,I.laid (a:=s.heap.objs.size) (o:=.dT []) (t':=s.toks) (fun _ _ q=>bn _ q) (bp _) (yi9 s.heap I.big),rfl,h _ (I.hok.fresh (bp _))⟩
end
def yip:List (TE × TE)->St->Hp->(List (V × V)->Hp->Prop)->Prop
 | [],_,H,Q=>Q [] H
 | (tk,tv) :: r,σ,H,Q=>tk σ H fun x H1=>tv σ H1 fun y H2=>yip r σ H2 fun ps H3=>Q ((x,y) :: ps) H3
abbrev VV:List (V × V)->List (Value × Value)->Prop:=Paired fun p q=>w8 p.1 q.1/\w8 p.2 q.2
def PPs (X:Cx) (pos:Pos) (keys:List (Option Expr)) (values:List Expr) (trs:List (TE × TE)):Prop :=
 ∀ (pins:List (Addr × Obj)) (s:Shared) (σ:St) (H:Hp) (Q:List (V × V)->Hp->Prop),Inv X pins σ H s->yip trs σ H Q ->
  wpAny (model X.prog X.w) X.A (evalPairs (pairTrees keys values X.env pos)) (fun vs s'=>∃ ps H',Inv X pins σ H' s'/\VV ps vs/\Q ps H') X.xe s
theorem yq1 {pos:Pos}:PPs X pos [] [] []:=fun a s σ H Q I h=>pairTrees_nil_walk ⟨[],H,I,.nil,h⟩
theorem ŗ {pos:Pos} {k v:Expr} {ks:List (Option Expr)} {vs:List Expr} {tk tv:TE} {trs:List (TE × TE)} (hk:PE X k tk) (hv:PE X v tv) (hr:PPs X pos ks vs trs) :
  PPs X pos (some k :: ks) (v :: vs) ((tk,tv) :: trs):=fun a s σ H Q I h =>
 pairTrees_cons_walk (thn (hk a s σ H _ I h) fun u m ⟨x,f,e,p,o⟩=>thn (hv a m σ f _ e o) fun w q ⟨y,d,g,r,i⟩ =>
  thn (hr a q σ d _ g i) fun t z ⟨c,j,n,b,l⟩=>⟨(x,y) :: c,j,n,.cons ⟨p,r⟩ b,l⟩)
def jn (kvs more:List (Key × V)):List (Key × V):=more.foldl (fun acc kv=>Ă acc kv.1 kv.2) kvs
theorem KV.merge:∀ {more:List (Key × V)} {rs:List (Key × Value)} {kvs:List (Key × V)} {vs:List (Key × Value)},KV more rs->KV kvs vs->KV (jn kvs more) (merged vs rs):=by
 intro more rs kvs vs r;unfold KV at r
 induction r generalizing kvs vs with
 | nil=>intro q; exact q
 | @cons p q ps qs h t ih =>
  intro a
  have e:KV (Ă kvs p.1 p.2) (stored vs q.1 q.2):=by
   have:=a.put p.1 h.2;rw [<- h.1]; exact this
  exact ih e
theorem δ:∀ (more kvs:List (Key × V)),(jn kvs more).length <= kvs.length+more.length
 | [],kvs=>by show kvs.length <= kvs.length+0; omega
 | p :: r,kvs=>by
  have b:=δ r (Ă kvs p.1 p.2);have a:=jt kvs p.1 p.2;show (jn (Ă kvs p.1 p.2) r).length <= _;rw [bK]; omega
theorem ě {w:World}:∀ {kvs:List (Key × V)} {ws:List (Value × Value)},VV (kvs.map fun kv=>(kV kv.1,kv.2)) ws->∃ rs,Carries (vy P w) ws rs/\KV kvs rs
 | [],_,r=>by rw [List.map_nil] at r; cases r; exists [],True.intro,.nil
 | p :: kvs,_,r=>by
  rw [bW] at r
  cases r with
  | @cons a b as bs h t =>
   obtain ⟨rs,c,q⟩:=(ě t:∃ rs,Carries (vy P w) _ rs/\KV _ rs);obtain ⟨e,d⟩:=b;exists (p.1,d) :: rs,⟨ycg h.1,rfl,c⟩,.cons ⟨rfl,h.2⟩ q
def va8 (trs:List (TE × TE)):TE:=fun σ H Q=>∀ p,H p=none->yip trs σ (upd H p (.dK [])) fun ps H2=>H2 p=some (.dK [])/\∃ kvs:List (Key × V),ps=kvs.map (fun kv=>(kV kv.1,kv.2))/\kvs.length <= 15/\Q (.ref p) (upd H2 p (.dK (jn [] kvs)))
theorem ypz {pos:Pos} {keys:List (Option Expr)} {values:List Expr} {trs:List (TE × TE)} (h:PPs X pos keys values trs) (hall:keys.all (·.isSome)=true) (hl:keys.length=values.length) (h0:keys≠[])
  (h15:keys.length <= 15):PE X (.Dict keys values pos) (va8 trs):=by
 refine .mk fun d s σ H Q I q=>?_;have t:=I.hok.fresh (bp s.heap.objs.size);have l:=I.laid (a:=s.heap.objs.size) (o:=.dK []) (h':=s.heap.push { cls:=.type "dict",data:=.dict #[] }) (t':=s.toks) (fun _ _ q=>bn _ q) (bp _) (ydk s.heap I.big);refine wpAny_Dict_walk (knd:=vy X.prog X.w) hall hl h0 h15 (thn (h d _ σ _ _ l (q _ t)) fun F G h'=>?_);obtain ⟨D,E,i,g,e,f,p,C,n⟩:=h';subst p;obtain ⟨r,c,y⟩:=ě (P:=X.prog) (w:=X.w) g;obtain ⟨z,k,v,u,m⟩:=ysk i.hok e;cases u;exists r,c,m,fun h' b A=>⟨.ref s.heap.objs.size,_,?_,rfl,n⟩
 have B:(jn [] f).length <= sizeLine:=by
  have x:=δ f [];rw [List.length_nil] at x;rw [sizeLine_eq]; omega
 have j:∃ q,h'.get? s.heap.objs.size=some q:=let ⟨q,_,_,hq,_⟩:=b; ⟨q,hq⟩;exact ţ i (by rw [e]; exact True.intro) A j (yis B k (y.merge .nil) b)
structure M1 (X:Cx) (o:Expr) (m:Str) (apos:Pos) (e:Expr) (cpos:Pos):Prop where
 base:attributeBase o m X.env (eval o X.env)=eval o X.env
 few:((backTo cpos (starEach [e] X.env)).all (fun x=>!x.1) && (backToKw cpos (keywordEach [] X.env)).all (fun x=>x.1.isSome)
  && decide (([e]:List Expr).length+([]:List Keyword).length+(if ([]:List Keyword).isEmpty then 0 else 1) < 30))=true
 line:(apos.endLine == cpos.line)=true
 trees:backTo cpos (starEach [e] X.env)=[(false,eval e X.env)]
structure M2 (X:Cx) (o:Expr) (m:Str) (apos:Pos) (e f:Expr) (cpos:Pos):Prop where
 base:attributeBase o m X.env (eval o X.env)=eval o X.env
 few:((backTo cpos (starEach [e,f] X.env)).all (fun x=>!x.1) && (backToKw cpos (keywordEach [] X.env)).all (fun x=>x.1.isSome)
  && decide (([e,f]:List Expr).length+([]:List Keyword).length+(if ([]:List Keyword).isEmpty then 0 else 1) < 30))=true
 line:(apos.endLine == cpos.line)=true
 trees:backTo cpos (starEach [e,f] X.env)=[(false,eval e X.env),(false,eval f X.env)]
def IsD (H:Hp) (a:Addr):Prop:=(∃ kvs,Rd H a (.dK kvs))\/∃ kvs,Rd H a (.dT kvs)
theorem yt6 {σ:St} {H:Hp} {s:Shared} (I:Inv X pins σ H s) (d:IsD H a) :
  s.TypeIs (.ref a) "dict"/\(∀ b,Value.ref a=.ref b->∃ ob,s.heap.get? b=some ob/\ob.dict=none)/\(a == sysModules)=false:=by
 rcases d with ⟨h,e⟩ | ⟨h,e⟩
 .obtain ⟨_,f,j,_,c⟩:=ycf I.hok e;exists c.typeIs,fun b q=>?_,f;cases q;obtain ⟨ob,_,_,g,i,_⟩:=c;exact ⟨ob,g,i.2.1⟩
 .obtain ⟨_,f,k,_,c⟩:=yfc I.hok e;exists c.typeIs,fun b q=>?_,f;cases q;obtain ⟨ob,_,_,g,i,_⟩:=c;exact ⟨ob,g,i.2.1⟩
def yvm (td ty:TE):TE:=fun σ H Q=>td σ H fun x H1=>∃ a,x=.ref a/\IsD H1 a/\ty σ H1 fun y H2=>∃ o,Ó H2 a y o/\Q (o.getD .non) H2
def yvi (td ty tx:TE):TE:=fun σ H Q=>td σ H fun x H1=>∃ a,x=.ref a/\IsD H1 a/\ty σ H1 fun y H2=>tx σ H2 fun z H3=>∃ o,Ó H3 a y o/\Q (o.getD z) H3
def yne (td ty:TE):TE:=fun σ H Q=>td σ H fun x H1=>∃ a,x=.ref a/\IsD H1 a/\ty σ H1 fun y H2=>∃ kvs k v,H2 a=some (.dK kvs)/\y=kV k/\zz kvs k=some v/\Q v (upd H2 a (.dK (Ö kvs k)))
section
variable {o f:Expr} {apos cpos:Pos} {td ty tx:TE}
theorem ykx (ho:PE X o td) (he:PE X e ty) (m:M1 X o "pop" apos e cpos):PE X (.Call (.Attribute o "pop" apos) [e] [] cpos) (yne td ty):=by
 refine .mk fun b s σ H Q I h=>?_;refine wpAny_Call_method m.base m.few m.line PySem.F.plainAttrs_dict PySem.F.slot_dict_pop PySem.F.type_dict_pop (thn (ho b s σ H _ I h) fun u p h'=>?_);obtain ⟨x,g,f,B,a,n,d,t⟩:=h';subst n;obtain rfl:u=Value.ref a:=B;obtain ⟨A,z,_⟩:=yt6 f d;exists A,z,?_;rw [m.trees];refine Calls.callWith_builtin rfl (Calls.evalArgs_plain (Calls.spliced_cons (thn (he b p σ g _ f t) fun J K ⟨y,E,i,D,r,k,v,C,w,l,j⟩=>Calls.spliced_nil ?_)));subst w;exact vcl i C D l (.inl rfl) fun G L q c=>⟨v,_,q,c,j⟩
end
@[irreducible] def QE (X:Cx) (e:Expr) (t:TE):Prop:=PE X e t
@[irreducible] def QSs (X:Cx) (st:List Stmt) (t:TS):Prop:=PSs X st t
@[irreducible] def QS (X:Cx) (st:Stmt) (t:TS):Prop:=PS X st t
section
variable {te:TE} {pos:Pos} {ts us:TS} {st:Stmt} {jj:List Stmt}
theorem yi {R:TS->Prop} (h1:PS X st ts) (h2:∃ us,PSs X jj us/\R (vdb ts us)):∃ t,PSs X (st :: jj) t/\R t:=let ⟨_,a,b⟩:=h2; ⟨_,yg h1 a,b⟩
end
theorem Ő:∀ {bs:List Bool} {us:List Value},wd (bs.map V.bl) us->us=bs.map Value.bool
 | [],_,.nil=>rfl
 | b :: r,_,.cons a t=>by rw [show _=Value.bool b from a,Ő t]; rfl
theorem yfp (bs:List Bool):((List.range bs.length).all fun i=>(bs[i]?).getD true)=bs.all id:=by
 rw [Bool.eq_iff_iff,List.all_eq_true,List.all_eq_true]
 constructor
 .intro h b c;obtain ⟨i,a,rfl⟩:=List.getElem_of_mem c;have:=h i (cj.mpr a);rw [bo a] at this;exact this
 .intro h i a;have a:=cj.mp a;rw [bo a];exact h _ (cg a)
theorem zi (hc:X.calm=true):uu X (.builtin "all") (fun xs H Q=>∃ p bs,xs=[.ref p]/\SqL X.K H p (List.map V.bl bs)/\Q (.bl (bs.all id)) H):=by
 intro g s σ H xs C Q I r h;obtain ⟨p,bs,rfl,o,q⟩:=h;obtain ⟨u,rfl,w⟩:=Ā r;cases w;obtain ⟨n,m,l,E⟩:=I.list o;obtain rfl:=Ő m;have c:=l.isList;have d:p < s.heap.objs.size:=by obtain ⟨_,e,_⟩:=c; exact bv e
 refine call_all_walk (wpAny_pyIter_list c ?_)
 refine ⟨s.heap.objs.size,[s.heap.objs.size,p],[s.heap.objs.size],(bs.map Value.bool).toArray.size,_,_,fun i=>(bs[i]?).getD true,rfl,Walks.list (A:=X.A.in1) (show X.A.handled=none from I.ok.hd hc) _ p (bQ d) (bs.map Value.bool).toArray,
  ⟨⟨_,bC _ rfl,rfl,rfl⟩,c.push _⟩,fun i v y D B a f=>?_,fun z t j=>?_⟩
 .have a:(bs.map Value.bool)[i]?=some v:=by simpa using a
  rw [br] at a
  cases e:bs[i]? with
  | none=>rw [e] at a; cases a
  | some b =>
   dsimp only at f;rw [e] at a f;cases a;exact cn f
 .have e:((List.range (bs.map Value.bool).toArray.size).all fun i=>(bs[i]?).getD true)=bs.all id:=by
   rw [bD,bf];exact yfp bs
  rw [e];exists .bl (bs.all id),H,I.kept (t':=t) fun b x e=>j b x (fun k=>?_) (bn _ e),rfl,q;rw [bJ.mp k] at e;exact cI _ (bv e)
theorem xg {env:Env}:∀ {names:List (Str × NameKind)} {x:Str} {k:NameKind},
  (names.map fun (n,k)=>if (k == NameKind.free && env.scope.kind == .function && env.kindOf n == some .cell) then (n,NameKind.cell) else (n,k)).lookup x=some k->∃ k0,(x,k0)∈names/\(k=k0\/k0=.free)
 | [],_,_,h=>by simp at h
 | (n,k1) :: r,x,k,h=>by
  rw [bW] at h;by_cases hx:x=n
  .subst hx;exists k1,.head _,?_;dsimp only at h
   split at h
   .rename_i hc
    simp only [bO,beq_iff_eq] at hc;exact .inr hc.1.1
   .simp [List.lookup] at h;exact .inl h.symm
  .have:(x == n)=false:=by simpa using hx
   have a:(r.map fun (n,k)=>if (k == NameKind.free && env.scope.kind == .function && env.kindOf n == some .cell) then (n,NameKind.cell) else (n,k)).lookup x=some k:=by
    dsimp only at h
    split at h <;> simpa [List.lookup,this] using h
   obtain ⟨k0,m,q⟩:=xg a;exists k0,.tail _ m,q
def γ (ys:List Str) (env:Env):List (Str × Addr):=ys.map fun y=>(y,(env.cells.lookup y).getD 0)
theorem Œ {env:Env}:∀ {ys:List Str} {y:Str} {c:Addr},(γ ys env).lookup y=some c->y∈ys/\c=(env.cells.lookup y).getD 0
 | [],_,_,h=>by simp [γ] at h
 | z :: r,y,c,h=>by
  by_cases hy:y=z
  .subst hy;simp [γ,List.lookup] at h;exists .head _,h.symm
  .have a:(y == z)=false:=by simpa using hy
   have b:(γ r env).lookup y=some c:=by simpa [γ,List.lookup,a] using h
   obtain ⟨m,e⟩:=Œ b;exists .tail _ m,e
theorem ρ {env:Env}:∀ {ys:List Str} {y:Str},y∈ys->(γ ys env).lookup y=some ((env.cells.lookup y).getD 0)
 | z :: r,y,h=>by
  by_cases hy:y=z
  .subst hy;simp [γ,List.lookup]
  .have a:(y == z)=false:=by simpa using hy
   have b:y∈r:=by
    rcases bB.mp h with q | q
    .exact absurd q hy
    .exact q
   have:=ρ (env:=env) b;simpa [γ,List.lookup,a] using this
abbrev Cx.compF (X:Cx) (scope:Scope) (ys:List Str) (C:Addr) (x:Str) (s2:Shared) (H2:Hp) (fp:List Addr):Cx :=
 { X with N:=x :: ys,s₀:=s2,H₀:=H2,env:=compEnvC scope (γ ys X.env) C X.env,outer:=X.stack,ex:=fp,fn:=fun _=>false,pn:=[],xe:=fun _ _=>False }
def xw (J:It) (te:TE) (fr:St) (D:Addr) (R:Hp->Prop) (H1:Hp):Prop:=∃ W:Nat->Nat->Hp->Prop,(∃ m,W 0 m (upd H1 D (.lst []))) /\
 ∀ i m H2,W i m H2->(J.stop i H2/\R H2)\/(J.go i H2/\∀ x H3,J.yld i H2 x H3->te (some x :: fr) H3 fun y H4=>∃ ys,H4 D=some (.lst ys)/\ys.length < sizeLine/\∃ m',m' < m/\W (i+1) m' (upd H4 D (.lst (ys++[y]))))
def w6 (js:List Nat) (σ:St):St:=js.map fun j=>(σ[j]?).getD none
def yix (wi:TI) (te:TE) (js:List Nat):TE:=fun σ H Q=>wi σ H fun J H1=>∀ D,H1 D=none->xw J te (w6 js σ) D (fun H2=>Q (.ref D) H2) H1
section
variable {iter elt:Expr} {x:Str} {px pos:Pos} {te:TE} {wi:TI} {σ:St} {ys:List Str} {js:List Nat}
theorem yqh {H:Hp} {Q:VK} (h:wi σ H fun J H1=>∀ D,H1 D=none->xw J te (w6 js σ) D (fun H2=>Q (.ref D) H2) H1):yix wi te js σ H Q:=h
theorem Ä {K:W.Frag} {xs:List V} {fr:St} {R:Hp->Prop} {H1:Hp} (Pv:Nat->Hp->Prop) (h0:Pv 0 (upd H1 D (.lst []))) (hl:∀ i H,i <= xs.length->Pv i H->SqL K H a xs)
  (hs:∀ i x H,xs[i]?=some x->i < xs.length->Pv i H->te (some x :: fr) H fun y H4=>∃ ys,H4 D=some (.lst ys)/\ys.length < sizeLine/\∃ m',m' < xs.length - i/\cW xs.length Pv (i+1) m' (upd H4 D (.lst (ys++[y]))))
  (hd:∀ H,Pv xs.length H->R H):xw (Itl K a) te fr D R H1:=by
 exists cW xs.length Pv,⟨xs.length,by simp,bL _,h0⟩,?_;rintro i m H ⟨rfl,b,p⟩;have q:=hl i H b p;by_cases hlt:i < xs.length
 .refine .inr ⟨⟨xs,xs[i],q,by simp [hlt]⟩,fun x c y=>?_⟩;obtain ⟨e,y⟩:=y;subst e;exact hs i x _ (y xs q) hlt p
 .have e:i=xs.length:=by omega
  subst e;exact .inl ⟨⟨xs,q,bp _⟩,hd H p⟩
theorem ybz {lo:Int} {n:Nat} {fr:St} {R:Hp->Prop} {H1:Hp} (Pv:Nat->Hp->Prop) (h0:Pv 0 (upd H1 D (.lst [])))
  (hs:∀ i H,i < n->Pv i H->te (some (.int (lo+i)) :: fr) H fun y H4=>∃ ys,H4 D=some (.lst ys)/\ys.length < sizeLine/\∃ m',m' < n - i/\cW n Pv (i+1) m' (upd H4 D (.lst (ys++[y]))))
  (hd:∀ H,Pv n H->R H):xw (Itr lo n) te fr D R H1:=by
 exists cW n Pv,⟨n,by simp,bL _,h0⟩,?_;rintro i m H ⟨rfl,b,p⟩;by_cases hlt:i < n
 .refine .inr ⟨hlt,fun x a y=>?_⟩;obtain ⟨e,y⟩:=y;subst e y;exact hs i _ hlt p
 .have e:i=n:=by omega
  subst e;exact .inl ⟨bp _,hd H p⟩
end
end L2
namespace L2
theorem yr {α:Type} {P:α->Prop}:∀ y∈([]:List α),P y:=fun _ h=>nomatch h
theorem all_cons {α:Type} {P:α->Prop} {y:α} {r:List α} (h:P y) (t:∀ z∈r,P z):∀ z∈y :: r,P z:=fun z a=>by
 rcases bB.mp a with e | a
 .exact e ▸ h
 .exact t z a
end L2
namespace L2
open PySem PySem.Spec PyProof.Rows
variable {i:Nat}
def Ite (K:W.Frag) (a:Addr):It :=
 ⟨fun i H=>∃ xs x,SqL K H a xs/\xs[i]?=some x,fun i H y H'=>∃ t x,y=.ref t/\H t=none/\H'=upd H t (.tup [.int i,x])/\∀ xs,SqL K H a xs->xs[i]?=some x,fun i H=>∃ xs,SqL K H a xs/\xs.length <= i⟩
section
variable {X:Cx}
def vbf (K:W.Frag) (ta:TA):TI:=fun σ H R=>ta σ H fun vs H1=>∃ a,vs=[.ref a]/\(∃ xs,SqL K H1 a xs)/\R (Ite K a) H1
theorem yqr {K:W.Frag} {ta:TA} {σ:St} {H:Hp} {R:It->Hp->Prop} (h:ta σ H fun vs H1=>∃ a,vs=[.ref a]/\(∃ xs,SqL K H1 a xs)/\R (Ite K a) H1):vbf K ta σ H R:=h
theorem yct:∀ {ns:List Int} {us:List Value},wd (ns.map V.int) us->∃ xs:Array (Int × Tok),us.toArray=intItems xs/\xs.toList.map (·.1)=ns
 | [],_,.nil=>⟨#[],by simp [intItems],rfl⟩
 | n :: r,_,.cons (l₂:=us) a t=>by
  obtain ⟨b,rfl⟩:=a;obtain ⟨xs,d,c⟩:=yct t;exists ((n,b) :: xs.toList).toArray,?_,by simp [c]
  have:us=(intItems xs).toList:=by rw [<- d]
  rw [this];simp [intItems]
theorem π (hc:X.calm=true):uu X (.builtin "sum") (fun vs H Q=>∃ p ns,vs=[.ref p]/\SqL X.K H p (List.map V.int ns)/\Q (.int ns.sum) H):=by
 intro a s σ H v n Q I r h;obtain ⟨p,ns,rfl,g,q⟩:=h;obtain ⟨u,rfl,c⟩:=Ā r;cases c;obtain ⟨e,k,d,t⟩:=I.list g;obtain ⟨l,m,j⟩:=yct k;have f:s.heap.IsList p (intItems l):=m ▸ d.isList;refine sum_intListG (I.ok.hd hc) f fun o i t' b=>?_;rw [preSum_eq,cE (by simp),j];exists .int ns.sum,H,I.kept (t':=i) b,⟨_,rfl⟩,q
end
section
variable {X:Cx} {e:Expr} {t1 t2:TE}
def ytn (t1 t2:TE):TE:=fun σ H Q=>t1 σ H Q\/t2 σ H Q
theorem ydy (h1:PE X e t1) (h2:PE X e t2):PE X e (ytn t1 t2):=by
 refine .mk fun a s σ H Q I h=>?_;rcases h with h | h
 .exact h1 a s σ H Q I h
 .exact h2 a s σ H Q I h
theorem ydo {σ:St} {H:Hp} {Q:VK} (h:t1 σ H Q):ytn t1 t2 σ H Q:=.inl h
theorem ġ {σ:St} {H:Hp} {Q:VK} (h:t2 σ H Q):ytn t1 t2 σ H Q:=.inr h
end
theorem yy {H:Hp} {p:Addr} {o:HO} {A:Hp->Prop} (hp:H p=none) (h:∀ H',yq H H'->H' p=some o->A H'):A (upd H p o):=h _ (yx hp) ya
theorem yu {α:Type} {H:Hp} {p:Addr} {o:HO} {A:Hp->α->Prop} {Q:α} (hp:H p=none) (h:∀ H',yq H H'->H' p=some o->A H' Q):A (upd H p o) Q:=h _ (yx hp) ya
section
variable {K:W.Frag} {a D:Addr} {xs:List V} {te:TE} {fr:St} {R:Hp->Prop} {H1:Hp}
theorem yag (Pv:Nat->Hp->Prop) (h0:Pv 0 (upd H1 D (.lst []))) (hl:∀ i H,i <= xs.length->Pv i H->SqT K H a xs)
  (hs:∀ i x H,xs[i]?=some x->i < xs.length->Pv i H->te (some x :: fr) H fun y H4=>∃ ys,H4 D=some (.lst ys)/\ys.length < sizeLine/\∃ m',m' < xs.length - i/\cW xs.length Pv (i+1) m' (upd H4 D (.lst (ys++[y]))))
  (hd:∀ H,Pv xs.length H->R H):xw (Itt K a) te fr D R H1:=by
 exists cW xs.length Pv,⟨xs.length,by simp,bL _,h0⟩,?_;rintro i m H ⟨rfl,b,p⟩;have q:=hl i H b p;by_cases hlt:i < xs.length
 .refine .inr ⟨⟨xs,xs[i],q,by simp [hlt]⟩,fun x c y=>?_⟩;obtain ⟨e,y⟩:=y;subst e;exact hs i x _ (y xs q) hlt p
 .have e:i=xs.length:=by omega
  subst e;exact .inl ⟨⟨xs,q,bp _⟩,hd H p⟩
theorem ykt (Pv:Nat->Hp->Prop) (h0:Pv 0 (upd H1 D (.lst []))) (hl:∀ i H,i <= xs.length->Pv i H->SqT K H a xs)
  (hs:∀ i x H,xs[i]?=some x->i < xs.length->Pv i H->te [some x] H fun y H4=>∃ ys,H4 D=some (.lst ys)/\ys.length < sizeLine/\∃ m',m' < xs.length - i/\cW xs.length Pv (i+1) m' (upd H4 D (.lst (ys++[y]))))
  (hd:∀ H,Pv xs.length H->R H):ĩ (Itt K a) te D R H1:=by
 exists cW xs.length Pv,⟨xs.length,by simp,bL _,h0⟩,?_;rintro i m H ⟨rfl,b,p⟩;have q:=hl i H b p;by_cases hlt:i < xs.length
 .refine .inr ⟨⟨xs,xs[i],q,by simp [hlt]⟩,fun x c y=>?_⟩;obtain ⟨e,y⟩:=y;subst e;exact hs i x _ (y xs q) hlt p
 .have e:i=xs.length:=by omega
  subst e;exact .inl ⟨⟨xs,q,bp _⟩,hd H p⟩
def Mp (H1:Hp) (D:Addr) (f:Nat->V) (i:Nat) (H:Hp):Prop:=yq H1 H/\H D=some (.lst ((List.range i).map f))
theorem Mp.zero {f:Nat->V} (hD:H1 D=none):Mp H1 D f 0 (upd H1 D (.lst [])):=⟨yx hD,ya⟩
theorem Mp.step {f:Nat->V} {n:Nat} {H4:Hp} {y:V} (hD:H1 D=none) (hn:n < sizeLine) (hi:i < n) (S:yq H1 H4) (h4:H4 D=some (.lst ((List.range i).map f))) (e:y=f i) :
  ∃ ys,H4 D=some (.lst ys)/\ys.length < sizeLine/\∃ m',m' < n - i/\cW n (Mp H1 D f) (i+1) m' (upd H4 D (.lst (ys++[y]))):=by
 refine u9 (n:=n) h4 (by rw [bf,bU]; omega) hi ⟨?_,?_⟩
 .intro b o a;rw [yk (yb a hD)];exact S b o a
 .rw [ya,List.range_succ,bz,e];rfl
theorem ï {f:Nat->V} {g:V->V} (h:∀ i x,xs[i]?=some x->f i=g x):(List.range xs.length).map f=xs.map g:=by
 refine List.ext_getElem? fun i=>?_;rw [br,br];by_cases hi:i < xs.length
 .rw [cD hi,bo hi];show some (f i)=some (g xs[i]);rw [h i _ (bo hi)]
 .rw [bV (by rw [bU]; omega),bV (by omega)];rfl
def ofG (g:V->V) (xs:List V) (i:Nat):V:=((xs[i]?).map g).getD .non
theorem ydw {g:V->V} {x:V} (h:xs[i]?=some x):ofG g xs i=g x:=by
 unfold ofG;rw [h];rfl
def MpK (H1:Hp) (D:Addr) (f:Nat->V) (n i:Nat):VK:=fun y H4=>∃ ys,H4 D=some (.lst ys)/\ys.length < sizeLine/\∃ m',m' < n - i/\cW n (Mp H1 D f) (i+1) m' (upd H4 D (.lst (ys++[y])))
theorem Mp.done {g:V->V} {x y:V} {H4:Hp} (hD:H1 D=none) (hn:xs.length < sizeLine) (hx:xs[i]?=some x) (S:yq H1 H4) (h4:H4 D=some (.lst ((List.range i).map (ofG g xs)))) (e:y=g x):MpK H1 D (ofG g xs) xs.length i y H4:=by
 have a:i < xs.length:=by
  rcases Nat.lt_or_ge i xs.length with q | q
  .exact q
  .rw [bV q] at hx; cases hx
 exact Mp.step hD hn a S h4 (e.trans (ydw hx).symm)
theorem Mp.doneR {f:Nat->V} {n:Nat} {y:V} {H4:Hp} (hD:H1 D=none) (hn:n < sizeLine) (hi:i < n) (S:yq H1 H4) (h4:H4 D=some (.lst ((List.range i).map f))) (e:y=f i):MpK H1 D f n i y H4:=Mp.step hD hn hi S h4 e
theorem zh (g:V->V) (hq:SqL K H1 a xs) (hD:H1 D=none)
  (hs:∀ i x H,xs[i]?=some x->yq H1 H->H D=some (.lst ((List.range i).map (ofG g xs)))->te (some x :: fr) H (MpK H1 D (ofG g xs) xs.length i))
  (hd:∀ H,yq H1 H->H D=some (.lst (xs.map g))->R H):xw (Itl K a) te fr D R H1 :=
 Ä (Mp H1 D (ofG g xs)) (Mp.zero hD) (fun _ _ _ p=>p.1.seq hq) (fun i x H b c p=>hs i x H b p.1 p.2)
  fun H p=>hd H p.1 (by rw [<- ï (f:=ofG g xs) fun i x=>ydw]; exact p.2)
theorem Ę (g:V->V) (hq:SqT K H1 a xs) (hD:H1 D=none)
  (hs:∀ i x H,xs[i]?=some x->yq H1 H->H D=some (.lst ((List.range i).map (ofG g xs)))->te (some x :: fr) H (MpK H1 D (ofG g xs) xs.length i))
  (hd:∀ H,yq H1 H->H D=some (.lst (xs.map g))->R H):xw (Itt K a) te fr D R H1 :=
 yag (Mp H1 D (ofG g xs)) (Mp.zero hD) (fun _ _ _ p=>p.1.tup hq) (fun i x H b c p=>hs i x H b p.1 p.2)
  fun H p=>hd H p.1 (by rw [<- ï (f:=ofG g xs) fun i x=>ydw]; exact p.2)
theorem yf7 (g:V->V) (hq:SqT K H1 a xs) (hD:H1 D=none)
  (hs:∀ i x H,xs[i]?=some x->yq H1 H->H D=some (.lst ((List.range i).map (ofG g xs)))->te [some x] H (MpK H1 D (ofG g xs) xs.length i))
  (hd:∀ H,yq H1 H->H D=some (.lst (xs.map g))->R H):ĩ (Itt K a) te D R H1 :=
 ykt (Mp H1 D (ofG g xs)) (Mp.zero hD) (fun _ _ _ p=>p.1.tup hq) (fun i x H b c p=>hs i x H b p.1 p.2)
  fun H p=>hd H p.1 (by rw [<- ï (f:=ofG g xs) fun i x=>ydw]; exact p.2)
theorem Í {lo:Int} {n:Nat} (f:Nat->V) (hD:H1 D=none)
  (hs:∀ i H,i < n->yq H1 H->H D=some (.lst ((List.range i).map f))->te (some (.int (lo+i)) :: fr) H (MpK H1 D f n i))
  (hd:∀ H,yq H1 H->H D=some (.lst ((List.range n).map f))->R H):xw (Itr lo n) te fr D R H1 :=
 ybz (Mp H1 D f) (Mp.zero hD) (fun i H a p=>hs i H a p.1 p.2) fun H p=>hd H p.1 p.2
theorem ypa {tr:TA} {σ:St} {H:Hp} {R:It->Hp->Prop} (h:tr σ H fun vs H1=>∃ i j:Int,vs=[.int i,.int j]/\(-(2 ^ 62) <= i/\i < 2 ^ 62/\-(2 ^ 62) <= j/\j < 2 ^ 62)/\R (Itr i (j - i).toNat) H1):vch tr σ H R:=h
end
structure Mk0 (K:W.Frag) (C:Addr):Prop where
 makes:W.makesIn K C=true
 init:W.findIn K (.ref C) "__init__"=some (some (.builtin "object.__init__"))
 kp:W.keepIn K (.ref C)=true
def yyb (C:Addr):TE:=fun _ H Q=>∀ x dx,H x=none->H dx=none->dx≠x->Q (.ref x) (upd (upd H dx (.own x)) x (.ins C dx []))
theorem yp1 {C:Addr} {σ:St} {H:Hp} {Q:VK} (h:∀ x dx,H x=none->H dx=none->dx≠x->Q (.ref x) (upd (upd H dx (.own x)) x (.ins C dx []))):yyb C σ H Q:=h
abbrev Cx.compT (X:Cx) (scope:Scope) (ys:List Str) (C:Addr) (xs:List Str) (s2:Shared) (H2:Hp) (fp:List Addr):Cx :=
 { X with N:=xs++ys,s₀:=s2,H₀:=H2,env:=compEnvC scope (γ ys X.env) C X.env,outer:=X.stack,ex:=fp,fn:=fun _=>false,pn:=[],xe:=fun _ _=>False }
variable {X:Cx}
def jx (J:It) (g:TG) (te:TE) (n:Nat) (fr:St) (D:Addr) (R:Hp->Prop) (H1:Hp):Prop:=∃ W:Nat->Nat->Hp->Prop,(∃ m,W 0 m (upd H1 D (.lst []))) /\
 ∀ i m H2,W i m H2->(J.stop i H2/\R H2)\/(J.go i H2/\∀ x H3 pre,J.yld i H2 x H3->List.length pre=n->g x (pre++fr) H3 fun σ' H'=>(∃ pre',List.length pre'=n/\σ'=pre'++fr)/\te σ' H' fun y H4=>∃ ys,H4 D=some (.lst ys)/\ys.length < sizeLine/\∃ m',m' < m/\W (i+1) m' (upd H4 D (.lst (ys++[y]))))
def yi0 (wi:TI) (g:TG) (te:TE) (n:Nat) (js:List Nat):TE:=fun σ H Q=>wi σ H fun J H1=>∀ D,H1 D=none->jx J g te n (w6 js σ) D (fun H2=>Q (.ref D) H2) H1
section
variable {iter elt tg:Expr} {xs:List Str} {g:TG} {pos:Pos} {scope:Scope} {te:TE} {wi:TI} {pins:List (Addr × Obj)} {σ:St} {ys:List Str} {js:List Nat}
theorem Ç {s2:Shared} {H2:Hp} {it:Addr} {fp:List Addr} {tn:Nat->Heap->Prop} {J:It} (hc:X.calm=true)
  (he:∀ (C:Addr) (s2:Shared) (H2:Hp) (fp:List Addr),PE (X.compT scope ys C xs s2 H2 fp) elt te)
  (hgt:∀ (C:Addr) (s2:Shared) (H2:Hp) (fp:List Addr),PG (X.compT scope ys C xs s2 H2 fp) tg g)
  (hcell:∀ y∈scope.names,y.2≠.cell) (hkind:scope.kind=.function)
  (hfr:∀ y∈scope.names,y.2=.free->y.1∈ys) (hyc:∀ y∈ys,X.env.kindOf y=some .cell) (hrel:∀ y∈ys,(relabel scope X.env).names.lookup y=some .cell) (hjs:js.map (fun j=>X.N[j]?)=ys.map some)
  (I2:Inv X pins σ H2 s2) (T:yi6 X.prog X.w X.K tg J fp it tn) (st2:tn 0 s2.heap) (f2:∀ b∈fp,ycl X pins H2 b)
  {R:Addr->Hp->Prop} (h:∀ D,H2 D=none->jx J g te xs.length (w6 js σ) D (R D) H2) {RR:Value->Addr->Result->Shared->Prop} {E:Value->Shared->Prop}
  (hR:∀ (D C:Addr) (H':Hp) (s':Shared) (m:Str->Option Value),ycl X pins H' C->s'.heap.Ns C m->Inv X pins σ H' s'->R D H'->RR (.ref D) C (.ok .next) s') :
  wpAny (model X.prog X.w) X.A (newList []) (fun acc s₃=>wpAny (model X.prog X.w) X.A (newFunctionEnv scope X.env.globals (γ ys X.env) [] X.env.qual none .none (some X.env)) (fun cenv s₄ =>
   codeAny (model X.prog X.w) X.A (.compStart (.ListComp elt [⟨tg,iter,[],0⟩] scope pos) 0 (.ref it) acc { cenv with scope:=relabel scope X.env }) (RR acc cenv.locals) s₄) E s₃) E s2:=by
 have k:∀ y c,(γ ys X.env).lookup y=some c->X.env.cells.lookup y=some c:=fun y c e=>by
  obtain ⟨m,rfl⟩:=Œ e;obtain ⟨c',q⟩:=I2.ok.has y (.inl (hyc y m));rw [q];rfl
 refine wpAny_newObj_type (wpAny_newFunctionEnv hcell (by intro y hy; simp at hy) (fun h₁ hns₁ hsb₁=>?_) hkind);dsimp only at hns₁ hsb₁ ⊢;generalize Q:s2.heap.push { cls:=.type "list",dict:=none,data:=.seq ([]:List Value).toArray }=G at hns₁ hsb₁ ⊢;have hC:G.objs.size=s2.heap.objs.size+1:=by rw [<- Q,Heap.size_push]
 have a4:s2.heap.objs.size≠G.objs.size:=by rw [hC]; exact bQ (cP _)
 have L:s2.heap.objs.size <= G.objs.size:=by rw [hC]; exact Nat.le_succ _
 have f:∀ b,b < s2.heap.objs.size->b≠G.objs.size/\b≠s2.heap.objs.size:=fun b a=>⟨by rw [hC]; exact bQ (Nat.lt_succ_of_lt a),bQ a⟩;have B:∀ b o,s2.heap.get? b=some o->h₁.get? b=some o:=fun b o e=>hsb₁.extBut b o (f b (bv e)).1 (bn _ (Q ▸ bn _ e));have a7:h₁.get? s2.heap.objs.size=some { cls:=.type "list",data:=.seq ([]:List Value).toArray }:=hsb₁.extBut _ _ a4 (bn _ (Q ▸ bC _ rfl));have U:∀ b∈fp,b < s2.heap.objs.size:=fun b a=>let ⟨_,e,_⟩:=T.obj 0 _ st2 b a; bv e;have a1:∀ b∈fp,b∉frs X.stack:=fun b a z=>(bB.mp (I2.stkSub b z)).elim (f2 b a).2.1 (f2 b a).2.2.1;have nC:H2 G.objs.size=none:=I2.hok.fresh L;have nD:H2 s2.heap.objs.size=none:=I2.hok.fresh (bp _)
 have t:∀ y c,(γ ys X.env).lookup y=some c->∃ v o,s2.heap.get? c=some o/\o.data=.cell v:=fun y c e=>by
  obtain ⟨v,o,q1,q2⟩:=I2.cell y c (k y c e);exact ⟨v,o,q1,q2⟩
 have ac:(X.compT scope ys G.objs.size xs s2 H2 fp).Ok:=by
  exists I2.ok.mod,hkind,I2.ok.glob,I2.ok.blt,L,fun y z c e S=>I2.ok.inj y z c (k y c e) (k z c S),fun y e=>?_,fun y c z e=>(by cases z),I2.ok.hd,I2.ok.frames,.inl rfl,fun b a=>⟨(f b (U b a)).1,fun y c e=>(f2 b a).2.2.2.2.1 y c (k y c e)⟩,I2.bs,?_,fun b o e a=>?_,fun b a=>a1 b a,I2.stack,I2.stkFree
  .have S:(relabel scope X.env).names.lookup y=some .cell\/(relabel scope X.env).names.lookup y=some .free:=e
   have ad:y∈ys:=by
    rcases S with S | S
    .obtain ⟨k0,m,q⟩:=xg S;rcases q with q | q
     .exact absurd q.symm (hcell _ m)
     .exact hfr _ m q
    .obtain ⟨k0,m,q⟩:=xg S;rcases q with q | q
     .exact hfr _ m q.symm
     .exact hfr _ m q
   exists _,ρ ad
  .exact bN I2.ok.bsz I2.sz
  .rcases (f2 b a).2.2.2.1 with z | z
   .exact I2.ok.noex b o e z
   .exact absurd (bT (bv (I2.ok.bs b o e).1) z) (cI _)
 have a5:(w6 js σ).length=ys.length:=by
  have:=congrArg List.length hjs;simpa [w6] using this
 have I3:∀ tk,Inv (X.compT scope ys G.objs.size xs s2 H2 fp) [] (List.replicate xs.length none++w6 js σ) (upd H2 s2.heap.objs.size (.lst [])) { s2 with heap:=h₁,toks:=tk }:=fun tk =>
  ⟨ac,rfl,I2.bare,Un.laid B (bp _) nD,⟨_,hns₁,fun i y v e1 M e3=>by
    by_cases hi0:i < xs.length
    .rw [cG (by simpa using hi0),List.getElem?_replicate,if_pos hi0] at M;cases M
    .obtain ⟨i,rfl⟩:∃ i',i=xs.length+i':=⟨i - xs.length,by omega⟩;have e1:ys[i]?=some y:=by rw [cb (by omega)] at e1; simpa using e1
     have M:(w6 js σ)[i]?=some (some v):=by rw [cb (by simp)] at M; simpa using M
     have hy:y∈ys:=bI e1;have Y:=congrArg (fun l=>l[i]?) hjs;simp only [br,e1,cB] at Y
     cases q:js[i]? with
     | none=>rw [q] at Y; cases Y
     | some j =>
      rw [q] at Y;have Y:X.N[j]?=some y:=by simpa using Y
      have es:σ[j]?=some (some v):=by
       simp only [w6,br,q,cB,Option.some.injEq] at M
       cases r:σ[j]? with
       | none=>rw [r] at M; cases M
       | some w'=>rw [r] at M; rw [show w'=some v from M]
      obtain ⟨m0,_,ab⟩:=I2.loc;obtain ⟨u,ru,lk⟩:=ab j y v Y es (.inr (.inl (hyc y hy)));exists u,ru,.inr ⟨.inl (hrel y hy),?_⟩;rcases lk with ⟨k1,_⟩ | ⟨_,c,ec,o,ho,hd⟩
      .rw [hyc y hy] at k1; cases k1
      .exists c,?_,o,B c o ho,hd;show (γ ys X.env).lookup y=some c;rw [ρ hy,ec]
       rfl⟩,fun y c e=>(by
    obtain ⟨v,o,q1,q2⟩:=t y c e
    exact ⟨v,o,B c o q1,q2⟩),(by show upd H2 s2.heap.objs.size _ G.objs.size=none; rw [yk a4.symm]; exact nC),fun y c e=>(by
    obtain ⟨v,o,q1,q2⟩:=t y c e;show upd H2 s2.heap.objs.size _ c=none;rw [yk (f c (bv q1)).2]
    exact I2.freeC y c (k y c e)),fun p hp=>(by simp at hp),
   I2.hok.laid B (bp _) ⟨bL _,[],_,.nil,a7⟩,by show (List.replicate xs.length none++w6 js σ).length=(xs++ys).length; simp [a5]⟩
 have H:∀ {H':Hp},(∀ b∈fp,H' b=none)->∀ b∈fp,ycl (X.compT scope ys G.objs.size xs s2 H2 fp) [] H' b:=fun hn b a=>⟨hn b a,(f b (U b a)).1,a1 b a,.inl a,fun y c e=>(f2 b a).2.2.2.2.1 y c (k y c e),fun p hp=>(by simp at hp)⟩
 have O:∀ tk,codeAny (model X.prog X.w) X.A (.compLoop (.ListComp elt [⟨tg,iter,[],0⟩] scope pos) 0 (.ref it) (.ref s2.heap.objs.size) (compEnvC scope (γ ys X.env) G.objs.size X.env)) (RR (.ref s2.heap.objs.size) G.objs.size) { s2 with heap:=h₁,toks:=tk }:=by
  intro tk;obtain ⟨W,⟨m0,w0⟩,a2⟩:=h s2.heap.objs.size nD;refine codeAny_loop rfl (fun n s'=>∃ i v H',List.length v=xs.length/\Inv (X.compT scope ys G.objs.size xs s2 H2 fp) [] (v++w6 js σ) H' s'/\tn i s'.heap/\(∀ b∈fp,H' b=none)/\W i n H') (fun n s' hI=>?_) m0
   ⟨0,List.replicate xs.length none,_,by simp,I3 tk,T.keep 0 _ _ st2 (fun b a o e=>B b o e),fun b a=>(by rw [yk (f b (U b a)).2]; exact (f2 b a).1),w0⟩
  obtain ⟨i,v,H',hv,I,st,fr,w⟩:=hI;show wpAny _ _ ((compTurn (.ListComp elt [⟨tg,iter,[],0⟩] scope pos) 0 (.ref it) (.ref s2.heap.objs.size) (compEnvC scope (γ ys X.env) G.objs.size X.env)).onRaise (fun x=>do noteFrame x (compEnvC scope (γ ys X.env) G.objs.size X.env); theTreesLotGoes x)) _ _ s';refine wpAny_noted ?_;rw [compTurn_list1];refine bi (wpAny_standAt (bi ?_));rcases a2 i n H' w with ⟨a0,q⟩ | ⟨go,a3⟩
  .refine thn (T.done (X.compT scope ys G.objs.size xs s2 H2 fp) rfl rfl rfl hc i [] s' (v++w6 js σ) H' _ I (H fr) st a0) fun r s4 ⟨hr,Z⟩=>?_;subst hr;refine bw ?_;obtain ⟨m,hn,_⟩:=Z.loc;exact hR _ _ H' s4 m (I2.fpOk L Z.free) hn (I2.call' (ch:=fp) Z.os Z.base Z.hok Z.bare fun b a=>⟨(f2 b a).2.2.2.1,(f2 b a).2.1,(f2 b a).2.2.2.2.1,(f2 b a).2.2.2.2.2⟩) q
  .refine thn (T.item (X.compT scope ys G.objs.size xs s2 H2 fp) rfl rfl rfl hc i [] s' (v++w6 js σ) H' _ I (H fr) st go) fun r s4 ⟨u,hr,h4⟩=>?_;subst hr;refine bi (thn h4 fun _ s5 ⟨y,H5,I5,r5,y5,P,a9⟩=>bi ?_);have a8:=I5.pinned (H a9) (T.obj _ _ P);refine ytu (hgt _ _ _ _ _ s5 (v++w6 js σ) H5 y u _ a8 r5 (a3 y H5 v y5 hv)) fun _ s6 ⟨σ',H6,I6,⟨F,aa,ep⟩,q6⟩=>?_;subst ep;refine bi (bi (ytu (he _ _ _ _ _ s6 (F++w6 js σ) H6 _ I6 q6) fun u2 s7 ⟨y2,H7,I7,r7,zs,hD,hl,m',hm,w'⟩=>bi ?_));refine ytu (v7 _ s7 (F++w6 js σ) H7 (.ref s2.heap.objs.size) [y2] (.ref s2.heap.objs.size) [u2] (fun _ H8=>H8=upd H7 s2.heap.objs.size (.lst (zs++[y2]))) I7 rfl (.cons r7 .nil) ⟨_,zs,y2,rfl,rfl,hD,hl,rfl⟩) fun _ s8 h'=>?_;obtain ⟨_,H8,I8,_,e8⟩:=h';subst e8
   have a6:∀ b∈fp,∀ o,s5.heap.get? b=some o->s8.heap.get? b=some o/\upd H7 s2.heap.objs.size (HO.lst (zs++[y2])) b=none:=fun b a o e =>
    ⟨(I8.pin (b,o) (bH _ (bH _ (xi a e)))).1,(I8.pin (b,o) (bH _ (bH _ (xi a e)))).2.1⟩
   refine bw (bw ⟨rfl,m',hm,i+1,F,_,aa,I8.unpinned,T.keep _ _ _ P fun b a o e=>(a6 b a o e).1,fun b a=>?_,w'⟩);obtain ⟨o,e,d⟩:=T.obj _ _ P b a;exact (a6 b a o e).2
 exact codeAny_compStart_list (O _) (T.self X.A 0 _ _ _ (T.keep 0 _ _ st2 (fun b a o e=>B b o e)) (O _))
theorem yc3 (hc:X.calm=true) (hi:PI X tg iter wi) (he:∀ (C:Addr) (s2:Shared) (H2:Hp) (fp:List Addr),PE (X.compT scope ys C xs s2 H2 fp) elt te) (hjs:js.map (fun j=>X.N[j]?)=ys.map some)
  (hgt:∀ (C:Addr) (s2:Shared) (H2:Hp) (fp:List Addr),PG (X.compT scope ys C xs s2 H2 fp) tg g)
  (hclos:closureFor scope X.env=pure (γ ys X.env)) (hyc:∀ y∈ys,X.env.kindOf y=some .cell) (hrel:∀ y∈ys,(relabel scope X.env).names.lookup y=some .cell)
  (hfr:∀ y∈scope.names,y.2=.free->y.1∈ys:=by decide +kernel) (hcell:∀ y∈scope.names,y.2≠.cell:=by decide +kernel) (hkind:scope.kind=.function:=by rfl)
  (hnames:∀ y∈scope.names,y.2=.local->scope.names.lookup y.1=some .local:=by decide +kernel) (hs:∀ x,foldedSetIterable iter X.env x=pure x:=by intro _; rfl) :
  PE X (.ListComp elt [⟨tg,iter,[],0⟩] scope pos) (yi0 wi g te xs.length js):=by
 refine .mk fun a s σ H Q I h=>?_;rw [eval_ListComp];refine wpAny_comprehension_free (use:=none) rfl hs hclos hkind hnames (thn (hi a s σ H _ I h) fun v F z=>thn z fun l s2 t=>?_);obtain ⟨E,fp,G,J,H2,e,B,T,d,p,h⟩:=t;subst e;refine Ç (R:=fun D c=>Q (.ref D) c) (RR:=compPost (model X.prog X.w) X.A X.xe none (EP X a σ Q)) hc he hgt hcell hkind hfr hyc hrel hjs B T d p h ?_;intro D C c n m f i k q;exists m,i,fun K r=>⟨.ref D,c,?_,rfl,q⟩;exact k.turned (t':=n.toks) (fun b o u e=>r.extBut b o u e) f.1 f.2.1 f.2.2.2.1 f.2.2.2.2.1 f.2.2.2.2.2
theorem yow {H:Hp} {Q:VK} {n:Nat} (h:wi σ H fun J H1=>∀ D,H1 D=none->jx J g te n (w6 js σ) D (fun H2=>Q (.ref D) H2) H1):yi0 wi g te n js σ H Q:=h
end
section
variable {iter elt:Expr} {x:Str} {px pos:Pos} {scope:Scope} {te:TE} {wi:TI} {pins:List (Addr × Obj)} {σ:St} {ys:List Str} {js:List Nat}
theorem yyi {J:It} {fr:St} {D:Addr} {R:Hp->Prop} {H1:Hp} (h:xw J te fr D R H1):jx J (wj 0) te 1 fr D R H1:=by
 obtain ⟨W,b,d⟩:=h;exists W,b,fun i m e w=>(d i m e w).imp id fun ⟨c,y⟩=>⟨c,fun x f a g j=>?_⟩
 match a,j with
 | [z],_=>exists ⟨[some x],rfl,rfl⟩,y x f g
theorem Ė {s2:Shared} {H2:Hp} {it:Addr} {fp:List Addr} {tn:Nat->Heap->Prop} {J:It} (hc:X.calm=true)
  (he:∀ (C:Addr) (s2:Shared) (H2:Hp) (fp:List Addr),PE (X.compF scope ys C x s2 H2 fp) elt te)
  (hcell:∀ y∈scope.names,y.2≠.cell) (hkind:scope.kind=.function) (hx:scope.names.lookup x=some .local) (hnd:(x :: ys).Nodup)
  (hfr:∀ y∈scope.names,y.2=.free->y.1∈ys) (hyc:∀ y∈ys,X.env.kindOf y=some .cell) (hrel:∀ y∈ys,(relabel scope X.env).names.lookup y=some .cell) (hjs:js.map (fun j=>X.N[j]?)=ys.map some)
  (I2:Inv X pins σ H2 s2) (T:yi6 X.prog X.w X.K (.Name x px) J fp it tn) (st2:tn 0 s2.heap) (f2:∀ b∈fp,ycl X pins H2 b)
  {R:Addr->Hp->Prop} (h:∀ D,H2 D=none->xw J te (w6 js σ) D (R D) H2) {RR:Value->Addr->Result->Shared->Prop} {E:Value->Shared->Prop}
  (hR:∀ (D C:Addr) (H':Hp) (s':Shared) (m:Str->Option Value),ycl X pins H' C->s'.heap.Ns C m->Inv X pins σ H' s'->R D H'->RR (.ref D) C (.ok .next) s') :
  wpAny (model X.prog X.w) X.A (newList []) (fun acc s₃=>wpAny (model X.prog X.w) X.A (newFunctionEnv scope X.env.globals (γ ys X.env) [] X.env.qual none .none (some X.env)) (fun cenv s₄ =>
   codeAny (model X.prog X.w) X.A (.compStart (.ListComp elt [⟨.Name x px,iter,[],0⟩] scope pos) 0 (.ref it) acc { cenv with scope:=relabel scope X.env }) (RR acc cenv.locals) s₄) E s₃) E s2 :=
 Ç (tg:=.Name x px) (xs:=[x]) (g:=wj 0) hc he (fun C s2 H2 fp=>wt (i:=0) hnd rfl (Or.inl (lookup_relabel_local hx)) (Or.inr (lookup_relabel_local hx))) hcell hkind hfr hyc hrel hjs I2 T st2 f2 (fun D a=>yyi (h D a)) hR
theorem vq (hc:X.calm=true) (hi:PI X (.Name x px) iter wi) (he:∀ (C:Addr) (s2:Shared) (H2:Hp) (fp:List Addr),PE (X.compF scope ys C x s2 H2 fp) elt te) (hjs:js.map (fun j=>X.N[j]?)=ys.map some)
  (hclos:closureFor scope X.env=pure (γ ys X.env)) (hnd:(x :: ys).Nodup:=by decide) (hyc:∀ y∈ys,X.env.kindOf y=some .cell) (hrel:∀ y∈ys,(relabel scope X.env).names.lookup y=some .cell)
  (hfr:∀ y∈scope.names,y.2=.free->y.1∈ys:=by decide +kernel) (hcell:∀ y∈scope.names,y.2≠.cell:=by decide +kernel) (hkind:scope.kind=.function:=by rfl)
  (hnames:∀ y∈scope.names,y.2=.local->scope.names.lookup y.1=some .local:=by decide +kernel) (hx:scope.names.lookup x=some .local:=by rfl) (hs:∀ x,foldedSetIterable iter X.env x=pure x:=by intro _; rfl) :
  PE X (.ListComp elt [⟨.Name x px,iter,[],0⟩] scope pos) (yix wi te js):=by
 refine .mk fun a s σ H Q I h=>?_;rw [eval_ListComp];refine wpAny_comprehension_free (use:=none) rfl hs hclos hkind hnames (thn (hi a s σ H _ I h) fun v E u=>thn u fun k s2 r=>?_);obtain ⟨B,fp,F,J,H2,e,z,T,d,n,h⟩:=r;subst e;refine Ė (R:=fun D c=>Q (.ref D) c) (RR:=compPost (model X.prog X.w) X.A X.xe none (EP X a σ Q)) hc he hcell hkind hx hnd hfr hyc hrel hjs z T d n h ?_;intro D C c l m f g i q;exists m,g,fun G p=>⟨.ref D,c,?_,rfl,q⟩;exact i.turned (t':=l.toks) (fun b o t e=>p.extBut b o t e) f.1 f.2.1 f.2.2.2.1 f.2.2.2.2.1 f.2.2.2.2.2
theorem ō {y:Str} {py spos:Pos} (hN:X.N.Nodup) (hy:X.N[i]?=some y) (hl:X.env.scope.names.lookup y=some .local) (hc:X.calm=true) (hi:PI X (.Name x px) iter wi)
  (he:∀ (C:Addr) (s2:Shared) (H2:Hp) (fp:List Addr),PE (X.compF scope ys C x s2 H2 fp) elt te) (hjs:js.map (fun j=>X.N[j]?)=ys.map some)
  (hclos:closureFor scope X.env=pure (γ ys X.env)) (hyc:∀ y∈ys,X.env.kindOf y=some .cell) (hrel:∀ y∈ys,(relabel scope X.env).names.lookup y=some .cell)
  (hsw:swapsWith (.ListComp elt [⟨.Name x px,iter,[],0⟩] scope pos) (some (.Name y py)) spos.line X.env=pure true:=by rfl) (hnd:(x :: ys).Nodup:=by decide)
  (hfr:∀ y∈scope.names,y.2=.free->y.1∈ys:=by decide +kernel) (hcell:∀ y∈scope.names,y.2≠.cell:=by decide +kernel) (hkind:scope.kind=.function:=by rfl)
  (hnames:∀ y∈scope.names,y.2=.local->scope.names.lookup y.1=some .local:=by decide +kernel) (hx:scope.names.lookup x=some .local:=by rfl) (hs:∀ x,foldedSetIterable iter X.env x=pure x:=by intro _; rfl) :
  PS X (.Assign [.Name y py] (.ListComp elt [⟨.Name x px,iter,[],0⟩] scope pos) spos) (vau (yix wi te js) (wj i)):=by
 refine .mk fun a s σ H l I h=>?_;rw [exec_Assign_Name_used _ _ _ _ hsw];refine bi (wpAny_standAt (bi ?_));show wpAny _ X.A (do let _ <- comprehension (.ListComp elt [⟨.Name x px,iter,[],0⟩] scope pos) scope X.env _ (newList []) false (eval iter X.env) (some (assign (.Name y py) X.env))) _ _ s;refine bi (cJ (wpAny_comprehension_free (use:=some (assign (.Name y py) X.env)) (Q:=fun _ d=>SP X a l .next d) rfl hs hclos hkind hnames (thn (hi a s σ H _ I h) fun v S L=>thn L fun u s2 E=>?_)) (fun _ d G=>bw (bw G)) fun _ _ e=>e);obtain ⟨U,fp,O,J,H2,e,B,T,t,M,h⟩:=E;subst e;refine Ė (R:=fun D g=>wj i (.ref D) σ g l.nx) (RR:=compPost (model X.prog X.w) X.A X.xe (some (assign (.Name y py) X.env)) (fun _ d=>SP X a l .next d)) hc he hcell hkind hx hnd hfr hyc hrel hjs B T t M h ?_;intro D C g d m f K F q;refine wpAny_assign_Name (ó (v:=V.ref D) F hN hy (Or.inl hl) rfl (fun n k p=>?_) (Or.inr hl));exists m,?_,fun P r=>⟨_,g,?_,q⟩
 .obtain ⟨b,r,c⟩:=p;refine K.sameBut r fun z=>?_;rcases c with c | c
  .exact f.2.1 (z.trans c)
  .exact f.2.2.2.2.1 y b c z.symm
 .exact k.turned (t':=n.toks) (fun b o c e=>r.extBut b o c e) f.1 f.2.1 f.2.2.2.1 f.2.2.2.2.1 f.2.2.2.2.2
end
end L2
namespace L2
open PySem PySem.Spec PyProof.Rows
def vd9 (lo st:Int) (n:Nat):It:=⟨fun i _=>i < n,fun i H x H'=>H'=H/\x=.int (lo+i * st),fun i _=>n <= i⟩
def rgN (lo hi st:Int):Nat:=if lo < hi then ((hi - lo - 1) / st+1).toNat else 0
section
variable {X:Cx} {tg:Expr}
def vcr (ta:TA):TI:=fun σ H R=>ta σ H fun vs H1=>∃ i j st:Int,vs=[.int i,.int j,.int st]/\(0 <= i/\i < 100000000/\0 <= j/\j < 100000000/\0 < st/\st < 1000000)/\R (vd9 i st (rgN i j st)) H1
theorem yqv {tr:TA} {σ:St} {H:Hp} {R:It->Hp->Prop} (h:tr σ H fun vs H1=>∃ i j st:Int,vs=[.int i,.int j,.int st]/\(0 <= i/\i < 100000000/\0 <= j/\j < 100000000/\0 < st/\st < 1000000)/\R (vd9 i st (rgN i j st)) H1):vcr tr σ H R:=h
end
section
variable {prog:Program} {w:World} {A:Around} {E:Value->Shared->Prop} {s:Shared}
theorem ju {it l:Addr} {i:Nat} {items} {x:Value} {Q:Value->Shared->Prop} (hit:s.heap.IsTupleIter it l i) (hl:s.heap.IsTuple l items) (hx:items[i]?=some x)
  (hQ:∀ h',h'.IsTupleIter it l (i+1)->Heap.SameBut it s.heap h'->Q x { s with heap:=h' }):wpAny (model prog w) A (Builtin.SmallTypes.nextOf (.ref it)) Q E s:=by
 obtain ⟨g,b,e,a⟩:=id hit;obtain ⟨f,d,_,h,c⟩:=hl;unfold Builtin.SmallTypes.nextOf;refine bi (wpAny_callSpecial?_slot (name:=Str.ofString "__next__") hit.typeIs slot_tupleiter_next (wpAny_call_entry slot_tupleiter_next hit.typeIs entry_tupleiter_next ?_ (args_tupleiter_next _)));show wpAny _ _ (field (.ref it) 0 >>= _) _ _ s;refine bi (cq b a (x:=.ref l) rfl ?_);show wpAny _ _ (if (Value.ref l == Value.none)=true then _ else _) _ _ s;rw [if_neg (show ¬ ((Value.ref l == Value.none)=true) from bE)];show wpAny _ _ (field (.ref it) 1 >>= _) _ _ s;refine bi (cq b a (x:=.int i 0) rfl ?_);show wpAny _ _ (seqItems? (.ref l) >>= _) _ _ s;refine bi (wpAny_seqItems d c ?_);simp only [Int.toNat_natCast,hx];refine bi (wpAny_setField b a (by simp) (bw ⟨x,rfl,bw (hQ _ ⟨_,Heap.get?_update_self _ b (Obj.isFreed_of_fields (Obj.data_mapFields a _)),(Obj.cls_mapFields ..).trans e,?_⟩ (Heap.SameBut.update ..))⟩));rw [Obj.data_mapFields a];simp [rawInt]
theorem ê {it l:Addr} {i:Nat} {items} {Q:Value->Shared->Prop} (hh:A.handled=none) (hit:s.heap.IsTupleIter it l i) (hl:s.heap.IsTuple l items) (hx:items[i]?=none)
  (hE:∀ h' e,Heap.ExtBut it s.heap h'->(∃ o,h'.get? e=some o/\o.cls=.type "StopIteration")->E (.ref e) { s with heap:=h' }):wpAny (model prog w) A (Builtin.SmallTypes.nextOf (.ref it)) Q E s:=by
 obtain ⟨j,c,g,b⟩:=id hit;obtain ⟨h,f,_,k,d⟩:=hl;unfold Builtin.SmallTypes.nextOf;refine bi (wpAny_callSpecial?_slot (name:=Str.ofString "__next__") hit.typeIs slot_tupleiter_next (wpAny_call_entry slot_tupleiter_next hit.typeIs entry_tupleiter_next ?_ (args_tupleiter_next _)))
 (show wpAny _ _ (field (.ref it) 0 >>= _) _ _ s); refine bi (cq c b (x:=.ref l) rfl ?_)
 (show wpAny _ _ (if (Value.ref l == Value.none)=true then _ else _) _ _ s); rw [if_neg (show ¬ ((Value.ref l == Value.none)=true) from bE)]
 (show wpAny _ _ (field (.ref it) 1 >>= _) _ _ s); refine bi (cq c b (x:=.int i 0) rfl ?_)
 (show wpAny _ _ (seqItems? (.ref l) >>= _) _ _ s); refine bi (wpAny_seqItems f d ?_)
 simp only [Int.toNat_natCast,hx]; refine bi (wpAny_rule (bi (wpAny_setField c b (by simp) ?_)))
 (show wpAny _ _ (newExc (.type "StopIteration") [] >>= _) _ _ _); refine bi ?_
 simp only [newExc,newTuple]; refine bi (wpAny_newObj_type ?_ (by size_fits))
 refine bi (m:=firstArgMember _ _) (wpAny_of_eq (a:=Value.none) (by first | rfl | (simp only [firstArgMember]; rfl)) (wpAny_newObj_type ?_ (by size_fits)))
 simp only [raiseNew]; refine bi (wpAny_handled ?_)
 (first | rw [show A.in1.handled=none from hh] | rw [hh]); refine bi (bw (wpAny_throw ?_))
 exact hE _ _ (((Heap.SameBut.update _ ..).extBut.push _).push _) ⟨_,bC _ rfl,rfl⟩
end
section
open AutoSeq1 (wpAny_loadPart')
set_option maxRecDepth 100000
end
def vdw (K:W.Frag) (a:Addr):It :=
 ⟨fun i H=>∃ xs x,SqT K H a xs/\xs[i]?=some x,fun i H y H'=>∃ t x,y=.ref t/\H t=none/\H'=upd H t (.tup [.int i,x])/\∀ xs,SqT K H a xs->xs[i]?=some x,fun i H=>∃ xs,SqT K H a xs/\xs.length <= i⟩
section
variable {X:Cx}
def yv5 (K:W.Frag) (ta:TA):TI:=fun σ H R=>ta σ H fun vs H1=>∃ a,vs=[.ref a]/\(∃ xs,SqT K H1 a xs)/\R (vdw K a) H1
theorem yjp {K:W.Frag} {ta:TA} {σ:St} {H:Hp} {R:It->Hp->Prop} (h:ta σ H fun vs H1=>∃ a,vs=[.ref a]/\(∃ xs,SqT K H1 a xs)/\R (vdw K a) H1):yv5 K ta σ H R:=h
end
end L2
namespace L2
open PySem PySem.Spec PyProof.Rows
end L2
namespace L2
section
variable {σ:St} {H:Hp} {Q:VK} {td ty tx tv:TE}
theorem yx2 (h:td σ H fun x H1=>ty σ H1 fun y H2=>∃ a v,x=.ref a/\Ó H2 a y (some v)/\Q v H2):yzt td ty σ H Q:=h
theorem yqx (h:td σ H fun x H1=>∃ a,x=.ref a/\IsD H1 a/\ty σ H1 fun y H2=>∃ o,Ó H2 a y o/\Q (o.getD .non) H2):yvm td ty σ H Q:=h
theorem yob (h:td σ H fun x H1=>∃ a,x=.ref a/\IsD H1 a/\ty σ H1 fun y H2=>tx σ H2 fun z H3=>∃ o,Ó H3 a y o/\Q (o.getD z) H3):yvi td ty tx σ H Q:=h
theorem vcj (h:ty σ H fun y H1=>td σ H1 fun x H2=>∃ a o,x=.ref a/\Ó H2 a y o/\Q (.bl o.isSome) H2):vd7 ty td σ H Q:=h
theorem yle (h:ty σ H fun y H1=>td σ H1 fun x H2=>∃ a o,x=.ref a/\Ó H2 a y o/\Q (.bl (!o.isSome)) H2):yhf ty td σ H Q:=h
theorem yxo {nx bk ct:St->Hp->Prop} {rt:VK} (h:tv σ H fun v H1=>td σ H1 fun x H2=>ty σ H2 fun y H3=>∃ a H4,x=.ref a/\yls H3 a y v H4/\nx σ H4):yz7 td ty tv ⟨nx,rt,bk,ct⟩ σ H:=h
theorem yo7 (h:∀ p,H p=none->Q (.ref p) (upd H p (.dT []))):ymv σ H Q:=h
end
end L2
namespace L2
open PySem PySem.Spec PyProof.Rows
variable {i1 i2 l1 l2:Addr} {xs ys:Array Value} {elts:List Expr} {i k1 k2:Nat} {tpos:Pos} {a:Value}
def Itz (K:W.Frag) (a b:Addr):It :=
 ⟨fun i H=>∃ xs ys x y,SqL K H a xs/\SqL K H b ys/\xs[i]?=some x/\ys[i]?=some y,
  fun i H v H'=>∃ t x y,v=.ref t/\H t=none/\H'=upd H t (.tup [x,y])/\(∀ xs,SqL K H a xs->xs[i]?=some x)/\(∀ ys,SqL K H b ys->ys[i]?=some y),
  fun i H=>∃ xs ys,SqL K H a xs/\SqL K H b ys/\(xs.length <= i\/ys.length <= i)⟩
structure Zap (z TI TO i1 i2:Addr):Prop where
 a1:TI≠z
 a2:TO≠z
 a3:i1≠z
 a4:i2≠z
 a5:TI≠TO
 a6:TI≠i1
 a7:TI≠i2
 a8:TO≠i1
 a9:TO≠i2
 b1:i1≠i2
def Zst (z TI TO i1 i2 l1 l2:Addr) (i:Nat) (h:Heap):Prop:=IsZip h z TI TO .none/\IsPair h TI (.ref i1) (.ref i2)/\(∃ a b,IsPair h TO a b)/\h.IsListIter i1 l1 i/\h.IsListIter i2 l2 i
theorem uk {h:Heap} {a b:Addr} {o o':Obj} (e:h.get? a=some o) (e':h.get? b=some o') (n:o.cls≠o'.cls):a≠b:=by
 rintro rfl;rw [e] at e';cases e';exact n rfl
theorem ym4 (z:Nat):Zap (z+4) (z+2) (z+3) z (z+1):=by
 constructor <;> (show (_:Nat)≠(_:Nat); omega)
theorem nT {a b:String} (h:Value.type a≠Value.type b):Value.type a≠Value.type b:=h
theorem Zap.apart {X:Cx} {pins:List (Addr × Obj)} {σ:St} {H:Hp} {s:Shared} {z TI TO:Addr} {xs ys:List Value} (d:Zap z TI TO i1 i2) (st:Zst z TI TO i1 i2 l1 l2 i s.heap) (p:PlainL s.heap l1 xs.toArray) (q:PlainL s.heap l2 ys.toArray) (_:Inv X pins σ H s):ZipApart z TI TO i1 i2 l1 l2:=by
 obtain ⟨l,o,⟨a,b,c⟩,⟨v,n,m,_⟩,⟨u,j,k,_⟩⟩:=st;obtain ⟨r,e,f,_⟩:=p.isList;obtain ⟨t,h,g,_⟩:=q.isList
 exact ⟨d.a1,d.a2,d.a3,d.a4,d.a5,d.a6,d.a7,d.a8,d.a9,d.b1,
  uk e l (by rw [f]; exact nT (by decide)),uk e c (by rw [f]; exact nT (by decide)),uk e n (by rw [f,m]; decide),uk e j (by rw [f,k]; decide),
  uk h l (by rw [g]; exact nT (by decide)),uk h c (by rw [g]; exact nT (by decide)),uk h n (by rw [g,m]; decide),uk h j (by rw [g,k]; decide)⟩
theorem ylj {P:Program} {w:World} {K:W.Frag} {x1} (l1 l2 z TI TO i1 i2:Addr) (d:Zap z TI TO i1 i2) :
  yi6 P w K (.Tuple elts x1 tpos) (Itz K l1 l2) [z,TI,TO,i1,i2] z (Zst z TI TO i1 i2 l1 l2) where
 mem:=by simp
 obj:=fun i h G b g=>by
  obtain ⟨O,j,⟨_,_,l⟩,⟨o1,e1,_,d1⟩,⟨o2,e2,_,d2⟩⟩:=G;simp only [bB,List.not_mem_nil,or_false] at g;rcases g with rfl | rfl | rfl | rfl | rfl
  .exists _,O,fun v z=>by cases z
  .exists _,j,fun v z=>by cases z
  .exists _,l,fun v z=>by cases z
  .exists o1,e1,fun v z=>by rw [d1] at z; cases z
  .exists o2,e2,fun v z=>by rw [d2] at z; cases z
 keep:=fun i h T G k=>by
  obtain ⟨O,j,⟨a,b,l⟩,h1,h2⟩:=G;exists k z (by simp) _ O,k TI (by simp) _ j,⟨a,b,k TO (by simp) _ l⟩,h1.at fun o e=>k i1 (by simp) o e,h2.at fun o e=>k i2 (by simp) o e
 item:=by
  intro X hP hw hK hc i N s σ H E I F G hg;subst hP hw hK;obtain ⟨xs,ys,x,y,U,M,B,hy⟩:=hg;obtain ⟨ab,rv,p,aa⟩:=I.list U;obtain ⟨a7,S,p',a8⟩:=I.list M;obtain ⟨u,hu,ru⟩:=rv.get B;obtain ⟨u',ad,ac⟩:=S.get hy;have D:=d.apart G p p' I;obtain ⟨O,j,⟨va,vb,l⟩,J,L⟩:=G;refine wpAny_pyNext_zip_item D O j l J L p.isList p'.isList (x:=u) (y:=u') (by simpa using hu) (by simpa using ad) fun T a1 a2 a3 a4 a5 a6 hk=>?_;exists _,rfl,wpAny_letOwnedTupleGo_zip a1 fun r a0 m=>?_;have C:H s.heap.objs.size=none:=I.hok.fresh (bp _);have lz:z < s.heap.objs.size:=bv O;have lo:TO < s.heap.objs.size:=bv l;have lI:TI < s.heap.objs.size:=bv j;have ag:i1 < s.heap.objs.size:=by obtain ⟨o,e,_⟩:=id J; exact bv e
  have af:i2 < s.heap.objs.size:=by obtain ⟨o,e,_⟩:=id L; exact bv e
  have keep:∀ b o,b≠z->b≠TO->b≠i1->b≠i2->s.heap.get? b=some o->r.get? b=some o:=fun b o Y n2 n3 n4 e=>(m.2 b Y).trans (hk b o Y n2 n3 n4 e);have a9:r.get? s.heap.objs.size=some { cls:=.type "tuple",data:=.seq #[u,u'] }:=(m.2 _ (Nat.ne_of_gt lz)).trans a5;have Z:∀ {b v},H b=some v->b≠z/\b≠TO/\b≠i1/\b≠i2:=fun {b v} e=>⟨yb e (F z (by simp)).1,yb e (F TO (by simp)).1,yb e (F i1 (by simp)).1,yb e (F i2 (by simp)).1⟩
  have Q:HOk X.prog X.w (upd H s.heap.objs.size (.tup [x,y])) r:=fun b o e=>by
   by_cases g:b=s.heap.objs.size
   .subst g;rw [ya] at e;cases e;exists by show 2 <= sizeLine; decide,[u,u'],.cons ru (.cons ac .nil),⟨_,a9,rfl,_,rfl⟩
   .rw [yk g] at e;refine (I.hok b o e).stay (fun c v t q=>?_) (fun c q=>by rw [yk (yb q C)]; exact q) fun c ys q=>by rw [yk (yb q C)]; exact q
    obtain ⟨Y,n2,n3,n4⟩:c≠z/\c≠TO/\c≠i1/\c≠i2:=by
     rcases t with rfl | t
     .exact Z e
     .exact Z t
    exact keep c v Y n2 n3 n4 q
  have un:Un (frs X.stack) [z,TI,TO,i1,i2] H (upd H s.heap.objs.size (.tup [x,y])) s.heap r:=by
   have R:∀ {b o},b∉[z,TI,TO,i1,i2]->s.heap.get? b=some o->r.get? b=some o:=fun {b o} g e=>keep b o (fun q=>g (by simp [q])) (fun q=>g (by simp [q])) (fun q=>g (by simp [q])) (fun q=>g (by simp [q])) e
   refine ⟨fun b o e n _ B=>R B e,fun b o e n _ B=>⟨o.slots,R B e⟩,fun b o e n _=>by rw [yk (bQ (bv e))]; exact n,fun b o e B=>⟨o,R B e⟩,
    fun b ys e=>by rw [yk (yb e C)]; exact e,fun b o v e=>by rw [yk (yb e C)]; exact e,fun b ps e=>⟨#[],by rw [yk (yb e C),e]; simp⟩⟩
  have I1:Inv X N σ (upd H s.heap.objs.size (.tup [x,y])) { s with heap:=r }:=I.call' (s':={ s with heap:=r }) rfl un Q I.bare fun b g=>by
   have f:=F b g;exact ⟨f.2.2.2.1,f.2.1,f.2.2.2.2.1,f.2.2.2.2.2⟩
  exists .ref s.heap.objs.size,_,I1,rfl,⟨_,x,y,rfl,C,rfl,fun zs h=>by rw [I.list_inj h U]; exact B,fun zs h=>by rw [I.list_inj h M]; exact hy⟩,?_,fun b g=>?_
  .exists a0,keep _ _ D.TIz D.TITO D.TIi1 D.TIi2 j,⟨u,u',(m.2 _ D.TOz).trans a2⟩,a3.at fun o e=>(m.2 _ D.i1z).trans e,a4.at fun o e=>(m.2 _ D.i2z).trans e
  .rw [yk (fun q=>?_)]
   .exact (F b g).1
   .have U:b < s.heap.objs.size:=by
     simp only [bB,List.not_mem_nil,or_false] at g;rcases g with rfl | rfl | rfl | rfl | rfl <;> assumption
    exact absurd q (bQ U)
 done:=by
  intro X hP hw hK hc i N s σ H E I F G hg;subst hP hw hK;obtain ⟨xs,ys,U,M,B⟩:=hg;obtain ⟨ab,rv,p,aa⟩:=I.list U;obtain ⟨a7,S,p',a8⟩:=I.list M;have D:=d.apart G p p' I;obtain ⟨O,j,⟨va,vb,l⟩,J,L⟩:=G;have hl:=rv.length;have ae:=S.length;refine wpAny_pyNext_zip_end (show X.A.handled=none from I.ok.hd hc) D O j l J L p.isList p'.isList (by simp; omega) fun T hk=>⟨rfl,?_⟩;have Z:∀ {b v},H b=some v->b≠z/\b≠TO/\b≠i1/\b≠i2:=fun {b v} e=>⟨yb e (F z (by simp)).1,yb e (F TO (by simp)).1,yb e (F i1 (by simp)).1,yb e (F i2 (by simp)).1⟩
  have Q:HOk X.prog X.w H T:=fun b o e=>by
   refine (I.hok b o e).stay (fun c v t q=>?_) (fun c q=>q) fun c ys q=>q
   obtain ⟨Y,n2,n3,n4⟩:c≠z/\c≠TO/\c≠i1/\c≠i2:=by
    rcases t with rfl | t
    .exact Z e
    .exact Z t
   exact hk c v Y n2 n3 n4 q
  have un:Un (frs X.stack) [z,TI,TO,i1,i2] H H s.heap T:=by
   have R:∀ {b o},b∉[z,TI,TO,i1,i2]->s.heap.get? b=some o->T.get? b=some o:=fun {b o} g e=>hk b o (fun q=>g (by simp [q])) (fun q=>g (by simp [q])) (fun q=>g (by simp [q])) (fun q=>g (by simp [q])) e;exists fun b o e n _ B=>R B e,fun b o e n _ B=>⟨o.slots,R B e⟩,fun b o e n _=>n,fun b o e B=>⟨o,R B e⟩,fun b ys e=>e,fun b o v e=>e,fun b ps e=>⟨#[],by rw [e]; simp⟩
  exact I.call' (s':={ s with heap:=T }) rfl un Q I.bare fun b g=>by
   have f:=F b g;exact ⟨f.2.2.2.1,f.2.1,f.2.2.2.2.1,f.2.2.2.2.2⟩
 self:=fun _ _ _ _ _ G h=>wpAny_pyIter_zip G.1 h
section
variable {X:Cx}
def vdz (K:W.Frag) (ta:TA):TI:=fun σ H R=>ta σ H fun vs H1=>∃ a b,vs=[.ref a,.ref b]/\(∃ xs ys,SqL K H1 a xs/\SqL K H1 b ys)/\R (Itz K a b) H1
theorem yl1 {x1} {l m:Expr} {ta:TA} {p pos:Pos} (hg:Gl X "zip") (hm:X.mg "zip"=none) (ha:PA X [l,m] ta) (hs:starEach [l,m] X.env=[(false,eval l X.env),(false,eval m X.env)]:=by rfl) (hs2:starEach [m] X.env=[(false,eval m X.env)]:=by rfl) :
  PI X (.Tuple elts x1 tpos) (.Call (.Name "zip" p) [l,m] [] pos) (vdz X.K ta):=by
 intro g s σ H R I h;refine Call_ (ĥ I hg hm (show bootBuiltins "zip"=some (.type "zip") by decide +kernel) (PyProof.Rows.callWith_type1 (thn (ha pos g s σ H _ I h) fun N c h'=>?_) (by rw [hs,hs2]) (by rw [hs2]; rfl)));obtain ⟨J,x,d,z,E⟩:=h';obtain ⟨a,b,e,⟨M,O,B,j⟩,q⟩:=E;subst e
 cases z with
 | cons r rr =>
  cases rr with
  | cons r' rr =>
   cases rr;cases r;cases r';obtain ⟨A,P,w,o⟩:=d.list B;obtain ⟨u,F,t,G⟩:=d.list j;refine call_zip_2 w.isList t.isList fun L o k i D y C v=>?_;refine wpAny_pyIter_zip o ?_;have n:Zap (c.heap.objs.size+4) (c.heap.objs.size+2) (c.heap.objs.size+3) c.heap.objs.size (c.heap.objs.size+1):=ym4 _;exists c.heap.objs.size+4,[c.heap.objs.size+4,c.heap.objs.size+2,c.heap.objs.size+3,c.heap.objs.size,c.heap.objs.size+1],_,_,x,rfl,d.kept (t':=c.toks) v,ylj a b _ _ _ _ _ n,⟨o,k,⟨_,_,i⟩,D,y⟩,fun b f=>?_,q
   have f:c.heap.objs.size <= b:=by
    simp only [bB,List.not_mem_nil,or_false] at f;rcases f with rfl | rfl | rfl | rfl | rfl <;> omega
   exact d.fpOk f (d.hok.fresh f)
theorem yt5 {K:W.Frag} {ta:TA} {σ:St} {H:Hp} {R:It->Hp->Prop} (h:ta σ H fun vs H1=>∃ a b,vs=[.ref a,.ref b]/\(∃ xs ys,SqL K H1 a xs/\SqL K H1 b ys)/\R (Itz K a b) H1):vdz K ta σ H R:=h
end
theorem Ĝ {K:W.Frag} {a b D:Addr} {xs ys:List V} {g:TG} {te:TE} {n:Nat} {fr:St} {R:Hp->Prop} {H1:Hp} (f:Nat->V) (hq:SqL K H1 a xs) (hq':SqL K H1 b ys) (hl:ys.length=xs.length) (hD:H1 D=none)
  (hs:∀ i x y H t pre,xs[i]?=some x->ys[i]?=some y->yq H1 H->H D=some (.lst ((List.range i).map f))->H t=none->List.length pre=n->g (.ref t) (pre++fr) (upd H t (.tup [x,y])) fun σ' H'=>(∃ pre',List.length pre'=n/\σ'=pre'++fr)/\te σ' H' (MpK H1 D f xs.length i))
  (hd:∀ H,yq H1 H->H D=some (.lst ((List.range xs.length).map f))->R H):jx (Itz K a b) g te n fr D R H1:=by
 exists cW xs.length (Mp H1 D f),⟨xs.length,by simp,bL _,Mp.zero hD⟩,?_;rintro i m H ⟨rfl,o,p⟩;have q:=p.1.seq hq;have c:=p.1.seq hq';by_cases hlt:i < xs.length
 .refine .inr ⟨⟨xs,ys,xs[i],ys[i]'(by omega),q,c,by simp [hlt],by simp [hl,hlt]⟩,fun y H' pre k j=>?_⟩;obtain ⟨t,x,y,rfl,l,rfl,d,h⟩:=k;exact hs i x y H t pre (d xs q) (h ys c) p.1 p.2 l j
 .have e:i=xs.length:=by omega
  subst e;exact .inl ⟨⟨xs,ys,q,c,.inl (bp _)⟩,hd H p.1 p.2⟩
section
variable {X:Cx} {iter elt tg:Expr} {xs:List Str} {g:TG} {pos:Pos} {scope:Scope} {te:TE} {wi:TI} {ys:List Str} {js:List Nat}
theorem yj3 {y:Str} {py spos:Pos} (hN:X.N.Nodup) (hy:X.N[i]?=some y) (hl:X.env.scope.names.lookup y=some .local) (hc:X.calm=true) (hi:PI X tg iter wi)
  (he:∀ (C:Addr) (s2:Shared) (H2:Hp) (fp:List Addr),PE (X.compT scope ys C xs s2 H2 fp) elt te) (hjs:js.map (fun j=>X.N[j]?)=ys.map some)
  (hgt:∀ (C:Addr) (s2:Shared) (H2:Hp) (fp:List Addr),PG (X.compT scope ys C xs s2 H2 fp) tg g)
  (hclos:closureFor scope X.env=pure (γ ys X.env)) (hyc:∀ y∈ys,X.env.kindOf y=some .cell) (hrel:∀ y∈ys,(relabel scope X.env).names.lookup y=some .cell)
  (hsw:swapsWith (.ListComp elt [⟨tg,iter,[],0⟩] scope pos) (some (.Name y py)) spos.line X.env=pure true:=by rfl)
  (hfr:∀ y∈scope.names,y.2=.free->y.1∈ys:=by decide +kernel) (hcell:∀ y∈scope.names,y.2≠.cell:=by decide +kernel) (hkind:scope.kind=.function:=by rfl)
  (hnames:∀ y∈scope.names,y.2=.local->scope.names.lookup y.1=some .local:=by decide +kernel) (hs:∀ x,foldedSetIterable iter X.env x=pure x:=by intro _; rfl) :
  PS X (.Assign [.Name y py] (.ListComp elt [⟨tg,iter,[],0⟩] scope pos) spos) (vau (yi0 wi g te xs.length js) (wj i)):=by
 refine .mk fun a s σ H n I h=>?_;rw [exec_Assign_Name_used _ _ _ _ hsw];refine bi (wpAny_standAt (bi ?_));show wpAny _ X.A (do let _ <- comprehension (.ListComp elt [⟨tg,iter,[],0⟩] scope pos) scope X.env _ (newList []) false (eval iter X.env) (some (assign (.Name y py) X.env))) _ _ s;refine bi (cJ (wpAny_comprehension_free (use:=some (assign (.Name y py) X.env)) (Q:=fun _ d=>SP X a n .next d) rfl hs hclos hkind hnames (thn (hi a s σ H _ I h) fun v U M=>thn M fun B s2 F=>?_)) (fun _ d K=>bw (bw K)) fun _ _ e=>e);obtain ⟨W,fp,P,J,H2,e,E,T,u,O,h⟩:=F;subst e;refine Ç (R:=fun D k=>wj i (.ref D) σ k n.nx) (RR:=compPost (model X.prog X.w) X.A X.xe (some (assign (.Name y py) X.env)) (fun _ d=>SP X a n .next d)) hc he hgt hcell hkind hfr hyc hrel hjs E T u O h ?_;intro D C k d m f L G q;refine wpAny_assign_Name (ó (v:=V.ref D) G hN hy (Or.inl hl) rfl (fun p l r=>?_) (Or.inr hl));exists m,?_,fun S t=>⟨_,k,?_,q⟩
 .obtain ⟨b,t,c⟩:=r;refine L.sameBut t fun z=>?_;rcases c with c | c
  .exact f.2.1 (z.trans c)
  .exact f.2.2.2.2.1 y b c z.symm
 .exact l.turned (t':=p.toks) (fun b o c e=>t.extBut b o c e) f.1 f.2.1 f.2.2.2.1 f.2.2.2.2.1 f.2.2.2.2.2
end
section
variable {X:Cx}
def vbr (k:Int):R2:=fun x y H Q=>∃ i j,x=.int i/\y=.int j/\vaz i j/\i * 2 ^ j.toNat=k/\Q (.int k) H
theorem yxe {i j k:Int} {H:Hp} {Q:VK} (hc:vaz i j) (e:i * 2 ^ j.toNat=k) (h:Q (.int k) H):vbr k (.int i) (.int j) H Q:=⟨i,j,rfl,rfl,hc,e,h⟩
def onI (f:Int->Int):V->V
 | .int i=>.int (f i)
 | v=>v
theorem yhh (f:Int->Int) (ns:List Int):(ns.map V.int).map (onI f)=(ns.map f).map V.int:=by
 rw [bS,bS];rfl
theorem yiw {pre:List (Option V)} (h:List.length pre=2):∃ v1 v2,pre=[v1,v2]:=by
 match pre,h with
 | [v1,v2],_=>exact ⟨v1,v2,rfl⟩
end
theorem yyu {to ti:TE} {t:vdq} {v:V} {σ:St} {H:Hp} {Q:St->Hp->Prop} (h:to σ H fun o H1=>ti σ H1 fun i H2=>t o i v H2 fun H3=>Q σ H3):vev to ti t v σ H Q:=h
section
variable {X:Cx}
def yzw:V->List V->Hp->VK->Prop:=fun x vs H Q=>∃ i:Int,x=.int i/\vs=[]/\Q (.int (Builtin.Int.intBits i:Nat)) H
theorem yp9:MtR X "int.bit_length" yzw:=by
 intro b s σ H x e v f Q I c d h;obtain ⟨i,rfl,rfl,q⟩:=h;obtain ⟨t,rfl⟩:=c;have a:=d.zero;subst a;exact PyProof.Rows.call_int_bit_length ⟨.int _,H,I.tok _,⟨_,rfl⟩,q⟩
theorem yt9 {K:W.Frag} {i:Int} {H:Hp} {Q:VK} (h:Q (.int (Builtin.Int.intBits i:Nat)) H):tyV K "int" (.int i) H/\yzw (.int i) [] H Q:=⟨rfl,i,rfl,rfl,h⟩
end
section
variable {prog:Program} {w:World} {A:Around} {E:Value->Shared->Prop} {s:Shared}
theorem yjk {z TI TO:Addr} {x y b:Value} {Q:Value->Shared->Prop} (D:ZipApart z TI TO i1 i2 l1 l2) (hz:IsZip s.heap z TI TO .none) (hTI:IsPair s.heap TI (.ref i1) (.ref i2)) (hTO:IsPair s.heap TO a b)
  (h1:s.heap.IsTupleIter i1 l1 k1) (h2:s.heap.IsTupleIter i2 l2 k2) (hl1:s.heap.IsTuple l1 xs) (hl2:s.heap.IsTuple l2 ys) (hx:xs[k1]?=some x) (hy:ys[k2]?=some y)
  (hQ:∀ h',IsZip h' z TI TO (rawInt s.heap.objs.size)->IsPair h' TO x y->h'.IsTupleIter i1 l1 (k1+1)->h'.IsTupleIter i2 l2 (k2+1)->IsPair h' s.heap.objs.size x y->h'.objs.size=s.heap.objs.size+1->(∀ c o,c≠z->c≠TO->c≠i1->c≠i2->s.heap.get? c=some o->h'.get? c=some o)->Q (.ref s.heap.objs.size) { s with heap:=h' }) :
  wpAny (model prog w) A (Builtin.«zip.__next__» ⟨[.ref z],[]⟩) (fun fin s'=>∃ v,fin=.done (.ret v)/\Q v s') E s:=by
 (show wpAny _ _ (field (.ref z) 2 >>= _) _ _ _); refine bi (cq hz rfl (x:=.bool false) rfl ?_)
 (show wpAny _ _ (field (.ref z) 3 >>= _) _ _ _); refine bi (cq hz rfl (x:=.ref TI) rfl ?_); refine bi (wpAny_seqItems hTI rfl ?_)
 (show wpAny _ _ (Builtin.SmallTypes.ownedTupleIsFree (.ref z) >>= _) _ _ _); refine bi ?_; unfold Builtin.SmallTypes.ownedTupleIsFree
 refine bi (cq hz rfl (x:=.none) rfl (bw ?_)); simp only [if_true]; refine bi (wpAny_rule ?_);refine bi (cq hz rfl (x:=.ref TO) rfl ?_); refine bi (wpAny_setField_rec hz (by simp) fun h₁ hz₁ hs₁=>?_)
 replace hz₁:IsZip h₁ z TI TO .ellipsis:=hz₁; refine bi ?_; simp only [List.zipIdx_cons,List.zipIdx_nil,List.forIn_cons,List.forIn_nil]
 refine bi (bi (wpAny_onRaise ?_)); (show wpAny _ _ (Builtin.SmallTypes.nextOf (.ref i1) >>= _) _ _ _);refine bi (ju (h1.at fun o e=>hs₁.extBut _ _ D.i1z e) (hl1.extBut hs₁.extBut D.l1z) hx fun h₂ h1₂ hs₂=>bw ?_);have hTO₂:IsPair h₂ TO a b:=hs₂.extBut _ _ D.TOi1 (hs₁.extBut _ _ D.TOz hTO); refine bi (wpAny_seqItems hTO₂ rfl ?_);refine bi (wpAny_updateSeq_pair hTO₂ fun h₃ hTO₃ hs₃=>?_); replace hTO₃:IsPair h₃ TO x b:=hTO₃; refine bi (wpAny_letGo (bw ?_));refine bi (bi (wpAny_onRaise ?_)); (show wpAny _ _ (Builtin.SmallTypes.nextOf (.ref i2) >>= _) _ _ _);refine bi (ju (h2.at fun o e=>hs₃.extBut _ _ D.TOi2.symm (hs₂.extBut _ _ D.i12.symm (hs₁.extBut _ _ D.i2z e))) (((hl2.extBut hs₁.extBut D.l2z).extBut hs₂.extBut D.l2i1).extBut hs₃.extBut D.l2TO) hy fun h₄ h2₄ hs₄=>bw ?_);have hTO₄:IsPair h₄ TO x b:=hs₄.extBut _ _ D.TOi2 hTO₃; refine bi (wpAny_seqItems hTO₄ rfl ?_);refine bi (wpAny_updateSeq_pair hTO₄ fun h₅ hTO₅ hs₅=>?_); replace hTO₅:IsPair h₅ TO x y:=hTO₅; refine bi (wpAny_letGo (bw (bw ?_)));refine bi (wpAny_seqItems hTO₅ rfl ?_); refine bi (wpAny_newTuple ?_);have g:h₅.objs.size=s.heap.objs.size:=by (rw [hs₅.1,hs₄.1,hs₃.1,hs₂.1,hs₁.1])
 have hz₅:IsZip h₅ z TI TO .ellipsis:=(hs₅.extBut _ _ D.TOz.symm (hs₄.extBut _ _ D.i2z.symm (hs₃.extBut _ _ D.TOz.symm (hs₂.extBut _ _ D.i1z.symm hz₁))));have hk₅:∀ c o,c≠z->c≠TO->c≠i1->c≠i2->s.heap.get? c=some o->h₅.get? c=some o:=fun c o f k m l e=>hs₅.extBut _ _ k (hs₄.extBut _ _ l (hs₃.extBut _ _ k (hs₂.extBut _ _ m (hs₁.extBut _ _ f e))));have h1₅:h₅.IsTupleIter i1 l1 (k1+1):=h1₂.at fun o e=>hs₅.extBut _ _ D.TOi1.symm (hs₄.extBut _ _ D.i12 (hs₃.extBut _ _ D.TOi1.symm e));have h2₅:h₅.IsTupleIter i2 l2 (k2+1):=h2₄.at fun o e=>hs₅.extBut _ _ D.TOi2.symm e;have d:z < h₅.objs.size:=(bv hz₅)
 (show wpAny _ _ (Builtin.SmallTypes.ownedTupleHandOut (.ref z) (.ref h₅.objs.size) >>= _) _ _ _); refine bi ?_; unfold Builtin.SmallTypes.ownedTupleHandOut
 have hz₆:IsZip (h₅.push { cls:=.type "tuple",data:=.seq #[x,y] }) z TI TO .ellipsis:=(bn _ hz₅);refine bi (wpAny_setField_rec hz₆ (by simp) fun h₇ hz₇ hs₇=>?_); replace hz₇:IsZip h₇ z TI TO (rawInt h₅.objs.size):=hz₇;refine wpAny_setField_rec hz₇ (by simp) fun h₈ hz₈ hs₈=>?_; replace hz₈:IsZip h₈ z TI TO (rawInt h₅.objs.size):=hz₈;have j:∀ c o,c≠z->h₅.get? c=some o->h₈.get? c=some o:=(fun c o f e=>hs₈.extBut _ _ f (hs₇.extBut _ _ f (bn _ e)));have hT₈:IsPair h₈ h₅.objs.size x y:=(hs₈.extBut _ _ (Nat.ne_of_gt d) (hs₇.extBut _ _ (Nat.ne_of_gt d) (bC _ rfl)));have i:h₈.objs.size=h₅.objs.size+1:=by (rw [hs₈.1,hs₇.1,Heap.size_push])
 (rw [g] at hz₈ hT₈ i); refine bw ⟨_,rfl,?_⟩; show Q (.ref h₅.objs.size) _; rw [g]
 exact hQ h₈ hz₈ (j _ _ D.TOz hTO₅) (h1₅.at fun o e=>j _ o D.i1z e) (h2₅.at fun o e=>j _ o D.i2z e) hT₈ i (fun c o f k m l e=>j c o f (hk₅ c o f k m l e))
theorem yok {z TI TO:Addr} {b:Value} {Q:Fin->Shared->Prop} (hh:A.handled=none) (D:ZipApart z TI TO i1 i2 l1 l2) (hz:IsZip s.heap z TI TO .none) (hTI:IsPair s.heap TI (.ref i1) (.ref i2)) (hTO:IsPair s.heap TO a b)
  (h1:s.heap.IsTupleIter i1 l1 k1) (h2:s.heap.IsTupleIter i2 l2 k2) (hl1:s.heap.IsTuple l1 xs) (hl2:s.heap.IsTuple l2 ys) (hend:xs[k1]?=none\/ys[k2]?=none)
  (hE:∀ h' e,(∀ c o,c≠z->c≠TO->c≠i1->c≠i2->s.heap.get? c=some o->h'.get? c=some o)->(∃ o,h'.get? e=some o/\o.cls=.type "StopIteration")->E (.ref e) { s with heap:=h' }):wpAny (model prog w) A (Builtin.«zip.__next__» ⟨[.ref z],[]⟩) Q E s:=by
 (show wpAny _ _ (field (.ref z) 2 >>= _) _ _ _); refine bi (cq hz rfl (x:=.bool false) rfl ?_)
 (show wpAny _ _ (field (.ref z) 3 >>= _) _ _ _); refine bi (cq hz rfl (x:=.ref TI) rfl ?_); refine bi (wpAny_seqItems hTI rfl ?_)
 (show wpAny _ _ (Builtin.SmallTypes.ownedTupleIsFree (.ref z) >>= _) _ _ _); refine bi ?_; unfold Builtin.SmallTypes.ownedTupleIsFree
 refine bi (cq hz rfl (x:=.none) rfl (bw ?_)); simp only [if_true]; refine bi (wpAny_rule ?_);refine bi (cq hz rfl (x:=.ref TO) rfl ?_); refine bi (wpAny_setField_rec hz (by simp) fun h₁ hz₁ hs₁=>?_)
 replace hz₁:IsZip h₁ z TI TO .ellipsis:=hz₁; refine bi ?_; simp only [List.zipIdx_cons,List.zipIdx_nil,List.forIn_cons,List.forIn_nil]
 refine bi (bi (wpAny_onRaise ?_)); (show wpAny _ _ (Builtin.SmallTypes.nextOf (.ref i1) >>= _) _ _ _)
 cases hx:xs[k1]? with
 | none =>
  refine bi (ê hh (h1.at fun o e=>hs₁.extBut _ _ D.i1z e) (hl1.extBut hs₁.extBut D.l1z) hx fun h₂ e hs₂ k=>?_);obtain ⟨j,d,f⟩:=k; have hz₂:IsZip h₂ z TI TO .ellipsis:=hs₂ _ _ D.i1z.symm hz₁;have g:e≠z:=(fun x=>by (subst x; rw [hz₂] at d; cases d; simp at f));exact wpAny_setField_rec hz₂ (by simp) fun h₃ _ hs₃=>hE h₃ e (fun c o i _ l _ x=>hs₃.extBut _ _ i (hs₂ _ _ l (hs₁.extBut _ _ i x))) ⟨j,hs₃.extBut _ _ g d,f⟩
 | some x =>
  have n:ys[k2]?=none:=by (rcases hend with h | h; (rw [hx] at h; cases h); exact h)
  refine bi (ju (h1.at fun o e=>hs₁.extBut _ _ D.i1z e) (hl1.extBut hs₁.extBut D.l1z) hx fun h₂ h1₂ hs₂=>bw ?_);have hTO₂:IsPair h₂ TO a b:=(hs₂.extBut _ _ D.TOi1 (hs₁.extBut _ _ D.TOz hTO)); refine bi (wpAny_seqItems hTO₂ rfl ?_);refine bi (wpAny_updateSeq_pair hTO₂ fun h₃ hTO₃ hs₃=>?_); refine bi (wpAny_letGo (bw ?_));refine bi (bi (wpAny_onRaise ?_)); (show wpAny _ _ (Builtin.SmallTypes.nextOf (.ref i2) >>= _) _ _ _);refine bi (ê hh (h2.at fun o e=>hs₃.extBut _ _ D.TOi2.symm (hs₂.extBut _ _ D.i12.symm (hs₁.extBut _ _ D.i2z e))) (((hl2.extBut hs₁.extBut D.l2z).extBut hs₂.extBut D.l2i1).extBut hs₃.extBut D.l2TO) n fun h₄ e hs₄ k=>?_);obtain ⟨j,d,f⟩:=k; have hz₄:IsZip h₄ z TI TO .ellipsis:=hs₄ _ _ D.i2z.symm (hs₃.extBut _ _ D.TOz.symm (hs₂.extBut _ _ D.i1z.symm hz₁));have g:e≠z:=(fun x=>by (subst x; rw [hz₄] at d; cases d; simp at f));exact wpAny_setField_rec hz₄ (by simp) fun h₅ _ hs₅=>hE h₅ e (fun c o i p l m x=>hs₅.extBut _ _ i (hs₄ _ _ m (hs₃.extBut _ _ p (hs₂.extBut _ _ l (hs₁.extBut _ _ i x))))) ⟨j,hs₅.extBut _ _ g d,f⟩
theorem yli {z TI TO:Addr} {x y b:Value} {Q:Option Value->Shared->Prop} (D:ZipApart z TI TO i1 i2 l1 l2) (hz:IsZip s.heap z TI TO .none) (hTI:IsPair s.heap TI (.ref i1) (.ref i2)) (hTO:IsPair s.heap TO a b)
  (h1:s.heap.IsTupleIter i1 l1 k1) (h2:s.heap.IsTupleIter i2 l2 k2) (hl1:s.heap.IsTuple l1 xs) (hl2:s.heap.IsTuple l2 ys) (hx:xs[k1]?=some x) (hy:ys[k2]?=some y)
  (hQ:∀ h',IsZip h' z TI TO (rawInt s.heap.objs.size)->IsPair h' TO x y->h'.IsTupleIter i1 l1 (k1+1)->h'.IsTupleIter i2 l2 (k2+1)->IsPair h' s.heap.objs.size x y->h'.objs.size=s.heap.objs.size+1->(∀ c o,c≠z->c≠TO->c≠i1->c≠i2->s.heap.get? c=some o->h'.get? c=some o)->Q (some (.ref s.heap.objs.size)) { s with heap:=h' }) :
  wpAny (model prog w) A (pyNext (.ref z)) Q E s:=by
 have d:s.TypeIs (.ref z) "zip":=(⟨_,hz,rfl⟩); unfold pyNext;exact bi (wpAny_attempt (wpAny_callSpecial?_slot (name:=Str.ofString "__next__") d F.slot_zip_next (wpAny_call_entry F.slot_zip_next d F.entry_zip_next
   (yjk D hz hTI hTO h1 h2 hl1 hl2 hx hy fun h' f i h j g e k=>bw (hQ h' f i h j g e k)) (F.args_zip_next_1 _))))
theorem yka {z TI TO:Addr} {b:Value} {Q:Option Value->Shared->Prop} (hh:A.handled=none) (D:ZipApart z TI TO i1 i2 l1 l2) (hz:IsZip s.heap z TI TO .none) (hTI:IsPair s.heap TI (.ref i1) (.ref i2)) (hTO:IsPair s.heap TO a b)
  (h1:s.heap.IsTupleIter i1 l1 k1) (h2:s.heap.IsTupleIter i2 l2 k2) (hl1:s.heap.IsTuple l1 xs) (hl2:s.heap.IsTuple l2 ys) (hend:xs[k1]?=none\/ys[k2]?=none)
  (hQ:∀ h',(∀ c o,c≠z->c≠TO->c≠i1->c≠i2->s.heap.get? c=some o->h'.get? c=some o)->Q none { s with heap:=h' }):wpAny (model prog w) A (pyNext (.ref z)) Q E s:=by
 have d:s.TypeIs (.ref z) "zip":=(⟨_,hz,rfl⟩); unfold pyNext;refine bi (wpAny_attempt (wpAny_callSpecial?_slot (name:=Str.ofString "__next__") d F.slot_zip_next (wpAny_call_entry F.slot_zip_next d F.entry_zip_next
  (yok hh D hz hTI hTO h1 h2 hl1 hl2 hend fun h' e f h=>?_) (F.args_zip_next_1 _))))
 obtain ⟨o,i,g⟩:=h; refine bi (wpAny_isInstance (T:="StopIteration") (b:=true) ⟨o,i,g⟩ isSubtype_stop ?_);exact bw (hQ _ f)
end
abbrev zT1 (h:Heap) (l1:Addr):Heap:=h.push { cls:=.type "tuple_iterator",data:=.fields #[.ref l1,.int 0 0] }
abbrev zT2 (h:Heap) (l1 l2:Addr):Heap:=(zT1 h l1).push { cls:=.type "tuple_iterator",data:=.fields #[.ref l2,.int 0 0] }
abbrev zT3 (h:Heap) (l1 l2:Addr):Heap:=(zT2 h l1 l2).push { cls:=.type "tuple",data:=.seq #[.ref h.objs.size,.ref (zT1 h l1).objs.size] }
abbrev zT4 (h:Heap) (l1 l2:Addr):Heap:=(zT3 h l1 l2).push { cls:=.type "tuple",data:=.seq #[.none,.none] }
abbrev zT5 (h:Heap) (l1 l2:Addr):Heap:=(zT4 h l1 l2).push { cls:=.type "zip",data:=.fields #[.none,.bool false,.bool false,.ref (zT2 h l1 l2).objs.size,.ref (zT3 h l1 l2).objs.size] }
theorem yo4 (l1 l2:Addr) (xs ys:Array Value):Meets (Builtin.«zip.__new__» ⟨[.type "zip",.ref l1,.ref l2],[]⟩) (fun _ R s=>s.heap.IsTuple l1 xs/\s.heap.IsTuple l2 ys/\R (.ok (.ret (.ref (zT4 s.heap l1 l2).objs.size))) { s with heap:=zT5 s.heap l1 l2 }) :=
 .of_wp fun j w A R s h=>by
  obtain ⟨i,g,d,f,l⟩:=s;obtain ⟨a,c,h⟩:=h;have k:=sub_zip;have e:Heap.IsTuple (Shared.heap ⟨i,g,d,f,l⟩) l1 xs:=a;have b:Heap.IsTuple (Shared.heap ⟨i.push { cls:=.type "tuple_iterator",data:=.fields #[.ref l1,.int 0 0] },g,d,f,l⟩) l2 ys:=Heap.IsTuple.push c _
  wp_walk using wpAny_pyIter_tuple e,wpAny_pyIter_tuple b
  exists _,rfl,h
section
variable {prog:Program} {w:World} {A:Around} {E:Value->Shared->Prop} {s:Shared}
theorem yla {Q:Value->Shared->Prop} (hl1:s.heap.IsTuple l1 xs) (hl2:s.heap.IsTuple l2 ys)
  (h:∀ h',IsZip h' (s.heap.objs.size+4) (s.heap.objs.size+2) (s.heap.objs.size+3) .none->IsPair h' (s.heap.objs.size+2) (.ref s.heap.objs.size) (.ref (s.heap.objs.size+1))->IsPair h' (s.heap.objs.size+3) .none .none->h'.IsTupleIter s.heap.objs.size l1 0->h'.IsTupleIter (s.heap.objs.size+1) l2 0 ->
   (∀ c o,s.heap.get? c=some o->h'.get? c=some o)->Q (.ref (s.heap.objs.size+4)) { s with heap:=h' }):wpAny (model prog w) A (call (.type "zip") [.ref l1,.ref l2]) Q E s:=by
 refine callType_new F.called_zip (by decide) (F.typeCall_zip_2 _ _) (F.newCall_zip_2 _ _) (fun a=>F.args_object_init_3 a _ _) F.entry_zip_new (yo4 l1 l2 xs ys) ⟨hl1,hl2,?_⟩;have e:(zT1 s.heap l1).objs.size=s.heap.objs.size+1:=Heap.size_push ..;have b:(zT2 s.heap l1 l2).objs.size=s.heap.objs.size+2:=by rw [Heap.size_push,e]
 have d:(zT3 s.heap l1 l2).objs.size=s.heap.objs.size+3:=by rw [Heap.size_push,b]
 have f:(zT4 s.heap l1 l2).objs.size=s.heap.objs.size+4:=by rw [Heap.size_push,d]
 have g5:(zT5 s.heap l1 l2).get? (zT4 s.heap l1 l2).objs.size=some _:=bC _ rfl;have g4:(zT5 s.heap l1 l2).get? (zT3 s.heap l1 l2).objs.size=some _:=bn _ (bC _ rfl);have g3:(zT5 s.heap l1 l2).get? (zT2 s.heap l1 l2).objs.size=some _:=bn _ (bn _ (bC _ rfl));have g2:(zT5 s.heap l1 l2).get? (zT1 s.heap l1).objs.size=some _:=bn _ (bn _ (bn _ (bC _ rfl)));have g1:(zT5 s.heap l1 l2).get? s.heap.objs.size=some _:=(bn _ (bn _ (bn _ (bn _ (bC _ rfl)))));show _/\_;rw [b,d,f] at g5;rw [e,b] at g3;rw [d] at g4;rw [e] at g2;rw [f];exists ⟨_,g5,rfl⟩,h _ g5 g3 g4 ⟨_,g1,rfl,rfl⟩ ⟨_,g2,rfl,rfl⟩ fun c o x=>(bn _ (bn _ (bn _ (bn _ (bn _ x)))))
end
def vao (K:W.Frag) (a b:Addr):It :=
 ⟨fun i H=>∃ xs ys x y,SqT K H a xs/\SqT K H b ys/\xs[i]?=some x/\ys[i]?=some y,
  fun i H v H'=>∃ t x y,v=.ref t/\H t=none/\H'=upd H t (.tup [x,y])/\(∀ xs,SqT K H a xs->xs[i]?=some x)/\(∀ ys,SqT K H b ys->ys[i]?=some y),
  fun i H=>∃ xs ys,SqT K H a xs/\SqT K H b ys/\(xs.length <= i\/ys.length <= i)⟩
def vea (z TI TO i1 i2 l1 l2:Addr) (i:Nat) (h:Heap):Prop:=IsZip h z TI TO .none/\IsPair h TI (.ref i1) (.ref i2)/\(∃ a b,IsPair h TO a b)/\h.IsTupleIter i1 l1 i/\h.IsTupleIter i2 l2 i
theorem Zap.apartT {X:Cx} {H:Hp} {s:Shared} {z TI TO:Addr} {xs ys:List Value} {us vs:List V} (d:Zap z TI TO i1 i2) (st:vea z TI TO i1 i2 l1 l2 i s.heap) (p:s.heap.IsTuple l1 xs.toArray) (q:s.heap.IsTuple l2 ys.toArray) (hn:H TO=none) (hK:X.K.lookup TO=none)
  (hq:SqT X.K H l1 us) (hq':SqT X.K H l2 vs):ZipApart z TI TO i1 i2 l1 l2:=by
 obtain ⟨r,w,⟨a,b,v⟩,⟨B,u,t,_⟩,⟨A,m,n,_⟩⟩:=st;obtain ⟨x,e,f,_⟩:=p;obtain ⟨y,j,g,_⟩:=q
 have c:∀ {l:Addr} {k:List V},SqT X.K H l k->l≠TO:=fun {l k} h=>by
  rintro rfl;rcases h with (h | ⟨o,h⟩) | ⟨_,_,_,h,_⟩
  .rw [hn] at h; cases h
  .rw [hn] at h; cases h
  .rw [hK] at h; cases h
 exact ⟨d.a1,d.a2,d.a3,d.a4,d.a5,d.a6,d.a7,d.a8,d.a9,d.b1,
  uk e r (by rw [f]; exact nT (by decide)),c hq,uk e u (by rw [f,t]; decide),uk e m (by rw [f,n]; decide),
  uk j r (by rw [g]; exact nT (by decide)),c hq',uk j u (by rw [g,t]; decide),uk j m (by rw [g,n]; decide)⟩
theorem ygd {P:Program} {w:World} {K:W.Frag} {x1} (l1 l2 z TI TO i1 i2:Addr) (d:Zap z TI TO i1 i2) (hKT:K.lookup TO=none) :
  yi6 P w K (.Tuple elts x1 tpos) (vao K l1 l2) [z,TI,TO,i1,i2] z (vea z TI TO i1 i2 l1 l2) where
 mem:=by simp
 obj:=fun i h L b g=>by
  obtain ⟨R,j,⟨_,_,l⟩,⟨o1,e1,_,d1⟩,⟨o2,e2,_,d2⟩⟩:=L;simp only [bB,List.not_mem_nil,or_false] at g;rcases g with rfl | rfl | rfl | rfl | rfl
  .exists _,R,fun v z=>by cases z
  .exists _,j,fun v z=>by cases z
  .exists _,l,fun v z=>by cases z
  .exists o1,e1,fun v z=>by rw [d1] at z; cases z
  .exists o2,e2,fun v z=>by rw [d2] at z; cases z
 keep:=fun i h h' L k=>by
  obtain ⟨R,j,⟨a,b,l⟩,h1,h2⟩:=L;exists k z (by simp) _ R,k TI (by simp) _ j,⟨a,b,k TO (by simp) _ l⟩,h1.at fun o e=>k i1 (by simp) o e,h2.at fun o e=>k i2 (by simp) o e
 item:=by
  intro X hP hw hK hc i Q s σ H E I C L hg;subst hP hw hK;obtain ⟨xs,ys,x,y,O,F,B,hy⟩:=hg;obtain ⟨S,rv,p0,a9⟩:=I.tuple O;obtain ⟨J,Z,Y,a7⟩:=I.tuple F;have p:s.heap.IsTuple l1 S.toArray:=p0;have p':s.heap.IsTuple l2 J.toArray:=Y;obtain ⟨u,hu,ru⟩:=rv.get B;obtain ⟨u',ab,aa⟩:=Z.get hy;have D:=d.apartT L p p' (C TO (by simp)).1 hKT O F;obtain ⟨R,j,⟨va,vb,l⟩,M,N⟩:=L;refine yli D R j l M N p p' (x:=u) (y:=u') (by simpa using hu) (by simpa using ab) fun h' a1 a2 a3 a4 a5 a6 hk=>?_;exists _,rfl,wpAny_letOwnedTupleGo_zip a1 fun r a0 m=>?_;have G:H s.heap.objs.size=none:=I.hok.fresh (bp _);have lz:z < s.heap.objs.size:=bv R;have lo:TO < s.heap.objs.size:=bv l;have lI:TI < s.heap.objs.size:=bv j;have ae:i1 < s.heap.objs.size:=by obtain ⟨o,e,_⟩:=id M; exact bv e
  have ad:i2 < s.heap.objs.size:=by obtain ⟨o,e,_⟩:=id N; exact bv e
  have keep:∀ b o,b≠z->b≠TO->b≠i1->b≠i2->s.heap.get? b=some o->r.get? b=some o:=fun b o n1 n2 n3 n4 e=>(m.2 b n1).trans (hk b o n1 n2 n3 n4 e);have a8:r.get? s.heap.objs.size=some { cls:=.type "tuple",data:=.seq #[u,u'] }:=(m.2 _ (Nat.ne_of_gt lz)).trans a5;have nt:∀ {b v},H b=some v->b≠z/\b≠TO/\b≠i1/\b≠i2:=fun {b v} e=>⟨yb e (C z (by simp)).1,yb e (C TO (by simp)).1,yb e (C i1 (by simp)).1,yb e (C i2 (by simp)).1⟩
  have T:HOk X.prog X.w (upd H s.heap.objs.size (.tup [x,y])) r:=fun b o e=>by
   by_cases g:b=s.heap.objs.size
   .subst g;rw [ya] at e;cases e;exists by show 2 <= sizeLine; decide,[u,u'],.cons ru (.cons aa .nil),⟨_,a8,rfl,_,rfl⟩
   .rw [yk g] at e;refine (I.hok b o e).stay (fun c v t q=>?_) (fun c q=>by rw [yk (yb q G)]; exact q) fun c ys q=>by rw [yk (yb q G)]; exact q
    obtain ⟨n1,n2,n3,n4⟩:c≠z/\c≠TO/\c≠i1/\c≠i2:=by
     rcases t with rfl | t
     .exact nt e
     .exact nt t
    exact keep c v n1 n2 n3 n4 q
  have un:Un (frs X.stack) [z,TI,TO,i1,i2] H (upd H s.heap.objs.size (.tup [x,y])) s.heap r:=by
   have U:∀ {b o},b∉[z,TI,TO,i1,i2]->s.heap.get? b=some o->r.get? b=some o:=fun {b o} g e=>keep b o (fun q=>g (by simp [q])) (fun q=>g (by simp [q])) (fun q=>g (by simp [q])) (fun q=>g (by simp [q])) e
   refine ⟨fun b o e n _ B=>U B e,fun b o e n _ B=>⟨o.slots,U B e⟩,fun b o e n _=>by rw [yk (bQ (bv e))]; exact n,fun b o e B=>⟨o,U B e⟩,
    fun b ys e=>by rw [yk (yb e G)]; exact e,fun b o v e=>by rw [yk (yb e G)]; exact e,fun b ps e=>⟨#[],by rw [yk (yb e G),e]; simp⟩⟩
  have I1:Inv X Q σ (upd H s.heap.objs.size (.tup [x,y])) { s with heap:=r }:=I.call' (s':={ s with heap:=r }) rfl un T I.bare fun b g=>by
   have f:=C b g;exact ⟨f.2.2.2.1,f.2.1,f.2.2.2.2.1,f.2.2.2.2.2⟩
  exists .ref s.heap.objs.size,_,I1,rfl,⟨_,x,y,rfl,G,rfl,fun zs h=>by rw [I.tuple_inj h O]; exact B,fun zs h=>by rw [I.tuple_inj h F]; exact hy⟩,?_,fun b g=>?_
  .exists a0,keep _ _ D.TIz D.TITO D.TIi1 D.TIi2 j,⟨u,u',(m.2 _ D.TOz).trans a2⟩,a3.at fun o e=>(m.2 _ D.i1z).trans e,a4.at fun o e=>(m.2 _ D.i2z).trans e
  .rw [yk (fun q=>?_)]
   .exact (C b g).1
   .have O:b < s.heap.objs.size:=by
     simp only [bB,List.not_mem_nil,or_false] at g;rcases g with rfl | rfl | rfl | rfl | rfl <;> assumption
    exact absurd q (bQ O)
 done:=by
  intro X hP hw hK hc i Q s σ H E I C L hg;subst hP hw hK;obtain ⟨xs,ys,O,F,B⟩:=hg;obtain ⟨S,rv,p0,a9⟩:=I.tuple O;obtain ⟨J,Z,Y,a7⟩:=I.tuple F;have p:s.heap.IsTuple l1 S.toArray:=p0;have p':s.heap.IsTuple l2 J.toArray:=Y;have D:=d.apartT L p p' (C TO (by simp)).1 hKT O F;obtain ⟨R,j,⟨va,vb,l⟩,M,N⟩:=L;have hl:=rv.length;have ac:=Z.length;refine yka (show X.A.handled=none from I.ok.hd hc) D R j l M N p p' (by simp; omega) fun h' hk=>⟨rfl,?_⟩;have nt:∀ {b v},H b=some v->b≠z/\b≠TO/\b≠i1/\b≠i2:=fun {b v} e=>⟨yb e (C z (by simp)).1,yb e (C TO (by simp)).1,yb e (C i1 (by simp)).1,yb e (C i2 (by simp)).1⟩
  have T:HOk X.prog X.w H h':=fun b o e=>by
   refine (I.hok b o e).stay (fun c v t q=>?_) (fun c q=>q) fun c ys q=>q
   obtain ⟨n1,n2,n3,n4⟩:c≠z/\c≠TO/\c≠i1/\c≠i2:=by
    rcases t with rfl | t
    .exact nt e
    .exact nt t
   exact hk c v n1 n2 n3 n4 q
  have un:Un (frs X.stack) [z,TI,TO,i1,i2] H H s.heap h':=by
   have U:∀ {b o},b∉[z,TI,TO,i1,i2]->s.heap.get? b=some o->h'.get? b=some o:=fun {b o} g e=>hk b o (fun q=>g (by simp [q])) (fun q=>g (by simp [q])) (fun q=>g (by simp [q])) (fun q=>g (by simp [q])) e;exists fun b o e n _ B=>U B e,fun b o e n _ B=>⟨o.slots,U B e⟩,fun b o e n _=>n,fun b o e B=>⟨o,U B e⟩,fun b ys e=>e,fun b o v e=>e,fun b ps e=>⟨#[],by rw [e]; simp⟩
  exact I.call' (s':={ s with heap:=h' }) rfl un T I.bare fun b g=>by
   have f:=C b g;exact ⟨f.2.2.2.1,f.2.1,f.2.2.2.2.1,f.2.2.2.2.2⟩
 self:=fun _ _ _ _ _ L h=>wpAny_pyIter_zip L.1 h
section
variable {X:Cx}
def vad (K:W.Frag) (ta:TA):TI:=fun σ H R=>ta σ H fun vs H1=>∃ a b,vs=[.ref a,.ref b]/\(∃ xs ys,SqT K H1 a xs/\SqT K H1 b ys)/\R (vao K a b) H1
theorem yqt {x1} {l m:Expr} {ta:TA} {p pos:Pos} (hg:Gl X "zip") (hm:X.mg "zip"=none) (ha:PA X [l,m] ta) (hs:starEach [l,m] X.env=[(false,eval l X.env),(false,eval m X.env)]:=by rfl) (hs2:starEach [m] X.env=[(false,eval m X.env)]:=by rfl) :
  PI X (.Tuple elts x1 tpos) (.Call (.Name "zip" p) [l,m] [] pos) (vad X.K ta):=by
 intro i s σ H R I h;refine Call_ (ĥ I hg hm (show bootBuiltins "zip"=some (.type "zip") by decide +kernel) (PyProof.Rows.callWith_type1 (thn (ha pos i s σ H _ I h) fun O c h'=>?_) (by rw [hs,hs2]) (by rw [hs2]; rfl)));obtain ⟨L,A,d,C,F⟩:=h';obtain ⟨a,b,e,⟨N,P,D,n⟩,q⟩:=F;subst e
 cases C with
 | cons r rr =>
  cases rr with
  | cons r' rr =>
   cases rr;cases r;cases r';obtain ⟨k,Q,z,w⟩:=d.tuple D;obtain ⟨f,G,x,J⟩:=d.tuple n;refine yla (show c.heap.IsTuple a k.toArray from z) (show c.heap.IsTuple b f.toArray from x) fun M w t j E B y=>?_;refine wpAny_pyIter_zip w ?_
   have v:X.K.lookup (c.heap.objs.size+3)=none:=by
    cases hl:X.K.lookup (c.heap.objs.size+3) with
    | none=>rfl
    | some o=>exact absurd (bv (d.kIn _ o hl)) (Nat.not_lt.mpr (Nat.le_add_right _ _))
   have u:Zap (c.heap.objs.size+4) (c.heap.objs.size+2) (c.heap.objs.size+3) c.heap.objs.size (c.heap.objs.size+1):=ym4 _;exists c.heap.objs.size+4,[c.heap.objs.size+4,c.heap.objs.size+2,c.heap.objs.size+3,c.heap.objs.size,c.heap.objs.size+1],_,_,A,rfl,d.kept (t':=c.toks) y,ygd a b _ _ _ _ _ u v,⟨w,t,⟨_,_,j⟩,E,B⟩,fun b g=>?_,q
   have g:c.heap.objs.size <= b:=by
    simp only [bB,List.not_mem_nil,or_false] at g;rcases g with rfl | rfl | rfl | rfl | rfl <;> omega
   exact d.fpOk g (d.hok.fresh g)
theorem yo5 {K:W.Frag} {ta:TA} {σ:St} {H:Hp} {R:It->Hp->Prop} (h:ta σ H fun vs H1=>∃ a b,vs=[.ref a,.ref b]/\(∃ xs ys,SqT K H1 a xs/\SqT K H1 b ys)/\R (vao K a b) H1):vad K ta σ H R:=h
end
theorem ybq {K:W.Frag} {a b D:Addr} {xs ys:List V} {g:TG} {te:TE} {n m:Nat} {fr:St} {R:Hp->Prop} {H1:Hp} (f:Nat->V) (hq:SqT K H1 a xs) (hq':SqT K H1 b ys) (h1:m <= xs.length) (h2:m <= ys.length) (h3:xs.length <= m\/ys.length <= m) (hD:H1 D=none)
  (hs:∀ i x y H t pre,i < m->xs[i]?=some x->ys[i]?=some y->yq H1 H->H D=some (.lst ((List.range i).map f))->H t=none->List.length pre=n->g (.ref t) (pre++fr) (upd H t (.tup [x,y])) fun σ' H'=>(∃ pre',List.length pre'=n/\σ'=pre'++fr)/\te σ' H' (MpK H1 D f m i))
  (hd:∀ H,yq H1 H->H D=some (.lst ((List.range m).map f))->R H):jx (vao K a b) g te n fr D R H1:=by
 exists cW m (Mp H1 D f),⟨m,by simp,bL _,Mp.zero hD⟩,?_;rintro i j H ⟨rfl,r,p⟩;have q:=p.1.tup hq;have c:=p.1.tup hq';by_cases hlt:i < m
 .refine .inr ⟨⟨xs,ys,xs[i]'(by omega),ys[i]'(by omega),q,c,bo _,bo _⟩,fun y H' pre l k=>?_⟩;obtain ⟨t,x,y,rfl,o,rfl,d,h⟩:=l;exact hs i x y H t pre hlt (d xs q) (h ys c) p.1 p.2 o k
 .have e:i=m:=by omega
  subst e;exact .inl ⟨⟨xs,ys,q,c,h3⟩,hd H p.1 p.2⟩
end L2
namespace L2
open PySem PySem.Spec PyProof.Rows HT
section
variable {prog:Program} {w:World} {A:Around} {E:Value->Shared->Prop} {s:Shared}
theorem ybp {t sl:Addr} {items:Array Value} {vl vu:Value} {lo hi:Option Int} {Q:Value->Shared->Prop} (ht:IsTup s.heap t items) (hs:s.heap.IsSliceOf sl vl vu .none) (pl:IsPart vl lo) (pu:IsPart vu hi)
  (hw:sIx items.size 0 lo=0/\sIx items.size items.size hi=items.size) (h:Q (.ref t) s):wpAny (model prog w) A (getItem (.ref t) (.ref sl)) Q E s:=by
 obtain ⟨f,d,c,e⟩:=id hs;have b:s.TypeIs (.ref sl) "slice":=⟨f,d,c⟩;unfold getItem
 try with_reducible refine wpAny_holding ?_
 first | refine bi (bw ?_) | skip
 refine bi (wpAny_sequenceKey ht.typeIs (by decide) ?_);refine bi (wpAny_callSpecial?_slot (name:=Str.ofString "__getitem__") ht.typeIs PyProof.Rows.slot_tuple_getitem
  (wpAny_call_entry PyProof.Rows.slot_tuple_getitem ht.typeIs entry_tuple_getitem ?_ (args_tuple_getitem _ _)))
 show wpAny _ _ (Builtin.Tuple.tupleItemsOf (.ref t) >>= _) _ _ s;refine bi (tupleItemsOf_ ht ?_);refine bi (wpAny_typeOf b ?_);rw [if_pos (by decide)];refine bi (zq hs pl pu ?_)
 have a:(((sIx items.size 0 lo:Nat):Int) == 0 && (1:Int) == 1 && (sIx items.size items.size hi - sIx items.size 0 lo) == items.size)=true:=by
  rw [hw.1,hw.2];simp
 show wpAny _ _ (if (((sIx items.size 0 lo:Nat):Int) == 0 && (1:Int) == 1 && (sIx items.size items.size hi - sIx items.size 0 lo) == items.size)=true then _ else _) _ _ s;rw [if_pos a];refine bi (m:=Builtin.Tuple.tupleIsExact _) ?_;unfold Builtin.Tuple.tupleIsExact;refine bi (wpAny_typeOf ht.typeIs (bw ?_));show wpAny _ _ (if (Value.type "tuple" == Value.type "tuple")=true then _ else _) _ _ s;rw [if_pos (by decide)]
 first
  | exact bi (wpAny_rule (bw ⟨_,rfl,bw h⟩))
  | exact bi (wpAny_rule (bi (bw (bw ⟨_,rfl,bw h⟩))))
  | exact bi (bi (wpAny_rule (bw (bw ⟨_,rfl,bw h⟩))))
end
section
variable {X:Cx}
def vbb (K:W.Frag):V->Option Int->Option Int->Hp->VK->Prop:=fun x lo hi H Q=>∃ a xs,x=.ref a/\SqT K H a xs/\(HT.sIx xs.length 0 lo=0/\HT.sIx xs.length xs.length hi=xs.length)/\Q (.ref a) H
theorem ypv:SlR X (vbb X.K):=by
 intro e s σ H x v u n lo o p Q I i l j f h;obtain ⟨a,m,rfl,k,g,q⟩:=h;cases i;obtain ⟨c,r,d,t⟩:=I.tuple k;have b:c.toArray.size=m.length:=by rw [bD]; exact r.length.symm
 exact ⟨"tuple",_,PyProof.Rows.slot_tuple_getitem.lookup,d.typeIs,ybp d l j f (by rw [b]; exact g) ⟨.ref a,H,I,rfl,q⟩⟩
end
end L2
namespace L2
open PySem PySem.Spec PyProof.Rows PySem.SeqAt
open AutoSeq1 (wpAny_loadPart')
end L2
namespace L2
open PySem PySem.Spec PyProof.Rows
variable {C D a:Addr} {e tg:Expr} {fd:FuncData} {pins:List (Addr × Obj)} {i j:Nat} {P:Program} {p0 p1 p2 p3 p4 qual x:Str}
theorem yb5 {X:Cx} {K:W.Frag} {f:Str} {pos:Pos} {ta:TE} (hK:X.K=K) (he:PE X e ta) (hb:attributeBase e f X.env (eval e X.env)=eval e X.env):PE X (.Attribute e f pos) (vcx K ta f):=hK ▸ ym he hb
def ś (J:It) (tc:TT) (te:TE) (fr:St) (D:Addr) (R:Hp->Prop) (H1:Hp):Prop:=∃ W:Nat->Nat->Hp->Prop,(∃ m,W 0 m (upd H1 D (.lst []))) /\
 ∀ i m H2,W i m H2->(J.stop i H2/\R H2)\/(J.go i H2/\∀ x H3,J.yld i H2 x H3->tc (some x :: fr) H3 fun b H4=>if b=true then te (some x :: fr) H4 (fun y H5=>∃ ys,H5 D=some (.lst ys)/\ys.length < sizeLine/\∃ m',m' < m/\W (i+1) m' (upd H5 D (.lst (ys++[y])))) else ∃ m',m' < m/\W (i+1) m' H4)
def ym8 (wi:TI) (tc:TT) (te:TE) (js:List Nat):TE:=fun σ H Q=>wi σ H fun J H1=>∀ D,H1 D=none->ś J tc te (w6 js σ) D (fun H2=>Q (.ref D) H2) H1
section
variable {X:Cx} {iter elt cnd:Expr} {tc:TT} {px pos:Pos} {scope:Scope} {te:TE} {wi:TI} {σ:St} {ys:List Str} {js:List Nat}
theorem yeg {s2:Shared} {H2:Hp} {it:Addr} {fp:List Addr} {tn:Nat->Heap->Prop} {J:It} (hc:X.calm=true)
  (ht:∀ (C:Addr) (s2:Shared) (H2:Hp) (fp:List Addr),PT (X.compF scope ys C x s2 H2 fp) cnd tc) (he:∀ (C:Addr) (s2:Shared) (H2:Hp) (fp:List Addr),PE (X.compF scope ys C x s2 H2 fp) elt te)
  (hcell:∀ y∈scope.names,y.2≠.cell) (hkind:scope.kind=.function) (hx:scope.names.lookup x=some .local) (hnd:(x :: ys).Nodup)
  (hfr:∀ y∈scope.names,y.2=.free->y.1∈ys) (hyc:∀ y∈ys,X.env.kindOf y=some .cell) (hrel:∀ y∈ys,(relabel scope X.env).names.lookup y=some .cell) (hjs:js.map (fun j=>X.N[j]?)=ys.map some)
  (I2:Inv X pins σ H2 s2) (T:yi6 X.prog X.w X.K (.Name x px) J fp it tn) (st2:tn 0 s2.heap) (f2:∀ b∈fp,ycl X pins H2 b)
  {R:Addr->Hp->Prop} (h:∀ D,H2 D=none->ś J tc te (w6 js σ) D (R D) H2) {RR:Value->Addr->Result->Shared->Prop} {E:Value->Shared->Prop}
  (hR:∀ (D C:Addr) (H':Hp) (s':Shared) (m:Str->Option Value),ycl X pins H' C->s'.heap.Ns C m->Inv X pins σ H' s'->R D H'->RR (.ref D) C (.ok .next) s') :
  wpAny (model X.prog X.w) X.A (newList []) (fun acc s₃=>wpAny (model X.prog X.w) X.A (newFunctionEnv scope X.env.globals (γ ys X.env) [] X.env.qual none .none (some X.env)) (fun cenv s₄ =>
   codeAny (model X.prog X.w) X.A (.compStart (.ListComp elt [⟨.Name x px,iter,[cnd],0⟩] scope pos) 0 (.ref it) acc { cenv with scope:=relabel scope X.env }) (RR acc cenv.locals) s₄) E s₃) E s2:=by
 have g:∀ y c,(γ ys X.env).lookup y=some c->X.env.cells.lookup y=some c:=fun y c e=>by
  obtain ⟨m,rfl⟩:=Œ e;obtain ⟨c',q⟩:=I2.ok.has y (.inl (hyc y m));rw [q];rfl
 refine wpAny_newObj_type (wpAny_newFunctionEnv hcell (by intro y hy; simp at hy) (fun h₁ hns₁ hsb₁=>?_) hkind);dsimp only at hns₁ hsb₁ ⊢;generalize P:s2.heap.push { cls:=.type "list",dict:=none,data:=.seq ([]:List Value).toArray }=G at hns₁ hsb₁ ⊢;have hC:G.objs.size=s2.heap.objs.size+1:=by rw [<- P,Heap.size_push]
 have a4:s2.heap.objs.size≠G.objs.size:=by rw [hC]; exact bQ (cP _)
 have L:s2.heap.objs.size <= G.objs.size:=by rw [hC]; exact Nat.le_succ _
 have f:∀ b,b < s2.heap.objs.size->b≠G.objs.size/\b≠s2.heap.objs.size:=fun b a=>⟨by rw [hC]; exact bQ (Nat.lt_succ_of_lt a),bQ a⟩;have t:∀ b o,s2.heap.get? b=some o->h₁.get? b=some o:=fun b o e=>hsb₁.extBut b o (f b (bv e)).1 (bn _ (P ▸ bn _ e));have a6:h₁.get? s2.heap.objs.size=some { cls:=.type "list",data:=.seq ([]:List Value).toArray }:=hsb₁.extBut _ _ a4 (bn _ (P ▸ bC _ rfl));have S:∀ b∈fp,b < s2.heap.objs.size:=fun b a=>let ⟨_,e,_⟩:=T.obj 0 _ st2 b a; bv e;have a1:∀ b∈fp,b∉frs X.stack:=fun b a z=>(bB.mp (I2.stkSub b z)).elim (f2 b a).2.1 (f2 b a).2.2.1;have nC:H2 G.objs.size=none:=I2.hok.fresh L;have nD:H2 s2.heap.objs.size=none:=I2.hok.fresh (bp _)
 have k:∀ y c,(γ ys X.env).lookup y=some c->∃ v o,s2.heap.get? c=some o/\o.data=.cell v:=fun y c e=>by
  obtain ⟨v,o,q1,q2⟩:=I2.cell y c (g y c e);exact ⟨v,o,q1,q2⟩
 have aa:(X.compF scope ys G.objs.size x s2 H2 fp).Ok:=by
  exists I2.ok.mod,hkind,I2.ok.glob,I2.ok.blt,L,fun y z c e Q=>I2.ok.inj y z c (g y c e) (g z c Q),fun y e=>?_,fun y c z e=>(by cases z),I2.ok.hd,I2.ok.frames,.inl rfl,fun b a=>⟨(f b (S b a)).1,fun y c e=>(f2 b a).2.2.2.2.1 y c (g y c e)⟩,I2.bs,?_,fun b o e a=>?_,fun b a=>a1 b a,I2.stack,I2.stkFree
  .have Q:(relabel scope X.env).names.lookup y=some .cell\/(relabel scope X.env).names.lookup y=some .free:=e
   have ab:y∈ys:=by
    rcases Q with Q | Q
    .obtain ⟨k0,m,q⟩:=xg Q;rcases q with q | q
     .exact absurd q.symm (hcell _ m)
     .exact hfr _ m q
    .obtain ⟨k0,m,q⟩:=xg Q;rcases q with q | q
     .exact hfr _ m q.symm
     .exact hfr _ m q
   exists _,ρ ab
  .exact bN I2.ok.bsz I2.sz
  .rcases (f2 b a).2.2.2.1 with z | z
   .exact I2.ok.noex b o e z
   .exact absurd (bT (bv (I2.ok.bs b o e).1) z) (cI _)
 have a5:(w6 js σ).length=ys.length:=by
  have:=congrArg List.length hjs;simpa [w6] using this
 have I3:∀ tk,Inv (X.compF scope ys G.objs.size x s2 H2 fp) [] (none :: w6 js σ) (upd H2 s2.heap.objs.size (.lst [])) { s2 with heap:=h₁,toks:=tk }:=fun tk =>
  ⟨aa,rfl,I2.bare,Un.laid t (bp _) nD,⟨_,hns₁,fun i y v e1 O e3=>by
    cases i with
    | zero=>cases O
    | succ i =>
     have e1:ys[i]?=some y:=by simpa using e1
     have O:(w6 js σ)[i]?=some (some v):=by simpa using O
     have hy:y∈ys:=bI e1;have U:=congrArg (fun l=>l[i]?) hjs;simp only [br,e1,cB] at U
     cases q:js[i]? with
     | none=>rw [q] at U; cases U
     | some j =>
      rw [q] at U;have U:X.N[j]?=some y:=by simpa using U
      have es:σ[j]?=some (some v):=by
       simp only [w6,br,q,cB,Option.some.injEq] at O
       cases r:σ[j]? with
       | none=>rw [r] at O; cases O
       | some w'=>rw [r] at O; rw [show w'=some v from O]
      obtain ⟨m0,_,a9⟩:=I2.loc;obtain ⟨u,ru,lk⟩:=a9 j y v U es (.inr (.inl (hyc y hy)));exists u,ru,.inr ⟨.inl (hrel y hy),?_⟩;rcases lk with ⟨k1,_⟩ | ⟨_,c,ec,o,ho,hd⟩
      .rw [hyc y hy] at k1; cases k1
      .exists c,?_,o,t c o ho,hd;show (γ ys X.env).lookup y=some c;rw [ρ hy,ec]
       rfl⟩,fun y c e=>(by
    obtain ⟨v,o,q1,q2⟩:=k y c e
    exact ⟨v,o,t c o q1,q2⟩),(by show upd H2 s2.heap.objs.size _ G.objs.size=none; rw [yk a4.symm]; exact nC),fun y c e=>(by
    obtain ⟨v,o,q1,q2⟩:=k y c e;show upd H2 s2.heap.objs.size _ c=none;rw [yk (f c (bv q1)).2]
    exact I2.freeC y c (g y c e)),fun p hp=>(by simp at hp),
   I2.hok.laid t (bp _) ⟨bL _,[],_,.nil,a6⟩,by show (none :: w6 js σ).length=(x :: ys).length; simp [a5]⟩
 have F:∀ {H':Hp},(∀ b∈fp,H' b=none)->∀ b∈fp,ycl (X.compF scope ys G.objs.size x s2 H2 fp) [] H' b:=fun hn b a=>⟨hn b a,(f b (S b a)).1,a1 b a,.inl a,fun y c e=>(f2 b a).2.2.2.2.1 y c (g y c e),fun p hp=>(by simp at hp)⟩
 have M:∀ tk,codeAny (model X.prog X.w) X.A (.compLoop (.ListComp elt [⟨.Name x px,iter,[cnd],0⟩] scope pos) 0 (.ref it) (.ref s2.heap.objs.size) (compEnvC scope (γ ys X.env) G.objs.size X.env)) (RR (.ref s2.heap.objs.size) G.objs.size) { s2 with heap:=h₁,toks:=tk }:=by
  intro tk;obtain ⟨W,⟨m0,w0⟩,a2⟩:=h s2.heap.objs.size nD;refine codeAny_loop rfl (fun n s'=>∃ i v H',Inv (X.compF scope ys G.objs.size x s2 H2 fp) [] (v :: w6 js σ) H' s'/\tn i s'.heap/\(∀ b∈fp,H' b=none)/\W i n H') (fun n s' hI=>?_) m0
   ⟨0,none,_,I3 tk,T.keep 0 _ _ st2 (fun b a o e=>t b o e),fun b a=>(by rw [yk (f b (S b a)).2]; exact (f2 b a).1),w0⟩
  obtain ⟨i,v,H',I,st,fr,w⟩:=hI;show wpAny _ _ ((compTurn (.ListComp elt [⟨.Name x px,iter,[cnd],0⟩] scope pos) 0 (.ref it) (.ref s2.heap.objs.size) (compEnvC scope (γ ys X.env) G.objs.size X.env)).onRaise (fun x=>do noteFrame x (compEnvC scope (γ ys X.env) G.objs.size X.env); theTreesLotGoes x)) _ _ s';refine wpAny_noted ?_;rw [compTurn_list];refine bi (wpAny_standAt (bi ?_));rcases a2 i n H' w with ⟨a0,q⟩ | ⟨go,a3⟩
  .refine thn (T.done (X.compF scope ys G.objs.size x s2 H2 fp) rfl rfl rfl hc i [] s' (v :: w6 js σ) H' _ I (F fr) st a0) fun r s4 ⟨hr,Z⟩=>?_;subst hr;refine bw ?_;obtain ⟨m,hn,_⟩:=Z.loc;exact hR _ _ H' s4 m (I2.fpOk L Z.free) hn (I2.call' (ch:=fp) Z.os Z.base Z.hok Z.bare fun b a=>⟨(f2 b a).2.2.2.1,(f2 b a).2.1,(f2 b a).2.2.2.2.1,(f2 b a).2.2.2.2.2⟩) q
  .refine thn (T.item (X.compF scope ys G.objs.size x s2 H2 fp) rfl rfl rfl hc i [] s' (v :: w6 js σ) H' _ I (F fr) st go) fun r s4 ⟨u,hr,h4⟩=>?_;subst hr;refine bi (thn h4 fun _ s5 ⟨y,H5,I5,r5,y5,B,a8⟩=>bi ?_);have a7:=I5.pinned (F a8) (T.obj _ _ B);refine wpAny_assign_Name (Ř (i:=0) a7 hnd rfl (Or.inl (lookup_relabel_local hx)) r5 (fun s6 I6=>?_) (Or.inr (lookup_relabel_local hx)));refine bi (wpAny_tests_one (ytu (ht _ _ _ _ _ s6 (some y :: w6 js σ) H5 _ I6 (a3 y H5 y5)) fun b s7 ⟨H6,Y,q7⟩=>?_))
   cases b with
   | false =>
    obtain ⟨m',hm,w'⟩:=q7
    have H:∀ b∈fp,∀ o,s5.heap.get? b=some o->s7.heap.get? b=some o/\H6 b=none:=fun b a o e =>
     ⟨(Y.pin (b,o) (bH _ (bH _ (xi a e)))).1,(Y.pin (b,o) (bH _ (bH _ (xi a e)))).2.1⟩
    refine bw ⟨rfl,m',hm,i+1,some y,_,Y.unpinned,T.keep _ _ _ B fun b a o e=>(H b a o e).1,fun b a=>?_,w'⟩;obtain ⟨o,e,d⟩:=T.obj _ _ B b a;exact (H b a o e).2
   | true =>
    refine bi (bi (ytu (he _ _ _ _ _ s7 (some y :: w6 js σ) H6 _ Y q7) fun u2 s7 ⟨y2,H7,Y,r7,zs,hD,hl,m',hm,w'⟩=>bi ?_));refine ytu (v7 _ s7 (some y :: w6 js σ) H7 (.ref s2.heap.objs.size) [y2] (.ref s2.heap.objs.size) [u2] (fun _ H8=>H8=upd H7 s2.heap.objs.size (.lst (zs++[y2]))) Y rfl (.cons r7 .nil) ⟨_,zs,y2,rfl,rfl,hD,hl,rfl⟩) fun _ s8 h'=>?_;obtain ⟨_,H8,I8,_,e8⟩:=h';subst e8
    have H:∀ b∈fp,∀ o,s5.heap.get? b=some o->s8.heap.get? b=some o/\upd H7 s2.heap.objs.size (HO.lst (zs++[y2])) b=none:=fun b a o e =>
     ⟨(I8.pin (b,o) (bH _ (bH _ (xi a e)))).1,(I8.pin (b,o) (bH _ (bH _ (xi a e)))).2.1⟩
    refine bw (bw ⟨rfl,m',hm,i+1,some y,_,I8.unpinned,T.keep _ _ _ B fun b a o e=>(H b a o e).1,fun b a=>?_,w'⟩);obtain ⟨o,e,d⟩:=T.obj _ _ B b a;exact (H b a o e).2
 exact codeAny_compStart_list (M _) (T.self X.A 0 _ _ _ (T.keep 0 _ _ st2 (fun b a o e=>t b o e)) (M _))
theorem yk6 (hc:X.calm=true) (hi:PI X (.Name x px) iter wi) (ht:∀ (C:Addr) (s2:Shared) (H2:Hp) (fp:List Addr),PT (X.compF scope ys C x s2 H2 fp) cnd tc) (he:∀ (C:Addr) (s2:Shared) (H2:Hp) (fp:List Addr),PE (X.compF scope ys C x s2 H2 fp) elt te) (hjs:js.map (fun j=>X.N[j]?)=ys.map some)
  (hclos:closureFor scope X.env=pure (γ ys X.env)) (hnd:(x :: ys).Nodup:=by decide) (hyc:∀ y∈ys,X.env.kindOf y=some .cell) (hrel:∀ y∈ys,(relabel scope X.env).names.lookup y=some .cell)
  (hfr:∀ y∈scope.names,y.2=.free->y.1∈ys:=by decide +kernel) (hcell:∀ y∈scope.names,y.2≠.cell:=by decide +kernel) (hkind:scope.kind=.function:=by rfl)
  (hnames:∀ y∈scope.names,y.2=.local->scope.names.lookup y.1=some .local:=by decide +kernel) (hx:scope.names.lookup x=some .local:=by rfl) (hs:∀ x,foldedSetIterable iter X.env x=pure x:=by intro _; rfl) :
  PE X (.ListComp elt [⟨.Name x px,iter,[cnd],0⟩] scope pos) (ym8 wi tc te js):=by
 refine .mk fun a s σ H Q I h=>?_;rw [eval_ListComp];refine wpAny_comprehension_free (use:=none) rfl hs hclos hkind hnames (thn (hi a s σ H _ I h) fun v E u=>thn u fun k s2 r=>?_);obtain ⟨B,fp,F,J,H2,e,z,T,d,n,h⟩:=r;subst e;refine yeg (R:=fun D c=>Q (.ref D) c) (RR:=compPost (model X.prog X.w) X.A X.xe none (EP X a σ Q)) hc ht he hcell hkind hx hnd hfr hyc hrel hjs z T d n h ?_;intro D C c l m f g i q;exists m,g,fun G p=>⟨.ref D,c,?_,rfl,q⟩;exact i.turned (t':=l.toks) (fun b o t e=>p.extBut b o t e) f.1 f.2.1 f.2.2.2.1 f.2.2.2.2.1 f.2.2.2.2.2
theorem yqq {H:Hp} {Q:VK} (h:wi σ H fun J H1=>∀ D,H1 D=none->ś J tc te (w6 js σ) D (fun H2=>Q (.ref D) H2) H1):ym8 wi tc te js σ H Q:=h
theorem yfw {n:Nat} {Pv:Nat->Hp->Prop} {H4:Hp} (hi:i < n) (p:Pv (i+1) H4):∃ m',m' < n - i/\cW n Pv (i+1) m' H4:=⟨n - (i+1),by omega,rfl,hi,p⟩
end
structure yfh (K:W.Frag) (x qual:Str) (st:Stmt) (D:Addr) (f:Addr) (fd:FuncData):Prop where
 ex:∃ (oc:Value) (od:Option Addr) (kV doc pm:Value) (an:Option Addr) (cdv ct:Value) (osl:Array (Option Value)),
  fd=W.fnOf x qual (wn st) (vt st) (yc st) (.ref D) kV doc pm an cdv ct/\K.lookup f=some ⟨oc,od,.func fd,osl⟩/\W.codeIn K cdv qual=true
 kp:W.keepIn K (.ref f)=true
section
variable {w:World} {K:W.Frag} {mg:Str->Option Value} {base:Heap}
theorem yfh.ok {st:Stmt} {f:Addr} {N ps:List Str} {k:Nat} {sp:Sp} (F:yfh K x qual st D f fd) (S:yh N ps (yc st)) (len:∀ vs H Q E,sp vs H Q E->vs.length=ps.length)
  (hbody:∀ (cdv:Value) (A:Around) (outer:List Env) (s:Shared) (H:Hp) (vs:List V) (Q:VK) (E:XK),uy k (A.deeper (envOfC qual (yc st) s.heap.objs.size f cdv))->sp vs H Q E ->
   ∃ t,PSs (vo CX0 P w K mg base N qual (yc st) f cdv A outer s H E).nox (vt st) t/\t { nx:=fun _ H'=>Q .non H',rt:=Q } (Ë N vs) H):vk P w K mg base CX0 (k+1) f fd ps sp:=by
 obtain ⟨n,m,kV,e,j,l,cdv,i,g,rfl,c,b⟩:=F.ex;refine ylr c b S len fun A outer s H vs Q E d a=>?_;obtain ⟨t,h,q⟩:=hbody cdv A outer s H vs Q E d a;exact ⟨t,h.nox,q⟩
theorem yfh.okE {st:Stmt} {f:Addr} {N ps:List Str} {k:Nat} {sp:Sp} (F:yfh K x qual st D f fd) (S:yh N ps (yc st)) (len:∀ vs H Q E,sp vs H Q E->vs.length=ps.length)
  (hbody:∀ (cdv:Value) (A:Around) (outer:List Env) (s:Shared) (H:Hp) (vs:List V) (Q:VK) (E:XK),uy k (A.deeper (envOfC qual (yc st) s.heap.objs.size f cdv))->sp vs H Q E ->
   ∃ t,PSs (vo (CXe P w) P w K mg base N qual (yc st) f cdv A outer s H E) (vt st) t/\t { nx:=fun _ H'=>Q .non H',rt:=Q } (Ë N vs) H):vk P w K mg base (CXe P w) (k+1) f fd ps sp:=by
 obtain ⟨m,l,kV,e,i,j,cdv,h,g,rfl,c,b⟩:=F.ex;exact ylr c b S len fun A outer s H vs Q E d a=>hbody cdv A outer s H vs Q E d a
theorem yfh.binds {st:Stmt} {f:Addr} {ps:List Str} {ds:List Value} {o:Obj} {its:Array Value} {n:Nat} (hj:j+ds.length=ps.length) (F:yfh K x qual st D f fd) (hD:K.lookup D=some o) (ho:o.data=.seq its n)
  (h:∀ (kV doc pm:Value) (an:Option Addr) (cdv ct:Value) (us:List Value),us.length=j ->
   ∃ k:Option (Array Value)->Sem (List (Str × Value)),bindArgs (W.fnOf x qual (wn st) (vt st) (yc st) (.ref D) kV doc pm an cdv ct) ⟨us,[]⟩=(seqItems? (.ref D) >>= k)/\k (some its)=pure (ps.zip (us++ds))):uw K fd ps ds:=by
 obtain ⟨m,l,kV,doc,pm,an,cdv,ct,g,rfl,i,b⟩:=F.ex;intro s us d a;obtain ⟨k,c,e⟩:=h kV doc pm an cdv ct us (by rw [bj] at a; omega);exact BindsTo.of_defaults rfl (d _ _ hD) ho c e
theorem yhw {st:Stmt} {f:Addr} {oc:Value} {od an:Option Addr} {osl:Array (Option Value)} {kV doc pm cdv ct:Value} (l:K.lookup f=some ⟨oc,od,.func (W.fnOf x qual (wn st) (vt st) (yc st) (.ref D) kV doc pm an cdv ct),osl⟩)
  (c:W.codeIn K cdv qual=true) (k:W.keepIn K (.ref f)=true):yfh K x qual st D f (W.fnOf x qual (wn st) (vt st) (yc st) (.ref D) kV doc pm an cdv ct):=⟨⟨oc,od,kV,doc,pm,an,cdv,ct,osl,rfl,l,c⟩,k⟩
end
section
variable {X:Cx} {body suite:List Stmt} {b₀:Stmt} {tx n:Str} {np hpos pos:Pos} {tb:(St->XK)->TS} {ts:TS}
abbrev THs:=Ĭ->St->Addr->Addr->Hp->Prop
end
structure Dg (K:W.Frag) (x q:Str) (st:Stmt) (f:Addr) (fd:FuncData) (M:Prop):Prop where
 F:Fun K x q st f fd
 m:M
structure Df (K:W.Frag) (x q:Str) (st:Stmt) (ps:List Str) (f:Addr) (fd:FuncData) (M:Prop):Prop where
 F:Fun K x q st f fd
 B:uw K fd ps []
 m:M
theorem j6 {α:Type} {n:Nat} {a:List α} (h:a.length=n+1):∃ x r,a=x :: r/\r.length=n:=by
 cases a with
 | nil=>cases h
 | cons x r=>exists x,r,rfl,Nat.succ.inj h
abbrev Dgf (K:W.Frag) (mg:Str->Option Value) (x:Str) (st:Stmt) (f:Addr) (fd:FuncData):Prop:=Dg K x x st f fd (mg x=some (.ref f))
abbrev Dgm (K:W.Frag) (C:Addr) (x q:Str) (st:Stmt) (f:Addr) (fd:FuncData):Prop:=Dg K x q st f fd (yts K C x f)
abbrev Dff (K:W.Frag) (mg:Str->Option Value) (x:Str) (st:Stmt) (ps:List Str) (f:Addr) (fd:FuncData):Prop:=Df K x x st ps f fd (mg x=some (.ref f))
abbrev Dfm (K:W.Frag) (C:Addr) (x q:Str) (st:Stmt) (ps:List Str) (f:Addr) (fd:FuncData):Prop:=Df K x q st ps f fd (yts K C x f)
section
variable {K:W.Frag} {mg:Str->Option Value} {h:Heap} {q:Str} {st:Stmt} {f:Addr} {M:Prop} {oc kV doc pm cdv ct:Value} {od an:Option Addr} {osl:Array (Option Value)}
theorem dgf_mk (X:K.In h) (G:h.Ns mainGlobals mg) (a:W.nsIn K mainGlobals x=some (some (.ref f))) (l:K.lookup f=some ⟨oc,od,.func (W.fnOf x x (wn st) (vt st) (yc st) .none kV doc pm an cdv ct),osl⟩)
  (c:W.codeIn K cdv x=true) (k:W.keepIn K (.ref f)=true):Dgf K mg x st f (W.fnOf x x (wn st) (vt st) (yc st) .none kV doc pm an cdv ct):=⟨ynh l c k,W.mg_of X G a⟩
theorem dgm_mk (a:W.findIn K (.ref C) x=some (some (.ref f))) (i:W.isFn K (.ref f)=true) (l:K.lookup f=some ⟨oc,od,.func (W.fnOf x q (wn st) (vt st) (yc st) .none kV doc pm an cdv ct),osl⟩)
  (c:W.codeIn K cdv q=true) (k:W.keepIn K (.ref f)=true):Dgm K C x q st f (W.fnOf x q (wn st) (vt st) (yc st) .none kV doc pm an cdv ct):=⟨ynh l c k,a,i,k⟩
theorem Dg.d0 (D:Dg K x q st f fd M) (h:∀ (kV doc pm:Value) (an:Option Addr) (cdv ct:Value),bindArgs (W.fnOf x q (wn st) (vt st) (yc st) .none kV doc pm an cdv ct) ⟨[],[]⟩=pure []):Df K x q st [] f fd M :=
 ⟨D.F,D.F.binds fun kV doc pm an cdv ct a b=>match a,b with | [],_=>h kV doc pm an cdv ct,D.m⟩
theorem Dg.d1 (D:Dg K x q st f fd M) (h:∀ (kV doc pm:Value) (an:Option Addr) (cdv ct:Value) (u0:Value),bindArgs (W.fnOf x q (wn st) (vt st) (yc st) .none kV doc pm an cdv ct) ⟨[u0],[]⟩=pure [(p0,u0)]):Df K x q st [p0] f fd M :=
 ⟨D.F,D.F.binds fun kV doc pm an cdv ct d a=>(by
  obtain ⟨u0,c,rfl,b⟩:=j6 a;obtain rfl:=ce b;exact h kV doc pm an cdv ct u0),D.m⟩
theorem Dg.d2 (D:Dg K x q st f fd M) (h:∀ (kV doc pm:Value) (an:Option Addr) (cdv ct:Value) (u0 u1:Value),bindArgs (W.fnOf x q (wn st) (vt st) (yc st) .none kV doc pm an cdv ct) ⟨[u0,u1],[]⟩=pure [(p0,u0),(p1,u1)]):Df K x q st [p0,p1] f fd M :=
 ⟨D.F,D.F.binds fun kV doc pm an cdv ct e b=>(by
  obtain ⟨u0,g,rfl,a⟩:=j6 b; obtain ⟨u1,d,rfl,c⟩:=j6 a;obtain rfl:=ce c;exact h kV doc pm an cdv ct u0 u1),D.m⟩
theorem Dg.d3 (D:Dg K x q st f fd M) (h:∀ (kV doc pm:Value) (an:Option Addr) (cdv ct:Value) (u0 u1 u2:Value),bindArgs (W.fnOf x q (wn st) (vt st) (yc st) .none kV doc pm an cdv ct) ⟨[u0,u1,u2],[]⟩=pure [(p0,u0),(p1,u1),(p2,u2)]):Df K x q st [p0,p1,p2] f fd M :=
 ⟨D.F,D.F.binds fun kV doc pm an cdv ct i b=>(by
  obtain ⟨u0,j,rfl,a⟩:=j6 b; obtain ⟨u1,e,rfl,c⟩:=j6 a; obtain ⟨u2,g,rfl,d⟩:=j6 c;obtain rfl:=ce d;exact h kV doc pm an cdv ct u0 u1 u2),D.m⟩
theorem Dg.d4 (D:Dg K x q st f fd M) (h:∀ (kV doc pm:Value) (an:Option Addr) (cdv ct:Value) (u0 u1 u2 u3:Value),bindArgs (W.fnOf x q (wn st) (vt st) (yc st) .none kV doc pm an cdv ct) ⟨[u0,u1,u2,u3],[]⟩=pure [(p0,u0),(p1,u1),(p2,u2),(p3,u3)]):Df K x q st [p0,p1,p2,p3] f fd M :=
 ⟨D.F,D.F.binds fun kV doc pm an cdv ct j b=>(by
  obtain ⟨u0,k,rfl,a⟩:=j6 b; obtain ⟨u1,g,rfl,c⟩:=j6 a; obtain ⟨u2,i,rfl,e⟩:=j6 c; obtain ⟨u3,l,rfl,d⟩:=j6 e;obtain rfl:=ce d;exact h kV doc pm an cdv ct u0 u1 u2 u3),D.m⟩
theorem Dg.d5 (D:Dg K x q st f fd M) (h:∀ (kV doc pm:Value) (an:Option Addr) (cdv ct:Value) (u0 u1 u2 u3 u4:Value),bindArgs (W.fnOf x q (wn st) (vt st) (yc st) .none kV doc pm an cdv ct) ⟨[u0,u1,u2,u3,u4],[]⟩=pure [(p0,u0),(p1,u1),(p2,u2),(p3,u3),(p4,u4)]):Df K x q st [p0,p1,p2,p3,p4] f fd M :=
 ⟨D.F,D.F.binds fun kV doc pm an cdv ct k b=>(by
  obtain ⟨u0,n,rfl,a⟩:=j6 b; obtain ⟨u1,i,rfl,c⟩:=j6 a; obtain ⟨u2,j,rfl,e⟩:=j6 c; obtain ⟨u3,o,rfl,d⟩:=j6 e; obtain ⟨u4,l,rfl,g⟩:=j6 d;obtain rfl:=ce g;exact h kV doc pm an cdv ct u0 u1 u2 u3 u4),D.m⟩
theorem Dg.d7 {p5 p6:Str} (D:Dg K x q st f fd M) (h:∀ (kV doc pm:Value) (an:Option Addr) (cdv ct:Value) (u0 u1 u2 u3 u4 u5 u6:Value),bindArgs (W.fnOf x q (wn st) (vt st) (yc st) .none kV doc pm an cdv ct) ⟨[u0,u1,u2,u3,u4,u5,u6],[]⟩=pure [(p0,u0),(p1,u1),(p2,u2),(p3,u3),(p4,u4),(p5,u5),(p6,u6)]):Df K x q st [p0,p1,p2,p3,p4,p5,p6] f fd M :=
 ⟨D.F,D.F.binds fun kV doc pm an cdv ct o b=>(by
  obtain ⟨u0,t,rfl,a⟩:=j6 b; obtain ⟨u1,k,rfl,c⟩:=j6 a; obtain ⟨u2,n,rfl,g⟩:=j6 c; obtain ⟨u3,l,rfl,e⟩:=j6 g; obtain ⟨u4,r,rfl,i⟩:=j6 e; obtain ⟨u5,s,rfl,j⟩:=j6 i; obtain ⟨u6,p,rfl,d⟩:=j6 j;obtain rfl:=ce d;exact h kV doc pm an cdv ct u0 u1 u2 u3 u4 u5 u6),D.m⟩
theorem Dg.d9 {p5 p6 p7 p8:Str} (D:Dg K x q st f fd M) (h:∀ (kV doc pm:Value) (an:Option Addr) (cdv ct:Value) (u0 u1 u2 u3 u4 u5 u6 u7 u8:Value),bindArgs (W.fnOf x q (wn st) (vt st) (yc st) .none kV doc pm an cdv ct) ⟨[u0,u1,u2,u3,u4,u5,u6,u7,u8],[]⟩=pure [(p0,u0),(p1,u1),(p2,u2),(p3,u3),(p4,u4),(p5,u5),(p6,u6),(p7,u7),(p8,u8)]):Df K x q st [p0,p1,p2,p3,p4,p5,p6,p7,p8] f fd M :=
 ⟨D.F,D.F.binds fun kV doc pm an cdv ct s g=>(by
  obtain ⟨u0,w,rfl,a⟩:=j6 g; obtain ⟨u1,p,rfl,c⟩:=j6 a; obtain ⟨u2,r,rfl,l⟩:=j6 c; obtain ⟨u3,y,rfl,k⟩:=j6 l; obtain ⟨u4,v,rfl,d⟩:=j6 k; obtain ⟨u5,n,rfl,b⟩:=j6 d; obtain ⟨u6,u,rfl,i⟩:=j6 b; obtain ⟨u7,t,rfl,j⟩:=j6 i; obtain ⟨u8,o,rfl,e⟩:=j6 j;obtain rfl:=ce e;exact h kV doc pm an cdv ct u0 u1 u2 u3 u4 u5 u6 u7 u8),D.m⟩
end
structure KC (K:W.Frag) (C:Addr):Prop where
 pg:W.plainGet K C Str.empty=true
 hd:W.hasDictIn K C=true
 po:W.plainOver K C=true
 sa:W.findIn K (.ref C) "__setattr__"=some (some (.builtin "object.__setattr__"))
 mk':W.makesIn K C=true
 kc:W.keepIn K (.ref C)=true
theorem KC.cls {K:W.Frag} (h:KC K C):Cls K C:=⟨h.pg,h.hd,h.po,h.sa⟩
abbrev GV (K:W.Frag) (x:Str) (v:Value):Prop:=W.nsIn K mainGlobals x=some (some v)
abbrev GZ (K:W.Frag) (x:Str):Prop:=W.nsIn K mainGlobals x=some none
abbrev FN (K:W.Frag) (C:Addr) (x:Str):Prop:=W.findIn K (.ref C) x=some none
section
variable {K:W.Frag} {H:Hp} {p dx:Addr} {fs fs':List (Str × V)} {v:V} {nm:Str} {P:V->Prop} {nx:St->Hp->Prop} {σ:St}
abbrev RdX (K:W.Frag) (H:Hp) (p:Addr) (nm:Str) (P:V->Prop):Prop:=∃ a' C dx fs v,V.ref p=.ref a'/\H a'=some (.ins C dx fs)/\Cls K C/\vd K C nm/\fs.lookup nm=some v/\P v
abbrev StX (K:W.Frag) (H:Hp) (p:Addr) (nm:Str) (v:V) (nx:St->Hp->Prop) (σ:St):Prop:=∃ a' C dx fs,V.ref p=.ref a'/\H a'=some (.ins C dx fs)/\Cls K C/\vd K C nm/\fs.length < 1000/\vj nx σ (upd H a' (.ins C dx (jk nm v fs)))
abbrev MtX (H:Hp) (p C:Addr) (nm:Str) (R:Prop):Prop:=∃ a dx fs,V.ref p=.ref a/\H a=some (.ins C dx fs)/\fs.lookup nm=none/\R
theorem rdX (hp:H p=some (.ins C dx fs)) (c:Cls K C) (n:vd K C nm) (l:fs.lookup nm=some v) (h:P v):RdX K H p nm P:=⟨p,C,dx,fs,v,rfl,hp,c,n,l,h⟩
theorem stX (hp:H p=some (.ins C dx fs)) (c:Cls K C) (n:vd K C nm) (l:fs.length < 1000) (e:jk nm v fs=fs') (h:vj nx σ (upd H p (.ins C dx fs'))):StX K H p nm v nx σ:=⟨p,C,dx,fs,rfl,hp,c,n,l,by rw [e]; exact h⟩
theorem gRd (h:RdX K H p nm P):RdX K H p nm P:=h
theorem gSt (h:StX K H p nm v nx σ):StX K H p nm v nx σ:=h
theorem gMt {R:Prop} (h:MtX H p C nm R):MtX H p C nm R:=h
theorem lt0:([]:List (Str × V)).length < 1000:=by show 0 < 1000; decide
theorem lt1 {a:Str × V}:[a].length < 1000:=by show 1 < 1000; decide
theorem lt2 {a b:Str × V}:[a,b].length < 1000:=by show 2 < 1000; decide
theorem lt3 {a b c:Str × V}:[a,b,c].length < 1000:=by show 3 < 1000; decide
theorem lt4 {a b c d:Str × V}:[a,b,c,d].length < 1000:=by show 4 < 1000; decide
theorem lt5 {a b c d e:Str × V}:[a,b,c,d,e].length < 1000:=by show 5 < 1000; decide
theorem lt6 {a b c d e f:Str × V}:[a,b,c,d,e,f].length < 1000:=by show 6 < 1000; decide
theorem vah:∀ {fs:List (Str × V)},nm∉fs.map (·.1)->fs.lookup nm=none
 | [],_=>rfl
 | (g,v) :: r,h=>vz (fun e=>h (by rw [e]; exact cu)) (vah fun m=>h (cc _ m))
theorem mtX {R:Prop} {N:List Str} (hp:H p=some (.ins C dx fs)) (k:fs.map (·.1)=N) (n:nm∉N) (h:R):MtX H p C nm R:=⟨p,dx,fs,rfl,hp,vah (by rw [k]; exact n),h⟩
theorem wk {N P:List Str} {sc:Scope} (h:(sc.kind=.function/\sc.isCoroutine=false/\sc.isGenerator=false)/\N.Nodup/\N.take P.length=P/\(∀ x∈P,sc.names.lookup x=some .local\/sc.names.lookup x=some .cell)/\∀ y∈sc.names,y.2≠.free):yh N P sc:=⟨h.1.1,h.1.2.1,h.1.2.2,h.2.1,h.2.2.1,h.2.2.2.1,h.2.2.2.2⟩
end
theorem Inv.freeze {X:Cx} {σ:St} {H:Hp} {s:Shared} {d:Addr} {u:HO} {o:Obj} (I:Inv X pins σ H s) (hd:H d=some u) (mu:Mut (some u)) (ho:s.heap.get? d=some o):Inv X pins σ (upd H d (.frz o u)) s:=by
 have h:∀ {b},H b=none->b≠d:=fun n z=>by rw [z,hd] at n; cases n
 have f:∀ {b v},H b=some v->¬ Mut (some v)->b≠d:=fun e n z=>by rw [z,hd] at e; cases e; exact n mu
 exists I.ok,I.os,I.bare,⟨I.base.keep,I.base.slot,fun b i e n l=>?_,I.base.there,fun b A e=>?_,fun b i v e=>?_,fun b k e=>?_⟩,I.loc,I.cell,?_,fun x c e=>?_,fun p w=>?_,fun b v e=>?_,I.len
 .have z:=I.base.free b i e n l; rw [yk (h z)]; exact z
 .have z:=I.base.tups b A e; rw [yk (f z id)]; exact z
 .have z:=I.base.frzs b i v e; rw [yk (f z id)]; exact z
 .obtain ⟨m,z⟩:=I.base.tbls b k e; exists m,by rw [yk (f z id)]; exact z
 .rw [yk (h I.free)]; exact I.free
 .rw [yk (h (I.freeC x c e))]; exact I.freeC x c e
 .obtain ⟨r,j,t⟩:=I.pin p w; exists r,by rw [yk (h j)]; exact j,t
 .have a:∀ {c y},H c=some (.own y)->upd H d (.frz o u) c=some (.own y):=fun q=>by rw [yk (f q id)]; exact q
  have g:∀ {c y},H c=some (.tup y)->upd H d (.frz o u) c=some (.tup y):=fun q=>by rw [yk (f q id)]; exact q
  by_cases hb:b=d
  .subst hb; rw [ya] at e; cases e; exists ho,(I.hok b _ hd).stay (fun _ _ _ q=>q) (fun _ q=>a q) fun _ _ q=>g q
  .rw [yk hb] at e; exact (I.hok b v e).stay (fun _ _ _ q=>q) (fun _ q=>a q) fun _ _ q=>g q
theorem Inv.thaw {X:Cx} {σ:St} {H:Hp} {s:Shared} {d:Addr} {u:HO} {o:Obj} (I:Inv X pins σ H s) (h0:∀ o u,X.H₀ d≠some (.frz o u)) (hd:H d=some (.frz o u)):Inv X pins σ (upd H d u) s:=by
 have h:∀ {b},H b=none->b≠d:=fun n z=>by rw [z,hd] at n; cases n
 exists I.ok,I.os,I.bare,⟨I.base.keep,I.base.slot,fun b g e n k=>?_,I.base.there,fun b A e=>?_,fun b g u e=>?_,fun b j e=>?_⟩,I.loc,I.cell,?_,fun x c e=>?_,fun p r=>?_,fun b v e=>?_,I.len
 .have z:=I.base.free b g e n k; rw [yk (h z)]; exact z
 .have z:=I.base.tups b A e; rw [yk (wu z hd (by intro w; cases w))]; exact z
 .rw [yk (fun z=>h0 g u (by rw [<- z]; exact e))]; exact I.base.frzs b g u e
 .obtain ⟨m,z⟩:=I.base.tbls b j e; exists m,by rw [yk (wu z hd (by intro w; cases w))]; exact z
 .rw [yk (h I.free)]; exact I.free
 .rw [yk (h (I.freeC x c e))]; exact I.freeC x c e
 .obtain ⟨l,i,t⟩:=I.pin p r; exists l,by rw [yk (h i)]; exact i,t
 .have a:∀ {c y},H c=some (.own y)->upd H d u c=some (.own y):=fun q=>by rw [yk (wu q hd (by intro w; cases w))]; exact q
  have f:∀ {c y},H c=some (.tup y)->upd H d u c=some (.tup y):=fun q=>by rw [yk (wu q hd (by intro w; cases w))]; exact q
  by_cases hb:b=d
  .subst hb; rw [ya] at e; cases e; exact (I.hok b _ hd).2.stay (fun _ _ _ q=>q) (fun _ q=>a q) fun _ _ q=>f q
  .rw [yk hb] at e; exact (I.hok b v e).stay (fun _ _ _ q=>q) (fun _ q=>a q) fun _ _ q=>f q
def Iti (o:Obj) (d:Addr) (kvs:List (List Key × V)):It :=
 ⟨fun i H=>H d=some (.frz o (.dT kvs))/\i < kvs.length,
  fun i H x H'=>∃ t kt key v,x=.ref t/\H t=none/\H'=upd H t (.tup [.ref kt,v])/\kvs[i]?=some (key,v)/\H kt=some (.tup (key.map kV)),
  fun i H=>H d=some (.frz o (.dT kvs))/\kvs.length <= i⟩
theorem ygb {α β:Type} {F:α->β->Prop} {l₁:List α} {l₂:List β} (h:Paired F l₁ l₂):∀ {i:Nat} {y:β},l₂[i]?=some y->∃ x,l₁[i]?=some x/\F x y:=by
 induction h with
 | nil=>intro i y e; cases e
 | cons r t ih =>
  intro i y e
  cases i with
  | zero=>cases e; exists _,rfl,r
  | succ j=>exact ih e
section
variable {X:Cx}
def yyp (to:TE):TI:=fun σ H R=>to σ H fun x H1=>∃ d kvs,x=.ref d/\H1 d=some (.dT kvs)/\∀ o,R (Iti o d kvs) (upd H1 d (.frz o (.dT kvs)))
theorem yjy {to:TE} {σ:St} {H:Hp} {R:It->Hp->Prop} (h:to σ H fun x H1=>∃ d kvs,x=.ref d/\H1 d=some (.dT kvs)/\∀ o,R (Iti o d kvs) (upd H1 d (.frz o (.dT kvs)))):yyp to σ H R:=h
def yz3 (H:Hp) (D:Ĭ):Ĭ:={ D with nx:=fun σ' H'=>∃ d o u,(∀ o u,H d≠some (.frz o u))/\H' d=some (.frz o u)/\D.nx σ' (upd H' d u) }
def vbv (t:TS):TS:=fun D σ H=>t (yz3 H D) σ H
theorem yxy {t:TS} {D:Ĭ} {σ:St} {H:Hp} (h:t (yz3 H D) σ H):vbv t D σ H:=h
end
def Its (x:Str):It:=⟨fun i _=>i < x.cps.size,fun i H v H'=>H'=H/\∃ c,x.cps[i]?=some c/\v=.str ⟨#[c]⟩,fun i _=>i=x.cps.size⟩
theorem ycn {w:World} {K:W.Frag} {ty:String} (x:Str) (t:Tok) (it:Addr) (hn:["enumerate","zip","dict_itemiterator","dict_reverseitemiterator","odict_iterator","itertools.zip_longest","itertools.pairwise"].contains ty=false)
  (W:∀ A:Around,A.handled=none->Walks P w A it [it] [it] x.cps.size (SignAt x) (fun i h=>h.IsStrIter it ty x t i)) (hs:∀ (A:Around) (i:Nat) (s:Shared) (Q E:Value->Shared->Prop),s.heap.IsStrIter it ty x t i->Q (.ref it) s->wpAny (model P w) A (pyIter (.ref it)) Q E s):yi6 P w K tg (Its x) [it] it (fun i h=>h.IsStrIter it ty x t i) where
 mem:=by simp
 obj:=fun i h a b g=>by
  have e:b=it:=by simpa using g
  subst e;obtain ⟨o,e,_,d⟩:=a;exists o,e,fun v z=>by rw [d] at z; cases z
 keep:=fun i h m a k=>let ⟨o,e,r⟩:=a; ⟨o,k it (by simp) o e,r⟩
 item:=by
  intro X p G M q i f s σ H E I n a l;subst p G M;obtain ⟨J,L,T,D,C,y⟩:=n it (by simp);refine (W X.A (I.ok.hd q)).item i s _ _ l a fun v m B O j F=>?_;obtain ⟨c,u,U,rfl⟩:=O;have R:Inv X f σ H { s with heap:=m,toks:=B }:=I.turned (fun b o g e=>F b o (by simpa using g) e) J L D C y;obtain ⟨o,e,S,N⟩:=id j;exists _,rfl,yi3 (s:={ s with heap:=m,toks:=B }) e S N hn ⟨.str ⟨#[c]⟩,H,R,⟨u,rfl⟩,⟨rfl,c,U,rfl⟩,j,fun b g=>(n b g).1⟩
 done:=by
  intro X p G M q i f s σ H E I n a l;subst p G M;have l:i=x.cps.size:=l;subst l;obtain ⟨J,L,T,D,C,y⟩:=n it (by simp);exact (W X.A (I.ok.hd q)).done s _ _ a fun m B F=>⟨rfl,I.turned (fun b o g e=>F b o (by simpa using g) e) J L D C y⟩
 self:=fun A i s Q E a h=>hs A i s Q E a h
section
variable {X:Cx}
def vd6 (tl:TE):TI:=fun σ H R=>tl σ H fun v H1=>∃ x,v=.str x/\R (Its x) H1
theorem yib {l:Expr} {tl:TE} (hl:PE X l tl):PI X tg l (vd6 tl):=by
 intro c s σ H R I h;refine thn (hl c s σ H _ I h) fun v a h'=>?_;obtain ⟨y,i,f,k,x,e,q⟩:=h';subst e;obtain ⟨t,rfl⟩:=k
 have d:∀ {ob:Obj},∀ b∈[a.heap.objs.size],ycl X c i b:=fun {_} b m=>by
  have e:b=a.heap.objs.size:=by simpa using m
  subst e;exact f.fpOk (bp _) (f.hok.fresh (bp _))
 cases ha:x.cps.all (· < 128)
 .refine wpAny_pyIter_wide ha ?_;exists a.heap.objs.size,[a.heap.objs.size],_,_,i,rfl,f.kept (t':=a.toks) fun b o e=>bn _ e,ycn x t _ (by decide) (fun A j=>Walks.strWide j _ x t) (fun _ _ _ _ _ g h=>wpAny_pyIter_striter_wide g h),⟨_,bC _ rfl,rfl,rfl⟩,d (ob:=default),q
 .refine wpAny_pyIter_ascii ha ?_;exists a.heap.objs.size,[a.heap.objs.size],_,_,i,rfl,f.kept (t':=a.toks) fun b o e=>bn _ e,ycn x t _ (by decide) (fun A j=>Walks.strAscii j _ x t) (fun _ _ _ _ _ g h=>wpAny_pyIter_striter_ascii g h),⟨_,bC _ rfl,rfl,rfl⟩,d (ob:=default),q
theorem yxm {tl:TE} {σ:St} {H:Hp} {R:It->Hp->Prop} (h:tl σ H fun v H1=>∃ x,v=.str x/\R (Its x) H1):vd6 tl σ H R:=h
theorem yhn {k:Str} {t:Tok} {pos:Pos} (hg:Gl X x) (hm:X.mg x=some (.str k t)) (hd:(x == ("__debug__":Str))=false:=by decide):PE X (.Name x pos) (tC (.str k)):=yb6 hg hm ⟨t,rfl⟩ hd
end
theorem î {te:TE} {R:Hp->Prop} {H1:Hp} (f:Nat->V) (hD:H1 D=none)
  (hs:∀ i c H,x.cps[i]?=some c->i < x.cps.size->yq H1 H->H D=some (.lst ((List.range i).map f))->te [some (.str ⟨#[c]⟩)] H (MpK H1 D f x.cps.size i)) (hd:∀ H,yq H1 H->H D=some (.lst ((List.range x.cps.size).map f))->R H):ĩ (Its x) te D R H1:=by
 exists cW x.cps.size (Mp H1 D f),⟨x.cps.size,by simp,bL _,Mp.zero hD⟩,?_;rintro i m H ⟨rfl,d,p⟩;by_cases hlt:i < x.cps.size
 .refine .inr ⟨hlt,fun v b y=>?_⟩;obtain ⟨rfl,c,a,rfl⟩:=y;exact hs i c _ a hlt p.1 p.2
 .have e:i=x.cps.size:=by omega
  subst e;exact .inl ⟨rfl,hd H p.1 p.2⟩
def Itk (o:Obj) (d:Addr) (kvs:List (Key × V)):It :=
 ⟨fun i H=>H d=some (.frz o (.dK kvs))/\i < kvs.length,fun i H x H'=>H'=H/\∃ k v,kvs[i]?=some (k,v)/\x=kV k,fun i H=>H d=some (.frz o (.dK kvs))/\kvs.length <= i⟩
def Itv (o:Obj) (d:Addr) (kvs:List (Key × V)):It :=
 ⟨fun i H=>H d=some (.frz o (.dK kvs))/\i < kvs.length,fun i H x H'=>H'=H/\∃ k,kvs[i]?=some (k,x),fun i H=>H d=some (.frz o (.dK kvs))/\kvs.length <= i⟩
theorem vb3 {w:World} {k:Key} {u:Value} (r:(vy P w).is k u=true):w8 (kV k) u:=by
 rcases wq r with ⟨i,t,rfl,rfl⟩ | ⟨x,t,rfl,rfl⟩ <;> exact ⟨t,rfl⟩
theorem KV.get {kvs:List (Key × V)} {vs:List (Key × Value)} (r:KV kvs vs) {k:Key} {u:Value} (h:vs[i]?=some (k,u)):∃ v,kvs[i]?=some (k,v)/\w8 v u:=by
 obtain ⟨⟨c,v⟩,e,a,b⟩:=ygb r h;have a:c=k:=a;exists v,by rw [e,a],b
theorem yhv:∀ {xs:List V} {us:List Value},xs.length=us.length->(∀ (i:Nat) u,us[i]?=some u->∃ x,xs[i]?=some x/\w8 x u)->wd xs us
 | [],[],_,_=>.nil
 | x :: xs,u :: us,hl,h=>by
  obtain ⟨y,e,r⟩:=h 0 u rfl;cases e;exact .cons r (yhv (Nat.succ.inj hl) fun i u a=>h (i+1) u a)
theorem ynl {X:Cx} {σ:St} {H:Hp} {s:Shared} {d:Addr} {kvs:List (Key × V)} {o:Obj} {es:Array DictEntry} {ep:Nat} (I:Inv X pins σ H s) (hd:H d=some (.frz o (.dK kvs))) (ho:o.data=.dict es ep):∃ vs,KV kvs vs/\s.heap.DictAt (vy X.prog X.w) d vs ep:=by
 obtain ⟨b,_,_,vs,r,i,e,h,a,f,c,g⟩:=(show xc X.prog X.w H s.heap d (.frz o (.dK kvs)) from I.hok d _ hd);rw [b] at a;cases a;rw [ho] at c;cases c;exists vs,r,o,es,b,f,ho,g
theorem ygq {w:World} {K:W.Frag} {o:Obj} {es:Array DictEntry} {ep:Nat} {kvs:List (Key × V)} (d it:Addr) (hne:d≠it) (ho:o.data=.dict es ep):yi6 P w K tg (Itv o d kvs) [it] it (fun i h=>h.IsValIter it d i kvs.length ep) where
 mem:=by simp
 obj:=fun i h a b f=>by
  have e:b=it:=by simpa using f
  subst e;obtain ⟨o,e,_,d⟩:=a;exists o,e,fun v z=>by rw [d] at z; cases z
 keep:=fun i h j a k=>a.at fun o e=>k it (by simp) o e
 item:=by
  intro X p C G q i c s σ H E I l a ⟨n,R⟩;subst p C G;obtain ⟨D,F,Y,B,u,t⟩:=l it (by simp);obtain ⟨J,r,x⟩:=ynl I n ho;have m:=r.length;have W:=Walks.dictValues (knd:=vy X.prog X.w) (prog:=X.prog) (w:=X.w) (A:=X.A) (I.ok.hd q) it d hne J ep;refine W.item i s _ _ (by omega) ⟨by rw [<- m]; exact a,x⟩ fun v j L M g U=>?_;obtain ⟨k,Z⟩:=M;obtain ⟨y,Q,ry⟩:=r.get Z;have N:Inv X c σ H { s with heap:=j,toks:=L }:=I.turned (fun b o f e=>U b o (by simpa using f) e) D F B u t;obtain ⟨o',O,S,T⟩:=id g.1;exists _,rfl,yi3 (s:={ s with heap:=j,toks:=L }) O S T (by decide) ⟨y,H,N,ry,⟨rfl,k,Q⟩,by rw [m]; exact g.1,fun b f=>(l b f).1⟩
 done:=by
  intro X p C G q i c s σ H E I l a ⟨n,a0⟩;subst p C G;obtain ⟨D,F,Y,B,u,t⟩:=l it (by simp);obtain ⟨J,r,x⟩:=ynl I n ho;have m:=r.length;exact wpAny_pyNext_values_end (I.ok.hd q) (by rw [<- m]; exact a) x (by rw [List.getElem?_eq_none_iff]; omega) fun j eb=>⟨rfl,I.turned (t':=s.toks) (fun b o f e=>eb b o f e) D F B u t⟩
 self:=fun _ _ _ _ _ a h=>wpAny_pyIter_valiter a h
section
variable {X:Cx}
def vbd (to:TE):TI:=fun σ H R=>to σ H fun x H1=>∃ d kvs,x=.ref d/\H1 d=some (.dK kvs)/\∀ o,R (Itk o d kvs) (upd H1 d (.frz o (.dK kvs)))
def yz0 (to:TE):TI:=fun σ H R=>to σ H fun x H1=>∃ d kvs,x=.ref d/\H1 d=some (.dK kvs)/\∀ o,R (Itv o d kvs) (upd H1 d (.frz o (.dK kvs)))
theorem ypr {l:Expr} {to:TE} {apos cpos:Pos} (hl:PE X l to) (hbase:attributeBase l "values" X.env (eval l X.env)=eval l X.env:=by rfl) (hline:(apos.endLine == cpos.line)=true:=by rfl):PI X tg (.Call (.Attribute l "values" apos) [] [] cpos) (yz0 to):=by
 intro g s σ H R I h;refine wpAny_Call_method0_late hbase hline (thn (hl g s σ H _ I h) fun v c h'=>?_);obtain ⟨x,C,A,D,d,kvs,e,z,q⟩:=h';subst e;cases D;obtain ⟨_,u,m,r,k,G,ep,f,p,B,J⟩:=(show xc X.prog X.w C c.heap d (.dK kvs) from A.hok d _ z);have t:c.heap.DictAt (vy X.prog X.w) d m ep:=⟨k,G,f,p,B,J⟩;refine ⟨"dict","dict.values",F.plainAttrs_dict,F.slot_dict_values,F.type_dict_values,⟨k,f,p.1⟩,fun a K=>by cases K; exact ⟨k,f,p.2.1⟩,Calls.callWith_builtin rfl (PySem.evalArgs_none (call_meetsIn F.slot_dict_values t.dictOf.typeIs F.entry_dict_values (F.args_dict_values_1 _) (meets_dict_values (vy X.prog X.w) d u) ⟨⟨m,t.dictOf⟩,?_⟩))⟩;refine wpAny_pyIter_values (knd:=vy X.prog X.w) (d:=d) (kvs:=m) (ep:=ep) ⟨_,bC _ rfl,rfl,rfl⟩ (t.push _) ?_;have n:=A.freeze z trivial f;have i:(c.heap.push { cls:=.type "dict_values",data:=.fields #[.ref d] }).objs.size=c.heap.objs.size+1:=Heap.size_push ..;have y:d < c.heap.objs.size:=bv f;exists _,[_],_,_,_,rfl,n.kept (t':=c.toks) fun b o e=>bn _ (bn _ e),ygq d _ (show d≠(c.heap.push _).objs.size by rw [i]; exact bQ (Nat.lt_succ_of_lt y)) B,⟨_,bC _ rfl,rfl,by rw [r.length]; rfl⟩,fun b E=>?_,q k;have e:b=(c.heap.push { cls:=.type "dict_values",data:=.fields #[.ref d] }).objs.size:=by simpa using E
 have j:c.heap.objs.size <= b:=by rw [e,i]; omega
 exact n.fpOk j (n.hok.fresh j)
theorem yps {to:TE} {σ:St} {H:Hp} {R:It->Hp->Prop} (h:to σ H fun x H1=>∃ d kvs,x=.ref d/\H1 d=some (.dK kvs)/\∀ o,R (Itk o d kvs) (upd H1 d (.frz o (.dK kvs)))):vbd to σ H R:=h
theorem you {to:TE} {σ:St} {H:Hp} {R:It->Hp->Prop} (h:to σ H fun x H1=>∃ d kvs,x=.ref d/\H1 d=some (.dK kvs)/\∀ o,R (Itv o d kvs) (upd H1 d (.frz o (.dK kvs)))):yz0 to σ H R:=h
def ymr (t:TE):TE:=fun σ H Q=>t σ H fun v H'=>∃ d o u,(∀ o u,H d≠some (.frz o u))/\H' d=some (.frz o u)/\Q v (upd H' d u)
theorem ypx {t:TE} (h:PE X e t):PE X e (ymr t):=.mk fun a s σ H Q I q=>thn (h a s σ H _ I q) fun v g ⟨x,f,J,r,d,o,u,b,c,k⟩=>⟨x,_,J.thaw (fun o u e=>b o u (I.base.frzs d o u e)) c,r,k⟩
theorem yod {t:TE} {σ:St} {H:Hp} {Q:VK} (h:t σ H fun v H'=>∃ d o u,(∀ o u,H d≠some (.frz o u))/\H' d=some (.frz o u)/\Q v (upd H' d u)):ymr t σ H Q:=h
def yym:List V->Hp->VK->Prop:=fun xs H Q=>∃ d kvs,xs=[.ref d]/\H d=some (.dK kvs)/\∀ l,H l=none->Q (.ref l) (upd H l (.lst (kvs.map fun p=>kV p.1)))
theorem yd8 (hc:X.calm=true):uu X (.type "list") yym:=by
 intro g s σ H R S Q I r h;obtain ⟨d,kvs,rfl,m,q⟩:=h;obtain ⟨u,rfl,L⟩:=Ā r;cases L;obtain ⟨j,c,f,r,N,D,ep,z,t,F,J⟩:=(show xc X.prog X.w H s.heap d (.dK kvs) from I.hok d _ m);have B:s.heap.DictAt (vy X.prog X.w) d f ep:=⟨N,D,z,t,F,J⟩;refine W.kdl_call (W.kdl_dict (knd:=vy X.prog X.w) (kvs:=f) (ep:=ep) c) (I.ok.hd hc) B (by rw [<- r.length]; exact j) fun n A a K E e b=>?_
 have o:wd (kvs.map fun p=>kV p.1) a.toList:=yhv (by have T:=b.1; have P:=r.length; have O:a.toList.length=a.size:=cC; rw [bf]; omega) fun i v C=>by
  obtain ⟨k,x,M,l⟩:=b.2 i v (by rw [<- Array.getElem?_toList]; exact C);obtain ⟨y,G,_⟩:=r.get M;exists kV k,by rw [br,G]; rfl,vb3 l
 exists .ref s.heap.objs.size,_,I.laid (t':=A) E (bp _) (show xc X.prog X.w _ n _ (.lst _) from ⟨by rw [bf]; exact j,a.toList,K,o,by rw [Array.toArray_toList]; exact e⟩),rfl,q _ (I.hok.fresh (bp _))
end
theorem ye0 {o:Obj} {d:Addr} {kvs:List (Key × V)} {te:TE} {fr:St} {R:Hp->Prop} {H1:Hp} (Pv:Nat->Hp->Prop) (h0:Pv 0 (upd H1 D (.lst []))) (hl:∀ i H,i <= kvs.length->Pv i H->H d=some (.frz o (.dK kvs)))
  (hs:∀ i k v H,kvs[i]?=some (k,v)->i < kvs.length->Pv i H->te (some v :: fr) H fun y H4=>∃ ys,H4 D=some (.lst ys)/\ys.length < sizeLine/\∃ m',m' < kvs.length - i/\cW kvs.length Pv (i+1) m' (upd H4 D (.lst (ys++[y])))) (hd:∀ H,Pv kvs.length H->R H):xw (Itv o d kvs) te fr D R H1:=by
 exists cW kvs.length Pv,⟨kvs.length,by simp,bL _,h0⟩,?_;rintro i m H ⟨rfl,b,p⟩;have q:=hl i H b p;by_cases hlt:i < kvs.length
 .refine .inr ⟨⟨q,hlt⟩,fun x c y=>?_⟩;obtain ⟨rfl,k,a⟩:=y;exact hs i k x _ a hlt p
 .have e:i=kvs.length:=by omega
  subst e;exact .inl ⟨⟨q,bp _⟩,hd H p⟩
theorem ygk {X:Cx}:uu X (.builtin "len") (fun xs H Q=>∃ a kvs,xs=[V.ref a]/\H a=some (.dK kvs)/\Q (.int kvs.length) H):=by
 intro b s σ H xs g Q I r h;obtain ⟨a,kvs,rfl,e,q⟩:=h;obtain ⟨u,rfl,d⟩:=Ā r;cases d;exact vbj I (.of e) fun t f c=>⟨.int kvs.length,H,c,⟨t,rfl⟩,q⟩
theorem ypd {σ:St} {H:Hp} {Q:VK} (h:∀ p,H p=none->Q (.ref p) (upd H p (.dK []))):ym1 σ H Q:=h
theorem ypc {td ty:TE} {σ:St} {H:Hp} {Q:VK} (h:td σ H fun x H1=>∃ a,x=.ref a/\IsD H1 a/\ty σ H1 fun y H2=>∃ kvs k v,H2 a=some (.dK kvs)/\y=kV k/\zz kvs k=some v/\Q v (upd H2 a (.dK (Ö kvs k)))):yne td ty σ H Q:=h
theorem yfz (bs:List Bool):((List.range bs.length).any fun i=>(bs[i]?).getD false)=bs.any id:=by
 rw [Bool.eq_iff_iff,List.any_eq_true,List.any_eq_true]
 constructor
 .rintro ⟨i,a,h⟩;have a:=cj.mp a;rw [bo a] at h;exists _,cg a,h
 .rintro ⟨b,c,h⟩;obtain ⟨i,a,rfl⟩:=List.getElem_of_mem c;exists i,cj.mpr a,by rw [bo a]; exact h
theorem yj7 {X:Cx} (hc:X.calm=true):uu X (.builtin "any") (fun xs H Q=>∃ p bs,xs=[.ref p]/\SqL X.K H p (List.map V.bl bs)/\Q (.bl (bs.any id)) H):=by
 intro g s σ H xs C Q I r h;obtain ⟨p,bs,rfl,o,q⟩:=h;obtain ⟨u,rfl,w⟩:=Ā r;cases w;obtain ⟨n,m,l,E⟩:=I.list o;obtain rfl:=Ő m;have c:=l.isList;have d:p < s.heap.objs.size:=by obtain ⟨_,e,_⟩:=c; exact bv e
 refine call_any_walk (wpAny_pyIter_list c ?_)
 refine ⟨s.heap.objs.size,[s.heap.objs.size,p],[s.heap.objs.size],(bs.map Value.bool).toArray.size,_,_,fun i=>(bs[i]?).getD false,rfl,Walks.list (A:=X.A.in1) (show X.A.handled=none from I.ok.hd hc) _ p (bQ d) (bs.map Value.bool).toArray,
  ⟨⟨_,bC _ rfl,rfl,rfl⟩,c.push _⟩,fun i v y D B a f=>?_,fun z t j=>?_⟩
 .have a:(bs.map Value.bool)[i]?=some v:=by simpa using a
  rw [br] at a
  cases e:bs[i]? with
  | none=>rw [e] at a; cases a
  | some b =>
   dsimp only at f;rw [e] at a f;cases a;exact cn f
 .have e:((List.range (bs.map Value.bool).toArray.size).any fun i=>(bs[i]?).getD false)=bs.any id:=by rw [bD,bf]; exact yfz bs
  rw [e];exists .bl (bs.any id),H,I.kept (t':=t) fun b x e=>j b x (fun k=>?_) (bn _ e),rfl,q;rw [bJ.mp k] at e;exact cI _ (bv e)
section
variable {X:Cx}
def vdd:V->Option Int->Option Int->Hp->VK->Prop:=fun x lo hi H Q=>∃ z:Str,x=.str z/\z.length <= sizeLine/\Q (.str (Txt.slice z lo hi)) H
theorem ymn:SlR X vdd:=by
 intro e s σ H x v p m lo n o Q I f a g d h;obtain ⟨z,rfl,b,q⟩:=h;obtain ⟨t,rfl⟩:=f;refine ⟨"str",_,F.slot_str_getitem.lookup,typeIs_str _ _ _,?_⟩
 cases g with
 | none =>
  cases d with
  | none=>exact wpAny_getItem_str_slice (l:=none) (u:=none) (st:=none) a rfl (post_val_or_str ⟨bN (Txt.slice_le z _ _) b,fun c k=>⟨.str _,H,I.tok _,⟨_,rfl⟩,q⟩⟩)
  | int j uj=>exact wpAny_getItem_str_slice (l:=none) (u:=some (j,uj)) (st:=none) a rfl (post_val_or_str ⟨bN (Txt.slice_le z _ _) b,fun c k=>⟨.str _,H,I.tok _,⟨_,rfl⟩,q⟩⟩)
 | int i ui =>
  cases d with
  | none=>exact wpAny_getItem_str_slice (l:=some (i,ui)) (u:=none) (st:=none) a rfl (post_val_or_str ⟨bN (Txt.slice_le z _ _) b,fun c k=>⟨.str _,H,I.tok _,⟨_,rfl⟩,q⟩⟩)
  | int j uj=>exact wpAny_getItem_str_slice (l:=some (i,ui)) (u:=some (j,uj)) (st:=none) a rfl (post_val_or_str ⟨bN (Txt.slice_le z _ _) b,fun c k=>⟨.str _,H,I.tok _,⟨_,rfl⟩,q⟩⟩)
theorem yk5 (h:j <= x.length):(Txt.slice x none (some (j:Int))).cps.toList=x.cps.toList.take j:=by
 have e:=slice_closes_toL (x:=x) (j:=(j:Int)) (by omega) (by omega);rw [beq_iff_eq.mp e];simp
theorem yei (h:j <= x.length):(Txt.slice x (some (j:Int)) none).cps.toList=x.cps.toList.drop j:=by
 rw [slice_from_eq (b:=(x.length:Int)) (by omega) (by omega) rfl];have e:x.length=x.cps.toList.length:=by simp [Str.length]
 simp;rw [cE (by rw [cM,e]; omega)]
end
section
variable {X:Cx}
def ysp (p:Addr) (n:Nat) (h:Heap):Prop:=∃ o es ep t,h.get? p=some o/\o.ExactSet/\o.data=.set es ep t/\t.fits es.size=true/\es.size < scanBound/\es.size=n
theorem ysp.st {p:Addr} {n:Nat} {h1 h2:Heap} (s:ysp p n h1) (k:∀ o,h1.get? p=some o->h2.get? p=some o):ysp p n h2:=by
 obtain ⟨o,b,a,t,e,r⟩:=s;exists o,b,a,t,k _ e,r
def vce:R2:=fun x y H Q=>∃ (z:Str) (k:Int),x=.str z/\y=.int k/\0 <= k/\k <= 1000/\z.length <= 1000/\∀ z':Str,z'.cps.toList=(List.replicate k.toNat z.cps.toList).flatten->Q (.str z') H
theorem yg3 (a:Array Nat):∀ (k:Nat) (b:Array Nat),((List.replicate k a).foldl (·++·) b).toList=b.toList++(List.replicate k a.toList).flatten
 | 0,b=>by simp
 | k+1,b=>by
  rw [ci,List.foldl_cons,yg3 a k,Array.toList_append,ci,List.flatten_cons,bR]
theorem ę:OpR X (binaryOp .Mult) vce:=by
 intro b s σ H x y v u Q I f g h;obtain ⟨z,k,rfl,rfl,n,o,j,q⟩:=h;obtain ⟨t,rfl⟩:=f;obtain ⟨m,rfl⟩:=g;by_cases k0:k < 1
 .exact P.mul_str_none k0 (by omega) ⟨.str Str.empty,H,I.tok _,⟨_,rfl⟩,q _ (by rw [show k.toNat=0 by omega]; rfl)⟩
 have l:z.length * k.toNat <= 1000 * 1000:=Nat.mul_le_mul j (by omega);refine P.mul_str (by rw [bA (by omega),bA (by omega)]; rfl) (fun _ _=>?_) (fun _ _=>?_) ?_
 .have d:(z.length:Int) * k=((z.length * k.toNat:Nat):Int):=by rw [Int.natCast_mul,Int.toNat_of_nonneg (by omega)]
  have c:(z.length:Int) * k <= (2 ^ 63 - 1:Int):=by rw [d]; omega
  exact Int.not_lt.mpr (Int.le_ediv_of_mul_le (by omega) c)
 .have:=sizeLine_eq;unfold Builtin.Str.tooLong;exact bA (by omega)
 .rw [if_neg (by omega)];by_cases h1:(k == 1 || z.length == 0)=true
  .rw [if_pos h1];exists .str z,H,I,⟨_,rfl⟩,q z ?_;rcases Bool.or_eq_true_iff.mp h1 with e | e
   .rw [beq_iff_eq.mp e]; simp
   .have i:z.cps.toList=[]:=ce (by have:=beq_iff_eq.mp e; simpa [Str.length] using this);rw [i]; simp
  .rw [if_neg h1];have a:=yg3 z.cps k.toNat #[];exists ?_,⟨.str _,H,I.tok _,⟨_,rfl⟩,q _ a⟩
   have e:Str.length ⟨(List.replicate k.toNat z.cps).foldl (·++·) #[]⟩=k.toNat * z.cps.toList.length:=by
    show ((List.replicate k.toNat z.cps).foldl (·++·) #[]).size=_;rw [<- cC,a];simp [List.sum_replicate_nat]
   rw [e,sizeLine_eq,Nat.mul_comm];have:z.cps.toList.length=z.length:=by simp [Str.length]
   rw [this];omega
end
section
variable {prog:Program} {w:World}
def Ï (prog:Program) (w:World) (h:Heap) (k:Int × List Int) (a:Addr):Prop :=
 ∃ o n t b,h.get? a=some o/\o.cls=.type "tuple"/\o.data=.seq #[.int k.1 t,.ref b] n/\IsTupleKey (intKind prog w) h k.2 b
def vb1 (k:Int × List Int):Int:=reduceHash (Builtin.Tuple.tupleHashOf [hashInt k.1,reduceHash (Builtin.Tuple.tupleHashOf (k.2.map hashInt))])
theorem Ï.typeIs {s:Shared} {k:Int × List Int} (x:Ï prog w s.heap k a):s.TypeIs (.ref a) "tuple":=let ⟨o,_,_,_,ho,hc,_⟩:=x; ⟨o,ho,hc⟩
theorem Ï.inj {h:Heap} {x y:Int × List Int} (hx:Ï prog w h x a) (hy:Ï prog w h y a):x=y:=by
 obtain ⟨o,n,t,b,j,_,i,f⟩:=hx;obtain ⟨g,m,l,p,e,_,c,d⟩:=hy;obtain rfl:o=g:=bF (j.symm.trans e);rw [i] at c;injection c with h1 _;have k:=congrArg Array.toList h1;injection k with h3 h4;injection h4 with h5 _;injection h3 with h3 _;injection h5 with h5;subst h5;exact Prod.ext h3 (f.inj d)
theorem Ï.keeps {h h':Heap} {k:Int × List Int} {d:Addr} {o:Obj} {es ep} (x:Ï prog w h k a) (ho:h.get? d=some o) (hd:o.data=.dict es ep) (hs:Heap.SameBut d h h'):Ï prog w h' k a:=by
 obtain ⟨g,n,t,b,e,j,c,i⟩:=x
 have f:a≠d:=by
  rintro rfl;obtain rfl:g=o:=bF (e.symm.trans ho)
  rw [hd] at c; exact nomatch c
 exists g,n,t,b,(hs.2 a f).trans e,j,c,i.keeps ho hd hs
variable {A:Around} {E:Value->Shared->Prop} {s:Shared}
end
abbrev NX:=(Int × List Int) × Addr × Addr
def vei (x:NX):DictEntry:=⟨vb1 x.1,.ref x.2.1,.ref x.2.2⟩
def ND (a:Addr) (xs:List NX):HO:=.ext fun h=>(a == sysModules)=false/\∃ o es ep,h.get? a=some o/\o.ExactDict/\o.data=.dict es ep/\es.toList=xs.map vei
def NKy (H:Hp) (p:Addr) (k:Int × List Int):Prop:=∃ b,H p=some (.tup [.int k.1,.ref b])/\H b=some (.tup (k.2.map V.int))
structure NDt (H:Hp) (a:Addr) (xs:List NX):Prop where
 o:H a=some (ND a xs)
 k:∀ x∈xs,NKy H x.2.1 x.1
 n:(xs.map (·.1)).Nodup
 l:xs.length < sizeLine
def nAt (xs:List NX) (k:Int × List Int):Option Addr:=(xs.find? fun x=>decide (x.1=k)).map (·.2.2)
def yxz (td ty:TE):TE:=fun σ H Q=>td σ H fun x H1=>ty σ H1 fun y H2=>∃ a xs p k q,x=.ref a/\y=.ref p/\NDt H2 a xs/\NKy H2 p k/\nAt xs k=some q/\Q (.ref q) H2
def yxv (ty td:TE):TE:=fun σ H Q=>ty σ H fun y H1=>td σ H1 fun x H2=>∃ a xs p k,x=.ref a/\y=.ref p/\NDt H2 a xs/\NKy H2 p k/\Q (.bl (!(nAt xs k).isSome)) H2
def yzf (td ty tv:TE):TS:=fun D σ H=>tv σ H fun v H1=>td σ H1 fun x H2=>ty σ H2 fun y H3=>∃ a xs p k q,x=.ref a/\y=.ref p/\v=.ref q/\NDt H3 a xs/\NKy H3 p k/\nAt xs k=none/\D.nx σ (upd H3 a (ND a (xs++[(k,p,q)])))
def yx7:TE:=fun _ H Q=>∀ p,H p=none->Q (.ref p) (upd H p (ND p []))
section
variable {σ:St} {H:Hp} {Q:VK} {td ty tv:TE}
theorem yo0 (h:td σ H fun x H1=>ty σ H1 fun y H2=>∃ a xs p k q,x=.ref a/\y=.ref p/\NDt H2 a xs/\NKy H2 p k/\nAt xs k=some q/\Q (.ref q) H2):yxz td ty σ H Q:=h
theorem yp2 (h:ty σ H fun y H1=>td σ H1 fun x H2=>∃ a xs p k,x=.ref a/\y=.ref p/\NDt H2 a xs/\NKy H2 p k/\Q (.bl (!(nAt xs k).isSome)) H2):yxv ty td σ H Q:=h
theorem ypf {nx bk ct:St->Hp->Prop} {rt:VK} (h:tv σ H fun v H1=>td σ H1 fun x H2=>ty σ H2 fun y H3=>∃ a xs p k q,x=.ref a/\y=.ref p/\v=.ref q/\NDt H3 a xs/\NKy H3 p k/\nAt xs k=none/\nx σ (upd H3 a (ND a (xs++[(k,p,q)])))):yzf td ty tv ⟨nx,rt,bk,ct⟩ σ H:=h
theorem yqz (h:∀ p,H p=none->Q (.ref p) (upd H p (ND p []))):yx7 σ H Q:=h
end
def vb8 (i j k:Nat) (ta:TA):TS:=fun D σ H=>ta σ H fun vs H1=>∃ u v w,vs=[u,v,w]/\D.nx (((σ.set i (some u)).set j (some v)).set k (some w)) H1
section
variable {X:Cx} {pos:Pos}
theorem yzo {k:Nat} {ta:TA} {σ:St} {H:Hp} {nx bk ct:St->Hp->Prop} {rt:VK} (h:ta σ H fun vs H1=>∃ u v w,vs=[u,v,w]/\nx (((σ.set i (some u)).set j (some v)).set k (some w)) H1):vb8 i j k ta ⟨nx,rt,bk,ct⟩ σ H:=h
end
theorem ym6 {X:Cx} {K:W.Frag} {o:Expr} {es:List Expr} {to:TE} {t:TA} {name:Str} {apos cpos:Pos} {T id:String} {r:V->List V->Hp->VK->Prop} (hK:X.K=K) (pa:PlainAttrs T) (slot:Slot T name id) (hty:typeOf (.builtin id)=pure (.type "method_descriptor")) (hm:MtR X id r) (ho:PE X o to) (ha:PA X (e :: es) t)
  (hbase:attributeBase o name X.env (eval o X.env)=eval o X.env:=by rfl)
  (hfew:((backTo cpos (starEach (e :: es) X.env)).all (fun x=>!x.1) && (backToKw cpos (keywordEach [] X.env)).all (fun x=>x.1.isSome)
   && decide ((e :: es).length+([]:List Keyword).length+(if ([]:List Keyword).isEmpty then 0 else 1) < 30))=true:=by rfl)
  (hline:(apos.endLine == cpos.line)=true:=by rfl) (hs:starEach (e :: es) X.env=(false,eval e X.env) :: starEach es X.env:=by rfl) (hplain:(backTo cpos (starEach es X.env)).any (·.1)=false:=by rfl) :
  PE X (.Call (.Attribute o name apos) (e :: es) [] cpos) (tBM K T r to t):=hK ▸ ue pa slot hty hm ho ha hbase hfew hline hs hplain
def ykb (ty td:TE):TE:=fun σ H Q=>ty σ H fun y H1=>td σ H1 fun x H2=>∃ a o,x=.ref a/\((y=.non/\o=none/\∃ kvs,H2 a=some (.dK kvs))\/Ó H2 a y o)/\Q (.bl (!o.isSome)) H2
theorem ygv {ty td:TE} {σ:St} {H:Hp} {Q:VK} (h:ty σ H fun y H1=>td σ H1 fun x H2=>∃ a o,x=.ref a/\((y=.non/\o=none/\∃ kvs,H2 a=some (.dK kvs))\/Ó H2 a y o)/\Q (.bl (!o.isSome)) H2):ykb ty td σ H Q:=h
theorem yeo {K:W.Frag} {xs:List V} {tc:TT} {te:TE} {fr:St} {R:Hp->Prop} {H1:Hp} (Pv:Nat->Hp->Prop) (h0:Pv 0 (upd H1 D (.lst []))) (hl:∀ i H,i <= xs.length->Pv i H->SqL K H a xs)
  (hs:∀ i x H,xs[i]?=some x->i < xs.length->Pv i H->tc (some x :: fr) H fun b H4=>if b=true then te (some x :: fr) H4 (fun y H5=>∃ ys,H5 D=some (.lst ys)/\ys.length < sizeLine/\∃ m',m' < xs.length - i/\cW xs.length Pv (i+1) m' (upd H5 D (.lst (ys++[y])))) else ∃ m',m' < xs.length - i/\cW xs.length Pv (i+1) m' H4)
  (hd:∀ H,Pv xs.length H->R H):ś (Itl K a) tc te fr D R H1:=by
 exists cW xs.length Pv,⟨xs.length,by simp,bL _,h0⟩,?_;rintro i m H ⟨rfl,c,p⟩;have q:=hl i H c p;by_cases hlt:i < xs.length
 .refine .inr ⟨⟨xs,xs[i],q,by simp [hlt]⟩,fun x d y=>?_⟩;obtain ⟨e,y⟩:=y;subst e;exact hs i x _ (y xs q) hlt p
 .have e:i=xs.length:=by omega
  subst e;exact .inl ⟨⟨xs,q,bp _⟩,hd H p⟩
theorem Ō (b:Str) (ns:List Str):inV (.str b) (ns.map V.str)=decide (b∈ns):=by
 unfold inV;rw [Bool.eq_iff_iff,List.any_eq_true,decide_eq_true_iff]
 constructor
 .rintro ⟨v,a,e⟩;obtain ⟨x,c,rfl⟩:=bq.mp a;have d:x=b:=by simpa [eqV] using e
  rw [<- d];exact c
 .intro h;exists _,bq.mpr ⟨b,h,rfl⟩,by simp [eqV]
theorem ñ (ns:List Str):(ns.map V.str).all Ē=true:=by
 rw [List.all_eq_true];intro v a;obtain ⟨x,_,rfl⟩:=bq.mp a;rfl
end L2
namespace L2
open PySem PySem.Spec PyProof.Rows PySem.SeqAt PySem.Builtin PySem.Builtin.Str
def isS (b:Str):Value->Bool
 | .str x _=>decide (x=b)
 | _=>false
def vdt (ns:List Str) (b:Str) (j:Nat):Prop:=ns[j]?=some b/\∀ m,m < j->ns[m]?≠some b
theorem yic (b:Str):∀ {ns:List Str} {vs:List Value},wd (ns.map V.str) vs->∀ (j:Nat) (h:j < vs.length),isS b vs[j]=decide (ns[j]?=some b)
 | [],_,.nil,j,h=>absurd h (bY j)
 | x :: ns,_,.cons r rs,j,h=>by
  obtain ⟨t,rfl⟩:=r
  cases j with
  | zero =>
   show decide (x=b)=decide (some x=some b);simp
  | succ j=>exact yic b rs j (Nat.lt_of_succ_lt_succ h)
theorem yng (b:Str) (u:Tok):∀ {ns:List Str} {vs:List Value},wd (ns.map V.str) vs->∀ y,y∈vs->MeetsSeq.EqGives y (.str b u) (isS b y)
 | [],_,.nil,y,h=>nomatch h
 | x :: ns,_,.cons r rs,y,h=>by
  obtain ⟨t,rfl⟩:=r;rcases bB.mp h with rfl | h
  .exact fun _ _ _ _ _ _ h=>wpAny_eqBool_str h
  .exact yng b u rs y h
section
variable {X:Cx}
def yqc (K:W.Frag):V->List V->Hp->VK->Prop:=fun x vs H Q=>∃ l ns b j,x=.ref l/\vs=[.str b]/\SqL K H l (List.map V.str ns)/\vdt ns b j/\Q (.int (j:Nat)) H
theorem Ž:MtR X "list.index" (yqc X.K):=by
 intro k s σ H x S v U Q I O E h;obtain ⟨l,g,b,j,rfl,rfl,G,⟨p,e⟩,q⟩:=h;cases O;obtain ⟨u,rfl,P⟩:=E.one;obtain ⟨t,rfl⟩:=P;obtain ⟨a,r,C,w⟩:=I.list G;obtain ⟨⟨D,T,A,M⟩,n,z,i,d,c⟩:=C;simp only at i d c;subst i d c;have o:g.length=a.length:=by rw [<- r.length,bf]
 have R:j < g.length:=(bM.mp p).1;have J:=yas;have N:g.length <= sizeLine:=by rw [bf] at w; exact w
 refine call_meets PySem.F.slot_list_index ⟨_,z,rfl⟩ PySem.F.entry_list_index (PySem.F.args_list_index_2 _ _)
  (list_indexAt l a.toArray n none M (.str b t) (isS b) j (by rw [bD]; omega) (by omega) ?_ ?_) ⟨z,fun y L=>(yng b t r y (by simpa using L)).at _ _,.int j,H,I.tok _,⟨_,rfl⟩,q⟩
 .show isS b a[j]=true;rw [yic b r j (by omega)];exact bx p
 .intro m B f;show isS b a[m]=false;rw [yic b r m (by simpa using B)];exact bA (e m f)
def ycc:V->List V->Hp->VK->Prop:=fun x vs H Q=>∃ y b,∃ i:Nat,∃ jj,x=.str y/\vs=[.str b]/\occurrences y b 0 y.length 1=i :: jj/\Q (.int i) H
theorem ź:MtR X "str.index" ycc:=by
 intro a s σ H x j v k Q I c d h;obtain ⟨y,b,i,jj,rfl,rfl,f,q⟩:=h;obtain ⟨t,rfl⟩:=c;obtain ⟨u,rfl,e⟩:=d.one;obtain ⟨g,rfl⟩:=e;exact SC.index f ⟨.int i,H,I.tok _,⟨_,rfl⟩,q⟩
end
theorem vb2 (t:Addr) (o:Obj) (n:Nat) (x y z b:Str) (tx ty tz u:Tok) (hc:o.cls=.type "tuple") (hd:o.data=.seq #[.str x tx,.str y ty,.str z tz] n) (k:Nat) (hk:(x=b/\k=0)\/(x≠b/\y=b/\k=1)\/(x≠b/\y≠b/\z=b/\k=2)) :
  Meets (Builtin.«tuple.index» ⟨[.ref t,.str b u],[]⟩) (fun _ R s=>s.heap.get? t=some o/\R (.ok (.ret (.int (k:Nat) s.toks))) { s with toks:=s.toks+1 }) :=
 .of_wp fun a w A R s h=>by
  obtain ⟨J,g,I,G,K⟩:=s;obtain ⟨l,h⟩:=h;obtain ⟨c,d,H,F⟩:=o;simp only at hc hd;subst hc hd;unfold Builtin.«tuple.index»;simp only [Std.Legacy.Range.forIn_eq_forIn_range',Std.Legacy.Range.size,Nat.sub_zero,Nat.add_sub_cancel,Nat.div_one]
  have f:∀ {c:Bool} {q r:Str} {v B:Tok},decide (q=r)=c->∀ {Q:Bool->Shared->Prop} {E:Value->Shared->Prop} {A:Around} {s:Shared},Q c s->wpAny (model a w) A (eqBool (.str q v) (.str r B)) Q E s:=by
   intro c q r v B e Q E A s h;exact wpAny_eqBool_str (by rw [e]; exact h)
  rcases hk with ⟨i,rfl⟩ | ⟨i,m,rfl⟩ | ⟨i,m,D,rfl⟩
  .have j:∀ {Q:Bool->Shared->Prop} {E:Value->Shared->Prop} {A:Around} {s:Shared},Q true s->wpAny (model a w) A (eqBool (#[Value.str x tx,Value.str y ty,Value.str z tz][0]) (Value.str b u)) Q E s:=fun h=>f (bx i) h
   wp_walk using AutoSeq1.wpAny_loadPart' l,j
   exists _,rfl,h
  .have j:∀ {Q:Bool->Shared->Prop} {E:Value->Shared->Prop} {A:Around} {s:Shared},Q false s->wpAny (model a w) A (eqBool (#[Value.str x tx,Value.str y ty,Value.str z tz][0]) (Value.str b u)) Q E s:=fun h=>f (bA i) h;have p:∀ {Q:Bool->Shared->Prop} {E:Value->Shared->Prop} {A:Around} {s:Shared},Q true s->wpAny (model a w) A (eqBool (#[Value.str x tx,Value.str y ty,Value.str z tz][1]) (Value.str b u)) Q E s:=fun h=>f (bx m) h
   wp_walk using AutoSeq1.wpAny_loadPart' l,j,p
   exists _,rfl,h
  .have j:∀ {Q:Bool->Shared->Prop} {E:Value->Shared->Prop} {A:Around} {s:Shared},Q false s->wpAny (model a w) A (eqBool (#[Value.str x tx,Value.str y ty,Value.str z tz][0]) (Value.str b u)) Q E s:=fun h=>f (bA i) h;have p:∀ {Q:Bool->Shared->Prop} {E:Value->Shared->Prop} {A:Around} {s:Shared},Q false s->wpAny (model a w) A (eqBool (#[Value.str x tx,Value.str y ty,Value.str z tz][1]) (Value.str b u)) Q E s:=fun h=>f (bA m) h;have C:∀ {Q:Bool->Shared->Prop} {E:Value->Shared->Prop} {A:Around} {s:Shared},Q true s->wpAny (model a w) A (eqBool (#[Value.str x tx,Value.str y ty,Value.str z tz][2]) (Value.str b u)) Q E s:=fun h=>f (bx D) h
   wp_walk using AutoSeq1.wpAny_loadPart' l,j,p,C
   exists _,rfl,h
section
variable {X:Cx}
def yoc (K:W.Frag):V->List V->Hp->VK->Prop:=fun x vs H Q=>∃ y0 y1 y2 b t,∃ k:Nat,x=.ref t/\vs=[.str b]/\SqT K H t [.str y0,.str y1,.str y2]/\((y0=b/\k=0)\/(y0≠b/\y1=b/\k=1)\/(y0≠b/\y1≠b/\y2=b/\k=2))/\Q (.int (k:Nat)) H
theorem yge:MtR X "tuple.index" (yoc X.K):=by
 intro c s σ H x E v G Q I B p h;obtain ⟨i,m,l,b,t,k,rfl,rfl,D,e,q⟩:=h;cases B;obtain ⟨u,rfl,C⟩:=p.one;obtain ⟨z,rfl⟩:=C;obtain ⟨j,r,f,J⟩:=I.tuple D;obtain ⟨o,d,a,n,g⟩:=f
 cases r with
 | cons r0 r=>cases r with
  | cons r1 r=>cases r with
   | cons r2 r =>
    cases r;obtain ⟨y,rfl⟩:=r0;obtain ⟨A,rfl⟩:=r1;obtain ⟨w,rfl⟩:=r2;exact call_meets PySem.F.slot_tuple_index ⟨_,d,a⟩ PySem.F.entry_tuple_index (PySem.F.args_tuple_index_2 _ _) (vb2 t o n i m l b y A w z a g k e) ⟨d,.int k,H,I.tok _,⟨_,rfl⟩,q⟩
end
end L2
namespace L2
open PySem PySem.Spec PyProof.Rows
theorem uy.m {j k:Nat} {A:Around} (r:uy k A) (h:j <= k:=by decide):uy j A:=r.mono h
section
variable {X:Cx} {e:Expr} {es:List Expr} {te:TE} {t:TA}
theorem pa1 (ha:PE X e te) (h:ycd e=true:=by exact rfl):PA X [e] (ylo te yn7):=yha ha ub (yh0 h)
theorem pac (ha:PE X e te) (hr:PA X es t) (h:ycd e=true:=by exact rfl):PA X (e :: es) (ylo te t):=yha ha hr (yh0 h)
end
section
variable {X:Cx} {k:Nat} {f:Addr} {fd:FuncData} {ps:List Str} {sp:Sp} {Ex:St->XK} {x:Str} {p pos:Pos} {e:Expr} {es:List Expr} {t:TA} {st:Stmt} {id:String} {r:List V->Hp->VK->Prop} {T:String}
theorem xv (F:vk X.prog X.w X.K X.mg X.base CX0 k f fd ps sp) (hr:uy k X.A) (D:Dff X.K X.mg x st ps f fd) (ha:PA X (e :: es) t) (hg:Gl X x:=by exact rfl) (hdb:(x == ("__debug__":Str))=false:=by decide)
  (he:starEach (e :: es) X.env=(false,eval e X.env) :: starEach es X.env:=by rfl) (hpl:(backTo pos (starEach es X.env)).any (·.1)=false:=by rfl):PE X (.Call (.Name x p) (e :: es) [] pos) (yrh sp [] E0 t):=ypb F hr hg D.m D.F.kp D.B .nil wv ha hdb he hpl
theorem ud (F:vk X.prog X.w X.K X.mg X.base (CXe X.prog X.w) k f fd ps sp) (hr:uy k X.A) (D:Dff X.K X.mg x st ps f fd) (hc:Ũ X Ex) (ha:PA X (e :: es) t) (hg:Gl X x:=by exact rfl) (hdb:(x == ("__debug__":Str))=false:=by decide)
  (he:starEach (e :: es) X.env=(false,eval e X.env) :: starEach es X.env:=by rfl) (hpl:(backTo pos (starEach es X.env)).any (·.1)=false:=by rfl):PE X (.Call (.Name x p) (e :: es) [] pos) (yiv sp [] Ex t):=yjc F hr hg D.m D.F.kp D.B .nil hc ha hdb he hpl
theorem pcB (hc:uu X (.builtin id) r) (hm:X.mg x=none) (ha:PA X (e :: es) t) (hg:Gl X x:=by exact rfl) (hv:bootBuiltins x=some (.builtin id):=by decide +kernel) (hn:x≠"__name__":=by decide) (hdb:(x == ("__debug__":Str))=false:=by decide)
  (he:starEach (e :: es) X.env=(false,eval e X.env) :: starEach es X.env:=by rfl) (hpl:(backTo pos (starEach es X.env)).any (·.1)=false:=by rfl):PE X (.Call (.Name x p) (e :: es) [] pos) (tCB r t):=yks hc hg hm hv ha hn hdb he hpl
theorem pcT (hc:uu X (.type T) r) (hm:X.mg x=none) (ha:PA X (e :: es) t) (hg:Gl X x:=by exact rfl) (hv:bootBuiltins x=some (.type T):=by decide +kernel) (hn:x≠"__name__":=by decide) (hdb:(x == ("__debug__":Str))=false:=by decide)
  (he:starEach (e :: es) X.env=(false,eval e X.env) :: starEach es X.env:=by rfl) (hpl:(backTo pos (starEach es X.env)).any (·.1)=false:=by rfl):PE X (.Call (.Name x p) (e :: es) [] pos) (tCB r t):=ygg hc hg hm hv ha hn hdb he hpl
end
end L2
namespace MixI
def giv (c b:Int):Int:=if b=1 then c else 16777216 - c
def ylm (x:Int):Nat:=if x == 0 then 0 else x.natAbs.log2+1
def shL (ws cs:List Int) (b:Int):List Int:=List.zipWith (fun w c=>w * giv c b) ws cs
def grL (sh:List Int):List Int:=sh.map fun s=>31 * (sh.length:Int) * s+sh.sum
def tOf (s:Int):Nat:=ylm s - 48
def lrn (ws cs:List Int) (b:Int):List Int:=(grL (shL ws cs b)).map fun v=>v / 2 ^ tOf (grL (shL ws cs b)).sum
def vd4 (ws cs:List Int):Int:=(List.zipWith (fun w c=>w * c) ws cs).sum
def ylu (ws cs:List Int):Int:=vd4 ws cs / ws.sum
structure WOk (k:Nat) (ws:List Int):Prop where
 len:ws.length=k
 one:∀ w∈ws,1 <= w
 top:∀ w∈ws,w < 281474976710656
structure COk (k:Nat) (cs:List Int):Prop where
 len:cs.length=k
 lo:∀ c∈cs,32768 <= c
 hi:∀ c∈cs,c <= 16744448
theorem yyv {c b:Int} (h1:32768 <= c) (h2:c <= 16744448):32768 <= giv c b:=by unfold giv; split <;> omega
theorem yb8 {ws cs:List Int} {b:Int} (h:ws.length=cs.length):(shL ws cs b).length=ws.length:=by
 unfold shL; rw [List.length_zipWith,<- h]; omega
theorem yhz {sh:List Int}:(grL sh).length=sh.length:=by unfold grL; rw [bf]
theorem yoy {k:Nat} {ws cs:List Int} {b:Int} (hw:WOk k ws) (hc:COk k cs):(lrn ws cs b).length=k:=by
 unfold lrn; rw [bf,yhz,yb8 (by rw [hw.len,hc.len]),hw.len]
theorem ĕ (m d:Int):∀ sh:List Int,(sh.map fun s=>m * s+d).sum=m * sh.sum+sh.length * d
 | []=>by simp
 | s :: r=>by
  simp only [bW,List.sum_cons,ĕ m d r,bK,Int.natCast_add,Int.natCast_one,Int.mul_add,Int.add_mul];omega
theorem ypp (sh:List Int):(grL sh).sum=32 * (sh.length:Int) * sh.sum:=by
 unfold grL;rw [ĕ,Int.mul_assoc,Int.mul_assoc];generalize (sh.length:Int) * sh.sum=x;omega
theorem yio:∀ {l:List Int},(∀ x∈l,0 <= x)->0 <= l.sum
 | [],_=>by simp
 | a :: r,h=>by
  have d:=h a (by simp);have c:=yio (l:=r) fun x b=>h x (by simp [b]);rw [List.sum_cons]; omega
theorem ym2:∀ {l:List Int} {y:Int},(∀ x∈l,0 <= x)->y∈l->y <= l.sum
 | a :: r,y,h,hy=>by
  have f:=h a (by simp);have b:∀ x∈r,0 <= x:=fun x c=>h x (by simp [c]);have d:=yio b;rw [List.sum_cons];rcases bB.mp hy with e | hy
  .omega
  .have:=ym2 b hy; omega
theorem yh7 {c:Int}:∀ {l:List Int},(∀ x∈l,c <= x)->c * l.length <= l.sum
 | [],_=>by simp
 | a :: r,h=>by
  have e:=h a (by simp);have d:=yh7 (l:=r) fun x b=>h x (by simp [b]);rw [List.sum_cons,bK,Int.natCast_add,Int.natCast_one,Int.mul_add]; omega
theorem ynv {c:Int}:∀ {l:List Int},(∀ x∈l,x <= c)->l.sum <= c * l.length
 | [],_=>by simp
 | a :: r,h=>by
  have e:=h a (by simp);have d:=ynv (l:=r) fun x b=>h x (by simp [b]);rw [List.sum_cons,bK,Int.natCast_add,Int.natCast_one,Int.mul_add]; omega
theorem ynb {f:Int->Int} {m:Int}:∀ {ws cs:List Int},ws.length=cs.length->(∀ w∈ws,0 <= w)->(∀ c∈cs,m <= f c)->m * ws.sum <= (List.zipWith (fun w c=>w * f c) ws cs).sum
 | [],[],_,_,_=>by simp
 | w :: r,c :: t,h,h1,h2=>by
  have i:=ynb (f:=f) (m:=m) (ws:=r) (cs:=t) (by simpa using h) (fun x b=>h1 x (by simp [b])) fun x b=>h2 x (by simp [b]);have a:=cz (h2 c (by simp)) (h1 w (by simp));rw [List.zipWith_cons_cons,List.sum_cons,List.sum_cons,Int.mul_add,Int.mul_comm m w]; omega
theorem yml {f:Int->Int} {m:Int}:∀ {ws cs:List Int},ws.length=cs.length->(∀ w∈ws,0 <= w)->(∀ c∈cs,f c <= m)->(List.zipWith (fun w c=>w * f c) ws cs).sum <= m * ws.sum
 | [],[],_,_,_=>by simp
 | w :: r,c :: t,h,h1,h2=>by
  have i:=yml (f:=f) (m:=m) (ws:=r) (cs:=t) (by simpa using h) (fun x b=>h1 x (by simp [b])) fun x b=>h2 x (by simp [b]);have a:=cz (h2 c (by simp)) (h1 w (by simp));rw [List.zipWith_cons_cons,List.sum_cons,List.sum_cons,Int.mul_add,Int.mul_comm m w]; omega
theorem WOk.pos {k:Nat} {ws:List Int} (h:WOk k ws) (hk:1 <= k):1 <= ws.sum:=by
 have:=yh7 (c:=1) h.one;rw [h.len] at this; omega
theorem WOk.small {k:Nat} {ws:List Int} (h:WOk k ws) (hk:k <= 6):ws.sum <= 1688849860263936:=by
 have:=ynv (c:=281474976710656) fun x a=>Int.le_of_lt (h.top x a);rw [h.len] at this; omega
theorem yif {k:Nat} {ws cs:List Int} (hk:1 <= k) (hw:WOk k ws) (hc:COk k cs):32768 <= ylu ws cs/\ylu ws cs <= 16744448:=by
 have e:ws.length=cs.length:=by rw [hw.len,hc.len]
 have d:∀ w∈ws,0 <= w:=fun w h=>by have:=hw.one w h; omega
 have p:=hw.pos hk;have a:=ynb (f:=fun c=>c) e d hc.lo;have b:=yml (f:=fun c=>c) e d hc.hi;unfold ylu vd4;exists (Int.le_ediv_iff_mul_le (by omega)).mpr a,Int.le_of_lt_add_one ((Int.ediv_lt_iff_lt_mul (by omega)).mpr (by rw [Int.add_mul]; omega))
theorem yc4 (t:Nat):(2:Int) ^ t=((2 ^ t:Nat):Int):=by rw [Int.natCast_pow]; rfl
theorem ypi (t:Nat):(0:Int) < 2 ^ t:=by rw [yc4]; exact Int.natCast_pos.mpr (Nat.pow_pos (by decide))
theorem yxr {s:Int} (h:1 <= s):s < 281474976710656 * 2 ^ tOf s/\(tOf s=0\/140737488355328 * 2 ^ tOf s <= s):=by
 have f:s.natAbs≠0:=by omega
 have e:(s.natAbs:Int)=s:=by omega
 have a:=Nat.log2_self_le f;have b:=@Nat.lt_log2_self s.natAbs;unfold tOf ylm;rw [if_neg (by simp; omega)];generalize s.natAbs.log2=L at a b ⊢;rcases Nat.lt_or_ge L 48 with q | q
 .have z:L+1 - 48=0:=by omega
  rw [z];exists ?_,.inl rfl;have:2 ^ (L+1) <= 2 ^ 48:=Nat.pow_le_pow_right (by decide) (by omega);have c:(2:Nat) ^ 48=281474976710656:=by decide
  rw [c] at this;rw [<- e,Int.pow_zero,Int.mul_one];omega
 .obtain ⟨t,rfl⟩:∃ t,L=47+t:=⟨L - 47,by omega⟩;have z:47+t+1 - 48=t:=by omega
  rw [z,yc4];have d:(2:Nat) ^ (47+t)=140737488355328 * 2 ^ t:=by rw [Nat.pow_add]
  have c:(2:Nat) ^ (47+t+1)=281474976710656 * 2 ^ t:=by rw [show 47+t+1=48+t by omega,Nat.pow_add]
  rw [d] at a;rw [c] at b;generalize 2 ^ t=T at a b ⊢;exists by omega,.inr (by omega)
section
variable {k:Nat} {ws cs:List Int} {b:Int}
theorem yqn (hw:WOk k ws) (hc:COk k cs):∀ s∈shL ws cs b,1 <= s:=by
 intro s a;unfold shL at a;rw [List.mem_iff_getElem] at a;obtain ⟨i,c,rfl⟩:=a;rw [List.length_zipWith] at c;rw [List.getElem_zipWith];have d:=hw.one ws[i] (cg _);have e:=yyv (b:=b) (hc.lo cs[i] (cg _)) (hc.hi cs[i] (cg _));have:=Int.mul_le_mul d e (by decide) (by omega);omega
theorem ywg {sh:List Int} (h:∀ s∈sh,1 <= s):∀ v∈grL sh,sh.sum <= v/\v <= (grL sh).sum/\0 <= v:=by
 have e:=yio (l:=sh) fun x b=>by have:=h x b; omega
 have a:∀ v∈grL sh,sh.sum <= v:=fun v a=>by
  unfold grL at a;obtain ⟨s,c,rfl⟩:=bq.mp a;have:=h s c;have:0 <= 31 * (sh.length:Int) * s:=Int.mul_nonneg (Int.mul_nonneg (by decide) (Int.natCast_nonneg _)) (by omega);omega
 exact fun v d=>⟨a v d,ym2 (fun x b=>by have:=a x b; omega) d,by have:=a v d; omega⟩
theorem ym5 (hk:1 <= k) (hk6:k <= 6) (hw:WOk k ws) (hc:COk k cs):WOk k (lrn ws cs b):=by
 have g:(shL ws cs b).length=k:=by rw [yb8 (by rw [hw.len,hc.len]),hw.len]
 have i:=yqn (b:=b) hw hc
 have q:1 <= (shL ws cs b).sum:=by
  have:=yh7 (c:=1) i;rw [g] at this; omega
 have f:=ywg i;have e:=ypp (shL ws cs b);rw [g] at e
 have n:1 <= (grL (shL ws cs b)).sum:=by
  rw [e];have:32 * (k:Int) * 1 <= 32 * (k:Int) * (shL ws cs b).sum:=cz q (by omega);omega
 have m:(grL (shL ws cs b)).sum <= 192 * (shL ws cs b).sum:=by
  rw [e]; exact ck (by omega) (by omega)
 obtain ⟨r,a⟩:=yxr n;have j:=ypi (tOf (grL (shL ws cs b)).sum);exists yoy hw hc,fun w h=>?_,fun w h=>?_
 .obtain ⟨v,d,rfl⟩:=bq.mp h;obtain ⟨l,o,p⟩:=f v d;refine (Int.le_ediv_iff_mul_le j).mpr ?_;rcases a with a | a
  .rw [a,Int.pow_zero]; omega
  .generalize (2:Int) ^ tOf (grL (shL ws cs b)).sum=T at *;omega
 .obtain ⟨v,d,rfl⟩:=bq.mp h;obtain ⟨l,o,p⟩:=f v d;exact (Int.ediv_lt_iff_lt_mul j).mpr (by omega)
theorem ygu {g:Int->Int->Int} {ws cs:List Int} (h:cs.length=ws.length):(List.range ws.length).map (fun i=>g ((ws[i]?).getD 0) ((cs[i]?).getD 0))=List.zipWith g ws cs:=by
 apply List.ext_getElem
 .rw [bf,bU,List.length_zipWith]; omega
 .intro i a b;rw [bf,bU] at a;rw [cK,List.getElem_range,List.getElem_zipWith,bo a,bo (by omega)];rfl
end
end MixI
namespace SpanMath
def rn (d:List Int):Nat->Int
 | 0=>0
 | k+1=>rn d k * 256+(d[k]?).getD 0
def Byt (d:List Int):Prop:=∀ x∈d,0 <= x/\x <= 255
theorem ymu {d:List Int} (h:Byt d) (k:Nat):0 <= (d[k]?).getD 0/\(d[k]?).getD 0 <= 255:=by
 cases e:d[k]? with
 | none=>exists by decide,by decide
 | some x=>exact h x (bI e)
theorem yzy {d:List Int} (h:Byt d):∀ k,0 <= rn d k/\rn d k < pw k
 | 0=>⟨Int.le_refl _,show (0:Int) < 1 by decide⟩
 | k+1=>by
  obtain ⟨c,b⟩:=yzy h k;obtain ⟨a,e⟩:=ymu h k;show 0 <= rn d k * 256+_/\rn d k * 256+_ < pw k * 256;omega
theorem yia {d:List Int} (h:Byt d) (k:Nat):∀ r,∃ q,rn d (k+r)=rn d k * pw r+q/\0 <= q/\q < pw r
 | 0=>⟨0,by show rn d k=rn d k * 1+0; omega,by decide,by decide⟩
 | r+1=>by
  obtain ⟨q,e,c,b⟩:=yia h k r;obtain ⟨a,f⟩:=ymu h (k+r);exists q * 256+(d[k+r]?).getD 0,?_,by omega,?_
  .show rn d (k+r) * 256+(d[k+r]?).getD 0=rn d k * (pw r * 256)+_;rw [e,<- Int.mul_assoc,Int.add_mul,Int.add_assoc]
  .show _ < pw r * 256;omega
theorem ylc {d:List Int} (h:Byt d) (k r:Nat) (l w':Int):(l * pw r <= rn d (k+r)/\rn d (k+r) < l * pw r+w' * pw r) ↔ (l <= rn d k/\rn d k < l+w'):=by
 obtain ⟨q,e,g,i⟩:=yia h k r;have c:=ul r;rw [e,<- Int.add_mul];generalize rn d k=v;generalize pw r=p at c g i ⊢
 constructor
 .rintro ⟨a,b⟩
  constructor
  .refine Int.le_of_lt_add_one (Int.lt_of_mul_lt_mul_right (a:=p) ?_ (Int.le_of_lt c));rw [Int.add_mul,Int.one_mul];omega
  .refine Int.lt_of_mul_lt_mul_right (a:=p) ?_ (Int.le_of_lt c);omega
 .rintro ⟨a,b⟩;have j:=ck a (Int.le_of_lt c);have f:=ck (show v+1 <= l+w' by omega) (Int.le_of_lt c);rw [Int.add_mul v 1 p,Int.one_mul] at f;omega
structure InS (d:List Int) (x:Sn):Prop where
 lo:x.1 <= rn d (sz x)
 hi:rn d (sz x) < x.1+x.2.1
theorem in0 {d:List Int} (h:Byt d):InS d s0:=by
 obtain ⟨a,b⟩:=yzy h 5;have e:pw 5=1099511627776:=pw5;exists a,by show rn d 5 < 0+1099511627776; omega
theorem vak (l w' s':Int):∃ r:Nat,ren l w' s'=(l * pw r,w' * pw r,s'+r):=by
 unfold ren
 split
 .split
  .exact ⟨2,rfl⟩
  .exact ⟨1,rfl⟩
 .refine ⟨0,?_⟩;show (l,w',s')=(l * 1,w' * 1,s'+0);rw [Int.mul_one,Int.mul_one,Int.add_zero]
theorem ydt {d:List Int} (h:Byt d) {l w' s':Int} (hs:0 <= s'):InS d (ren l w' s') ↔ (l <= rn d s'.toNat/\rn d s'.toNat < l+w'):=by
 obtain ⟨r,e⟩:=vak l w' s';rw [e]
 have c:sz (l * pw r,w' * pw r,s'+r)=s'.toNat+r:=by
  show (s'+(r:Int)).toNat=s'.toNat+r;omega
 rw [<- ylc h s'.toNat r l w']
 constructor
 .rintro ⟨a,b⟩;rw [c] at a b;exists a,b
 .rintro ⟨a,b⟩;exists by rw [c]; exact a,by rw [c]; exact b
def Á (d:List Int) (x:Sn) (c:Int):Int:=if rn d (sz x) < x.1+cut x.2.1 c then 1 else 0
theorem ŕ (d:List Int) (x:Sn) (c:Int):Á d x c=0\/Á d x c=1:=by
 unfold Á
 split
 .exact .inr rfl
 .exact .inl rfl
theorem va1 {d:List Int} (hd:Byt d) {x:Sn} {c:Int} (h:OkS x) (i:InS d x):InS d (nar x c (Á d x c)):=by
 have e:=h.ok.z;have a:=i.lo;have b:=i.hi;unfold Á nar
 split
 .rw [if_pos rfl];refine (ydt hd (by omega)).mpr ⟨a,?_⟩
  assumption
 .rw [if_neg (by decide)];refine (ydt hd (by omega)).mpr ⟨?_,?_⟩
  .show _ <= rn d (sz x);omega
  .show rn d (sz x) < _;omega
theorem yb7 {d:List Int} (hd:Byt d) {x:Sn} {c b:Int} (h:OkS x) (hc:Ch c) (hb:b=0\/b=1) (i:InS d (nar x c b)):InS d x/\b=Á d x c:=by
 have k:=h.ok.z;obtain ⟨f,j,g⟩:=yaz h.ok.w0 h.ok.w1 hc;unfold nar at i;rcases hb with rfl | rfl
 .rw [if_neg (by decide)] at i;obtain ⟨e,a⟩:=(ydt hd (by omega)).mp i;have e:x.1+cut x.2.1 c <= rn d (sz x):=e;have a:rn d (sz x) < x.1+cut x.2.1 c+(x.2.1 - cut x.2.1 c):=a;exists ⟨by omega,by omega⟩,?_;unfold Á;rw [if_neg (by omega)]
 .rw [if_pos rfl] at i;obtain ⟨e,a⟩:=(ydt hd (by omega)).mp i;have e:x.1 <= rn d (sz x):=e;have a:rn d (sz x) < x.1+cut x.2.1 c:=a;exists ⟨by omega,by omega⟩,?_;unfold Á;rw [if_pos a]
def yfi (x:Sn):List (Int × Int)->Sn
 | []=>x
 | (c,b) :: r=>yfi (nar x c b) r
def š (l:List (Int × Int)):Prop:=∀ q∈l,Ch q.1/\(q.2=0\/q.2=1)
theorem yc6:∀ {l:List (Int × Int)} {x:Sn},š l->OkS x->OkS (yfi x l)
 | [],_,_,h=>h
 | (c,b) :: r,x,hl,h=>yc6 (l:=r) (fun q a=>hl q (.tail _ a)) (j5 (b:=b) h (hl (c,b) (.head _)).1)
theorem yap (x:Sn) (c b:Int):∀ l,yfi x (l++[(c,b)])=nar (yfi x l) c b
 | []=>rfl
 | (c',b') :: r=>yap (nar x c' b') c b r
theorem yg8 {d:List Int} (hd:Byt d):∀ {l:List (Int × Int)} {x:Sn},š l->OkS x->InS d (yfi x l)->InS d x
 | [],_,_,_,i=>i
 | (c,b) :: r,x,hl,h,i =>
  have q:=hl (c,b) (.head _)
  (yb7 hd h q.1 q.2 (yg8 hd (l:=r) (fun q a=>hl q (.tail _ a)) (j5 (b:=b) h q.1) i)).1
theorem ytt {d:List Int} (hd:Byt d) {l r:List (Int × Int)} {c b:Int} {x:Sn} (hl:š (l++(c,b) :: r)) (h:OkS x) (i:InS d (yfi x (l++(c,b) :: r))):Á d (yfi x l) c=b/\InS d (yfi x l):=by
 have e:yfi x (l++(c,b) :: r)=yfi (nar (yfi x l) c b) r:=by
  rw [<- yap]
  induction l generalizing x with
  | nil=>rfl
  | cons q l ih=>exact ih (x:=nar x q.1 q.2) (fun z f=>hl z (.tail _ f)) (j5 (b:=q.2) h (hl q (.head _)).1) i
 have g:=hl (c,b) (bH _ (.head _));have j:OkS (yfi x l):=yc6 (fun z f=>hl z (List.mem_append_left _ f)) h;have k:š r:=fun z f=>hl z (bH _ (.tail _ f));rw [e] at i;have m:=yg8 hd k (j5 (b:=b) j g.1) i;obtain ⟨a,n⟩:=yb7 hd j g.1 g.2 m;exists n.symm,a
theorem ync:∀ (k:Nat) (d:List Int),k <= d.length->rn d k=val (d.take k)
 | 0,_,_=>rfl
 | k+1,d,h=>by
  have a:k < d.length:=by omega
  have e:d.take (k+1)=d.take k++[d[k]]:=by rw [List.take_succ,bo a]; rfl
  rw [e,ycz,<- ync k d (by omega)];show rn d k * 256+_=_;rw [bo a];rfl
theorem yh1 {d:List Int} (hd:Byt d) {x:Sn} (h:OkS x) (hl:(tL x).length <= d.length) (hp:d.take (tL x).length=tL x):InS d x:=by
 have g:=yrc h
 have e:rn d (sz x - tK x)=tCn x:=by
  rw [<- yie x,ync _ _ hl,hp,yuz h]
 obtain ⟨q,b,i,j⟩:=yia hd (sz x - tK x) (tK x);have f:sz x - tK x+tK x=sz x:=by omega
 rw [f,e] at b;have a:=Š h.ok;have c:=(yl0 x.1 (ul (tK x))).1;unfold yff at a;have a:(tCn x+1) * pw (tK x) <= x.1+x.2.1:=a;have c:x.1 <= tCn x * pw (tK x):=c;rw [Int.add_mul,Int.one_mul] at a;exists by rw [b]; omega,by rw [b]; omega
end SpanMath
namespace Law
local macro_rules | `(tactic| rfl')=>`(tactic| walk_at "rd")
local macro_rules | `(tactic| right)=>`(tactic| decide +kernel)
open PySem L2
local macro_rules | `(tactic| exists $n:num,$s:str)=>do
 let ts<-((s.getString.splitOn " ").map fun x=>Lean.mkIdent (((if n.getNat<4 then `_root_.Law else `_root_.L2) ++ x.toName:Lean.Name))).toArray.mapM fun x=>match n.getNat%4 with
  | 0=>`(Lean.Parser.Tactic.tacticSeq| refine $x ?_)
  | 1=>`(Lean.Parser.Tactic.tacticSeq| (with_reducible refine' $x (by assumption) ?q ?_; (case q=>first | assumption | exact ya)))
  | 2=>`(Lean.Parser.Tactic.tacticSeq| (with_reducible refine' $x ?q ?_; (case q=>first | assumption | exact ya)))
  | _=>`(Lean.Parser.Tactic.tacticSeq| (with_reducible refine' $x ?q ?n ?_; (case q=>first | assumption | exact ya); (case n=>with_unfolding_all decide +kernel)))
 `(tactic| first $[| $ts:tacticSeq]*)
local macro_rules | `(tactic| exists $n:num,$m:num)=>do
 let xs:=Array.replicate n.getNat (<-`(some _))++Array.replicate m.getNat (<-`(none))
 `(tactic| (try dsimp only [vo]; refine yj (σ':=[$xs,*]) rfl ?_))
local macro_rules | `(tactic| exists $h:ident,$a:ident,$b:ident,$c:ident)=>`(tactic| with_reducible first | refine yu $h fun $a $b $c=>?_ | refine yy $h fun $a $b $c=>?_)
local macro_rules | `(tactic| left)=>let h:=Lean.mkIdent `h; `(tactic| first | (cases $h:ident; subst_vars; rfl) | repeat first | (obtain ⟨e,_⟩:=$h:ident; subst e; rfl) | obtain ⟨_,$h:ident⟩:=$h:ident)
local macro_rules | `(tactic| exists $a:ident,$b:ident,$c:ident)=>let h:=Lean.mkIdent `h; let s:=Lean.mkIdent `s; let H:=Lean.mkIdent `H; let Q:=Lean.mkIdent `Q; let E:=Lean.mkIdent `E; let A:=Lean.mkIdent `A; `(tactic| (refine $a $b (fun _ $H $Q $E $h=>?_) (fun _ $A _ $s $H _ $Q $E $c $h=>?_); left))
local macro_rules | `(tactic| walk_at "side")=>`(tactic| first | exact ⟨by decide,by decide⟩ | (show (0:Int) < _; first | decide | omega) | exact Or.inl ⟨by omega,by omega⟩ | exact Or.inr ⟨by omega,by omega⟩ | exact ⟨by omega,by omega⟩ | exact ⟨by decide,by decide,by decide⟩)
local macro_rules | `(tactic| walk_at "len")=>`(tactic| first | decide | (simp only [bK,List.length_nil]; decide))
local macro_rules | `(tactic| walk_at "rd1")=>`(tactic| with_reducible first
 | exists 4,"ver vcp yt9 yye"
 | ((fail_if_success constructor); walk_at "rd2"))
local macro_rules | `(tactic| walk_at "rd2")=>`(tactic| with_reducible first
 | exists 4,"vcs"
 | (refine' vab ?rdv ?_; (case rdv=>with_unfolding_all rfl))
 | exists 4,"i_c vex vec yvt vew vem vcq va3 yyd yx0 yu4 yoz Ť yot yoa va4 ywp vbg veu vbl vbk yom yvy vbt ywb vby veq vbx vb6 yze vb0 vbm yds yve yp1 vey vbo vbn yut vee yj8 yw3 ven i_U g0 g1 g2 g3 g4 g5 g6 g7 g8 g9 g10 g11 g12 g13 g14 g15 g16 g17 g18 g19 g20 g21 g22 g23 yqo yy7 ī ē vbc vct vcg yox yxg yqr yqh ypu ypa yqv yjp yt5 yo5 yyu yxy yod yxm yps you ypd ypc yjy yow yqq yx2 yqx yob vcj yle ygv yxo yo7 yo0 yp2 ypf yqz yzo yxd yqw"
 | (refine' yxe ?rdp ?rdq ?_; (case rdp=>with_unfolding_all exact ⟨by decide,by decide,by decide⟩); (case rdq=>with_unfolding_all decide))
 | (refine' yzl ?rdp ?rdq ?_; (case rdp=>with_unfolding_all exact ⟨by decide,by decide,by decide⟩); (case rdq=>with_unfolding_all decide))
 | (refine i_I ?rdc ?_; (case rdc=>with_unfolding_all walk_at "side")))
local macro_rules | `(tactic| walk_at "rd")=>`(tactic| repeat walk_at "rd1")
variable {C D c' cl' ct' dc dq ds e e0 p q tl y:Addr} {U U' W' W2:Addr->Prop} {L M:List (Str × List Int)} {ts xs:List Int} {M' i j m':Nat} {tp:Nat->Addr} {O O' O2:Nat->Addr->Prop} {bt:Nat->Int} {tt:Nat->List Int} {x:Option Str} {R:Prop} {tu:Str->Addr}
def top (i:Nat):Stmt:=PySem.Challenge.pw_foretell_k50_shelf.main.body.getD i (.Pass ⟨0,0,0,0⟩)
abbrev vc8:Stmt:=top 21
abbrev vdk:Stmt:=top 22
abbrev vdi:Stmt:=top 23
abbrev vc6:Stmt:=top 24
abbrev vdf:Stmt:=top 25
abbrev vc4:Stmt:=top 26
abbrev vdc:Stmt:=top 27
abbrev vdh:Stmt:=top 28
abbrev vcy:Stmt:=top 29
abbrev ys7:Stmt:=top 30
abbrev yr9:Stmt:=top 31
abbrev ysl:Stmt:=yw (top 36) 0
abbrev yr8:Stmt:=yw (top 36) 1
abbrev ysi:Stmt:=yw (top 36) 2
abbrev yra:Stmt:=yw (top 37) 0
abbrev ys5:Stmt:=yw (top 37) 1
abbrev ysq:Stmt:=yw (top 37) 2
abbrev yrx:Stmt:=yw (top 38) 0
abbrev yrp:Stmt:=yw (top 38) 1
abbrev yth:Stmt:=yw (top 38) 2
abbrev yre:Stmt:=top 39
abbrev yq9:Stmt:=top 44
abbrev yrs:Stmt:=top 45
abbrev ys1:Stmt:=yw (top 46) 0
abbrev yr3:Stmt:=yw (top 46) 2
abbrev ysz:Stmt:=yw (top 46) 3
abbrev ysc:Stmt:=yw (top 46) 5
abbrev yr1:Stmt:=yw (top 46) 6
abbrev ys2:Stmt:=top 52
abbrev ytk:Stmt:=top 53
abbrev ys9:Stmt:=top 54
abbrev yso:Stmt:=top 55
abbrev ysb:Stmt:=top 56
abbrev yrt:Stmt:=top 57
abbrev yq5:Stmt:=top 58
abbrev yr4:Stmt:=yw (top 59) 0
abbrev ytj:Stmt:=yw (top 59) 2
abbrev ysn:Stmt:=yw (top 64) 0
abbrev ytf:Stmt:=yw (top 64) 2
abbrev yrk:Stmt:=yw (top 64) 3
abbrev yr5:Stmt:=yw (top 67) 0
abbrev ysj:Stmt:=yw (top 67) 1
abbrev ytb:Stmt:=yw (top 67) 2
abbrev yrj:Stmt:=yw (top 67) 3
abbrev yrm:Stmt:=yw (top 67) 7
abbrev yrr:Stmt:=yw (top 67) 8
abbrev yrz:Stmt:=yw (top 67) 9
abbrev ytd:Stmt:=top 70
abbrev yr0:Stmt:=top 71
abbrev ys3:Stmt:=yw (top 73) 0
abbrev ys6:Stmt:=yw (top 73) 1
abbrev ysy:Stmt:=yw (top 73) 2
abbrev ysf:Stmt:=yw (top 73) 3
abbrev ysv:Stmt:=yw (top 73) 5
abbrev yrn:Stmt:=top 75
abbrev ysw:Stmt:=top 76
abbrev yta:Stmt:=top 77
abbrev ysg:Stmt:=top 78
abbrev yse:Stmt:=top 79
abbrev ysr:Stmt:=yw (top 81) 0
abbrev yq6:Stmt:=yw (top 81) 1
abbrev yru:Stmt:=yw (top 81) 2
abbrev yq2:Stmt:=yw (top 81) 3
abbrev yss:Stmt:=top 86
abbrev yr2:Stmt:=top 87
abbrev ysd:Stmt:=top 88
abbrev yrb:Stmt:=yw (top 89) 0
abbrev yfb:Stmt:=yw (top 90) 0
abbrev yri:Stmt:=yw (top 90) 1
abbrev ysu:Stmt:=yw (top 90) 2
abbrev yr6:Stmt:=yw (top 90) 3
abbrev ye8:Stmt:=yw (top 90) 4
abbrev yrd:Stmt:=yw (top 90) 6
abbrev yro:Stmt:=yw (top 90) 7
abbrev ysa:Stmt:=yw (top 90) 8
abbrev ysx:Stmt:=yw (top 90) 9
abbrev yrg:Stmt:=yw (top 90) 10
abbrev yq7:Stmt:=yw (top 90) 13
abbrev yst:Stmt:=yw (top 90) 14
abbrev ysm:Stmt:=yw (top 90) 16
abbrev yrl:Stmt:=top 92
abbrev ytc:Stmt:=top 93
abbrev yrq:Stmt:=top 94
abbrev yrw:Stmt:=top 95
abbrev yq4:Stmt:=top 97
abbrev yrv:Stmt:=top 98
abbrev ytl:Stmt:=top 99
abbrev yrf:Stmt:=top 100
abbrev ytg:Stmt:=top 101
abbrev yry:Stmt:=top 102
abbrev yq8:Stmt:=top 103
abbrev yr7:Stmt:=top 104
abbrev yq3:Stmt:=top 105
set_option genInjectivity false in
set_option genSizeOfSpec false in
structure Ads where
 O9:Addr
 Oa:FuncData
 Ob:Addr
 Oc:FuncData
 Od:Addr
 Oe:FuncData
 Of:Addr
 Og:FuncData
 Oh:Addr
 Oi:FuncData
 Oj:Addr
 Ol:FuncData
 Om:Addr
 On:FuncData
 Oo:Addr
 Op:FuncData
 Oq:Addr
 Os:FuncData
 Hm:Addr
 Hn:FuncData
 Ho:Addr
 Hq:FuncData
 F6:Addr
 Hr:FuncData
 Hs:Addr
 Ht:FuncData
 Hu:Addr
 Hv:FuncData
 F7:Addr
 Hw:FuncData
 Hx:Addr
 Hy:FuncData
 Hz:Addr
 I0:FuncData
 F8:Addr
 I1:FuncData
 I2:Addr
 I3:FuncData
 I4:Addr
 I5:FuncData
 I6:Addr
 I7:FuncData
 I8:Addr
 I9:FuncData
 Ia:Addr
 Ib:FuncData
 F9:Addr
 Ic:FuncData
 Ie:Addr
 If:FuncData
 Ig:Addr
 Ih:FuncData
 Ii:Addr
 Ij:FuncData
 Ik:Addr
 Il:FuncData
 Im:Addr
 Io:FuncData
 Ip:Addr
 Iq:FuncData
 Ir:Addr
 Is:FuncData
 Iu:Addr
 Iv:FuncData
 Iw:Addr
 Ix:FuncData
 Iy:Addr
 Iz:FuncData
 J0:Addr
 J1:FuncData
 Fa:Addr
 J2:FuncData
 J3:Addr
 J4:FuncData
 Fb:Addr
 J5:FuncData
 J6:Addr
 J7:FuncData
 J8:Addr
 J9:FuncData
 Fc:Addr
 Ja:FuncData
 Jb:Addr
 Jc:FuncData
 Jd:Addr
 Je:FuncData
 Jf:Addr
 Jg:FuncData
 Jh:Addr
 Ji:FuncData
 Jj:Addr
 Jk:FuncData
 Jl:Addr
 Jm:FuncData
 Jn:Addr
 Jo:FuncData
 Jp:Addr
 Jq:FuncData
 Fd:Addr
 Jr:FuncData
 Js:Addr
 Jt:FuncData
 Ju:Addr
 Jv:FuncData
 Jw:Addr
 Jx:FuncData
 Jy:Addr
 Jz:FuncData
 K1:Addr
 K2:FuncData
 K3:Addr
 K4:FuncData
 K5:Addr
 K6:FuncData
 K7:Addr
 K8:FuncData
 K9:Addr
 Ka:FuncData
 Fe:Addr
 Kb:FuncData
 Kc:Addr
 Kd:FuncData
 Ke:Addr
 Kg:FuncData
 Kh:Addr
 Ki:FuncData
 Kj:Addr
 Kk:FuncData
 Kl:Addr
 Km:FuncData
 Kn:Addr
 Ko:FuncData
 Ff:Addr
 Kp:FuncData
 Cy:Addr
 Kq:FuncData
 Kr:Addr
 Cl:Tok
 Ks:Addr
 Kt:FuncData
 Ku:Addr
 Kv:FuncData
 Kw:Addr
 Kx:FuncData
 Cz:Addr
 Ky:FuncData
 Kz:Addr
 L1:Addr
 L3:FuncData
 L6:Addr
 L7:FuncData
 L8:Addr
 L9:FuncData
 La:Addr
 Lb:FuncData
 Lc:Addr
 Ld:FuncData
 Le:Addr
 Lf:FuncData
 Lg:Addr
 Lh:FuncData
 Li:Addr
 Lj:FuncData
 Lk:Addr
 Ll:FuncData
 Lm:Addr
 Ln:FuncData
 Lo:Addr
 Lp:FuncData
 Lq:Addr
 Lr:FuncData
 Ls:Addr
 Lt:FuncData
 Lu:Addr
 Lv:FuncData
 Lx:Addr
 Ly:FuncData
 Lz:Addr
 M0:FuncData
 M4:Addr
 M5:FuncData
 M6:Addr
 M7:FuncData
 M8:Addr
 M9:FuncData
 Ma:Addr
 Mb:FuncData
 Nk:Addr
 Fg:FuncData
 A9:Addr
 A8:Addr
 Af:Addr
 Bu:Addr
 Aa:Addr
 A4:Addr
 Ab:Addr
 A2:Addr
 A1:Addr
 A6:Addr
 A0:Addr
 Fh:Addr
 Ej:Addr
 B8:Addr
 D5:Addr
 Bz:Addr
 Ek:Addr
 El:Addr
 Ah:Addr
 Aj:Addr
 B6:Addr
 C9:Addr
 A7:Addr
 Be:Addr
 Em:Tok
 Nl:Tok
 C4:Tok
 C5:Tok
 Bf:Tok
 Bv:Tok
 C6:Tok
 Bw:Tok
 Ck:Tok
 Bx:Tok
 C7:Tok
 Ct:Tok
 Bg:Tok
 Ca:Tok
 Bh:Tok
 Cb:Tok
 Bi:Tok
 Cu:Tok
 By:Tok
 Bq:Addr
 Bj:Addr
variable {a:Ads}
structure Txt (K:W.Frag) (mg:Str->Option Value) (a:Ads):Prop where
 Fi:Dff K mg "is_whole" vc8 ["thing"] a.O9 a.Oa
 Ot:Dff K mg "is_bit" vdk ["thing"] a.Ob a.Oc
 Ou:Dff K mg "is_chance" vdi ["thing"] a.Od a.Oe
 Ov:Dff K mg "is_sign" vc6 ["thing"] a.Of a.Og
 Nm:Dff K mg "is_list_of_signs" vdf ["thing","most"] a.Oh a.Oi
 Nn:Dff K mg "checked_text" vc4 ["thing"] a.Oj a.Ol
 Ow:Dff K mg "checked_bytes" vdc ["thing"] a.Om a.On
 Ox:Dff K mg "check_most" vdh ["thing"] a.Oo a.Op
 N7:Dff K mg "check_chance" vcy ["thing"] a.Oq a.Os
 Ci:Dff K mg "check_bit" ys7 ["thing"] a.Hm a.Hn
 Mc:Dff K mg "gives" yr9 ["chance","bit"] a.Ho a.Hq
 E5:Dfm K a.A9 "__init__" "Even.__init__" ysl ["self"] a.F6 a.Hr
 Fj:Dfm K a.A9 "chance" "Even.chance" yr8 ["self"] a.Hs a.Ht
 Fk:Dfm K a.A9 "seen" "Even.seen" ysi ["self","bit"] a.Hu a.Hv
 E6:Dfm K a.A8 "__init__" "Quick.__init__" yra ["self"] a.F7 a.Hw
 Fl:Dfm K a.A8 "chance" "Quick.chance" ys5 ["self"] a.Hx a.Hy
 Fm:Dfm K a.A8 "seen" "Quick.seen" ysq ["self","bit"] a.Hz a.I0
 E7:Dfm K a.Af "__init__" "Run.__init__" yrx ["self"] a.F8 a.I1
 Fn:Dfm K a.Af "chance" "Run.chance" yrp ["self"] a.I2 a.I3
 Fo:Dfm K a.Af "seen" "Run.seen" yth ["self","bit"] a.I4 a.I5
 Md:Dff K mg "slot_of" yre ["kind"] a.I6 a.I7
 Fp:Dff K mg "written" yq9 ["number","size"] a.I8 a.I9
 Fq:Dff K mg "first_block" yrs ["low","unit"] a.Ia a.Ib
 D6:Dfm K a.A4 "__init__" "Span.__init__" ys1 ["self"] a.F9 a.Ic
 D7:Dfm K a.A4 "cut" "Span.cut" yr3 ["self","chance"] a.Ie a.If
 D8:Dfm K a.A4 "narrow" "Span.narrow" ysz ["self","chance","bit"] a.Ig a.Ih
 Fr:Dfm K a.A4 "holds_block" "Span.holds_block" ysc ["self","unit"] a.Ii a.Ij
 D9:Dfm K a.A4 "told" "Span.told" yr1 ["self"] a.Ik a.Il
 Me:Dff K mg "is_kind" ys2 ["thing"] a.Im a.Io
 Mf:Dff K mg "is_place" ytk ["thing"] a.Ip a.Iq
 Mg:Dff K mg "are_places" ys9 ["thing"] a.Ir a.Is
 Fs:Dff K mg "is_look" yso ["thing"] a.Iu a.Iv
 Ft:Dff K mg "checked_looks" ysb ["thing"] a.Iw a.Ix
 Mh:Dff K mg "sign_back" yrt ["signs","place"] a.Iy a.Iz
 Mi:Dff K mg "context_of" yq5 ["look","signs","node"] a.J0 a.J1
 E8:Dfm K a.Aa "__init__" "Book.__init__" yr4 ["self","look"] a.Fa a.J2
 Fu:Dfm K a.Aa "slot_at" "Book.slot_at" ytj ["self","signs","node"] a.J3 a.J4
 E9:Dfm K a.Bu "__init__" "Mixer.__init__" ysn ["self","many"] a.Fb a.J5
 Fv:Dfm K a.Bu "mixed" "Mixer.mixed" ytf ["self","chances"] a.J6 a.J7
 Fw:Dfm K a.Bu "learn" "Mixer.learn" yrk ["self","chances","bit"] a.J8 a.J9
 Ea:Dfm K a.A2 "__init__" "Foreteller.__init__" yr5 ["self","looks"] a.Fc a.Ja
 Da:Dfm K a.A2 "arrive" "Foreteller.arrive" ysj ["self"] a.Jb a.Jc
 Db:Dfm K a.A2 "chances" "Foreteller.chances" ytb ["self"] a.Jd a.Je
 Dc:Dfm K a.A2 "chance" "Foreteller.chance" yrj ["self"] a.Jf a.Jg
 Dd:Dfm K a.A2 "see" "Foreteller.see" yrm ["self","bit"] a.Jh a.Ji
 Fx:Dfm K a.A2 "step" "Foreteller.step" yrr ["self","bit"] a.Jj a.Jk
 Fz:Dfm K a.A2 "step_in_sign" "Foreteller.step_in_sign" yrz ["self","bit"] a.Jl a.Jm
 Mj:Dff K mg "bits_of" ytd ["sign"] a.Jn a.Jo
 Ml:Dff K mg "decisions_of" yr0 ["text"] a.Jp a.Jq
 Eb:Dfm K a.Ab "__init__" "Seeker.__init__" ys3 ["self","data"] a.Fd a.Jr
 De:Dfm K a.Ab "follow" "Seeker.follow" ys6 ["self"] a.Js a.Jt
 G9:Dfm K a.Ab "byte_at" "Seeker.byte_at" ysy ["self","place"] a.Ju a.Jv
 Ga:Dfm K a.Ab "bit" "Seeker.bit" ysf ["self","chance"] a.Jw a.Jx
 Gb:Dfm K a.Ab "told" "Seeker.told" ysv ["self"] a.Jy a.Jz
 Mm:Dff K mg "press_by" yrn ["foreteller","text"] a.K1 a.K2
 Gc:Dff K mg "bit_by" ysw ["foreteller","seeker"] a.K3 a.K4
 Mn:Dff K mg "sign_by" yta ["foreteller","seeker"] a.K5 a.K6
 Mo:Dff K mg "text_by" ysg ["foreteller","seeker","most"] a.K7 a.K8
 Mq:Dff K mg "read_by" yse ["foreteller","data","most"] a.K9 a.Ka
 D0:Dfm K a.A1 "__init__" "Chain.__init__" ysr ["self","looks"] a.Fe a.Kb
 Dh:Dfm K a.A1 "grow" "Chain.grow" yq6 ["self","name","text"] a.Kc a.Kd
 Gd:Dfm K a.A1 "press" "Chain.press" yru ["self","name","text"] a.Ke a.Kg
 Ge:Dfm K a.A1 "read" "Chain.read" yq2 ["self","name","data","most"] a.Kh a.Ki
 Mr:Dff K mg "is_name" yss ["thing"] a.Kj a.Kk
 Ec:Dff K mg "checked_name" yr2 ["thing"] a.Kl a.Km
 Ms:Dff K mg "check_base" ysd ["thing"] a.Kn a.Ko
 Ed:Dfm K a.A6 "__init__" "Piece.__init__" yrb ["self","base","data"] a.Ff a.Kp
 Pu:yfh K "__init__" "Store.__init__" yfb a.Kr a.Cy a.Kq
 Qs:uw K a.Kq ["self","looks","most"] [.int 1000 a.Cl]
 Pv:uw K a.Kq ["self","looks","most"] []
 Gf:Dfm K a.A0 "told_looks" "Store.told_looks" yri ["self"] a.Ks a.Kt
 Gg:Dfm K a.A0 "most_signs" "Store.most_signs" ysu ["self"] a.Ku a.Kv
 Cm:Dfm K a.A0 "names" "Store.names" yr6 ["self"] a.Kw a.Kx
 Pw:yfh K "put" "Store.put" ye8 a.Kz a.Cz a.Ky
 Qt:uw K a.Ky ["self","name","text","base"] [.none]
 Px:uw K a.Ky ["self","name","text","base"] []
 Py:yts K a.A0 "put" a.Cz
 Gh:Dfm K a.A0 "check_length" "Store.check_length" yrd ["self","text"] a.L1 a.L3
 Gi:Dfm K a.A0 "check_room" "Store.check_room" yro ["self","name","base"] a.L6 a.L7
 Cc:Dfm K a.A0 "piece_at" "Store.piece_at" ysa ["self","name"] a.L8 a.L9
 Gj:Dfm K a.A0 "links_to" "Store.links_to" ysx ["self","name"] a.La a.Lb
 Gk:Dfm K a.A0 "chain_to" "Store.chain_to" yrg ["self","name"] a.Lc a.Ld
 Di:Dfm K a.A0 "bytes_of" "Store.bytes_of" yq7 ["self","name"] a.Le a.Lf
 Gm:Dfm K a.A0 "base_of" "Store.base_of" yst ["self","name"] a.Lg a.Lh
 Gn:Dfm K a.A0 "drop" "Store.drop" ysm ["self","name"] a.Li a.Lj
 Mt:Dff K mg "look_bytes" yrl ["look"] a.Lk a.Ll
 Mu:Dff K mg "name_bytes" ytc ["name"] a.Lm a.Ln
 Mv:Dff K mg "base_bytes" yrq ["store","name"] a.Lo a.Lp
 Ee:Dff K mg "shelf_of" yrw ["store"] a.Lq a.Lr
 Mw:Dff K mg "_law_whole" yq4 ["_law_found"] a.Ls a.Lt
 Cj:Dff K mg "_law_mixed" yrv ["_law_script","_law_k"] a.Lu a.Lv
 Mx:Dff K mg "_law_names" ytl ["_law_cell"] a.Lx a.Ly
 My:Dff K mg "_law_looks" yrf ["_law_script"] a.Lz a.M0
 Mz:Dff K mg "_law_text" ytg ["_law_cell","_law_more"] a.M4 a.M5
 N0:Dff K mg "_law_deed" yry ["_law_store","_law_pieces","_law_names_here","_law_cell","_law_text_here"] a.M6 a.M7
 Gp:Dff K mg "_law_due" yq8 ["_law_store","_law_looks_here","_law_most","_law_pieces"] a.M8 a.M9
 Ef:Dff K mg "_law_bytes" yr7 ["_law_found","_law_due_here"] a.Ma a.Mb
 Gq:Dff K mg "law" yq3 ["_law_script"] a.Nk a.Fg
 Br:Cls K a.A9
 Ph:mg "Even"=some (.ref a.A9)
 Pi:Mk K a.A9 a.F6
 Al:vd K a.A9 "noughts"
 B9:vd K a.A9 "ones"
 Cd:Cls K a.A8
 Oy:mg "Quick"=some (.ref a.A8)
 Oz:Mk K a.A8 a.F7
 As:vd K a.A8 "held"
 Ce:Cls K a.Af
 Pz:mg "Run"=some (.ref a.Af)
 Q0:Mk K a.Af a.F8
 Bk:vd K a.Af "last"
 At:vd K a.Af "length"
 Gr:Cls K a.Bu
 Qu:mg "Mixer"=some (.ref a.Bu)
 Qv:Mk K a.Bu a.Fb
 C0:vd K a.Bu "kept"
 C8:Cls K a.Aa
 Pj:mg "Book"=some (.ref a.Aa)
 Pk:Mk K a.Aa a.Fa
 Ba:vd K a.Aa "look"
 Au:vd K a.Aa "slots"
 Ag:Cls K a.A4
 No:mg "Span"=some (.ref a.A4)
 Np:Mk K a.A4 a.F9
 Bl:vd K a.A4 "low"
 Av:vd K a.A4 "width"
 Bb:vd K a.A4 "size"
 Bc:Cls K a.Ab
 Qw:mg "Seeker"=some (.ref a.Ab)
 Qx:Mk K a.Ab a.Fd
 C1:vd K a.Ab "data"
 C2:vd K a.Ab "span"
 Bd:vd K a.Ab "number"
 Aw:vd K a.Ab "reached"
 Ae:Cls K a.A2
 Qy:mg "Foreteller"=some (.ref a.A2)
 Qz:Mk K a.A2 a.Fc
 Ar:vd K a.A2 "looks"
 Bm:vd K a.A2 "books"
 Bn:vd K a.A2 "mixer"
 Bo:vd K a.A2 "ended"
 Bp:vd K a.A2 "place"
 Ax:vd K a.A2 "present"
 Ai:Cls K a.A1
 En:mg "Chain"=some (.ref a.A1)
 Eo:Mk K a.A1 a.Fe
 Ad:vd K a.A1 "foreteller"
 Ao:vd K a.A1 "links"
 Ap:vd K a.A1 "texts"
 C3:Cls K a.A6
 P0:mg "Piece"=some (.ref a.A6)
 P1:Mk K a.A6 a.Ff
 Ay:vd K a.A6 "base"
 Az:vd K a.A6 "data"
 A3:Cls K a.A0
 P3:mg "Store"=some (.ref a.A0)
 P4:Mk K a.A0 a.Cy
 Ak:vd K a.A0 "looks"
 B0:vd K a.A0 "most"
 Am:vd K a.A0 "pieces"
 Aq:vd K a.A0 "chain"
 R0:mg "NoText"=some (.ref a.Fh)
 R1:mg "NoBytes"=some (.ref a.Ej)
 Nq:mg "NoMost"=some (.ref a.B8)
 R3:mg "NoChance"=some (.ref a.D5)
 R4:mg "NoBit"=some (.ref a.Bz)
 Q1:mg "NoLooks"=some (.ref a.Ek)
 Q2:mg "NoPress"=some (.ref a.El)
 Nr:mg "NoName"=some (.ref a.Ah)
 N8:mg "TooLong"=some (.ref a.Aj)
 P5:mg "Taken"=some (.ref a.B6)
 Pl:mg "Full"=some (.ref a.C9)
 N9:mg "NoPiece"=some (.ref a.A7)
 P6:mg "InUse"=some (.ref a.Be)
 Q3:XCls K a.Fh
 Pm:XMk K a.Fh
 Q4:XCls K a.Ej
 Pn:XMk K a.Ej
 Gs:XCls K a.B8
 Dj:XMk K a.B8
 Q5:XCls K a.D5
 Po:XMk K a.D5
 Q6:XCls K a.Bz
 Pp:XMk K a.Bz
 Q7:XCls K a.Ek
 P7:XMk K a.Ek
 Q8:XCls K a.El
 P8:XMk K a.El
 Gt:XCls K a.Ah
 Dk:XMk K a.Ah
 Eg:XCls K a.Aj
 Cv:XMk K a.Aj
 N2:XCls K a.B6
 Ep:XMk K a.B6
 Nt:XCls K a.C9
 He:XMk K a.C9
 Eh:XCls K a.A7
 Cw:XMk K a.A7
 N3:XCls K a.Be
 Er:XMk K a.Be
 A5:mg "isinstance"=none
 Gu:mg "int"=none
 Es:mg "bool"=none
 An:mg "list"=none
 Cn:mg "all"=none
 Ac:mg "len"=none
 Gv:mg "min"=none
 Gw:mg "max"=none
 N4:mg "str"=none
 Co:mg "tuple"=none
 Gy:mg "zip"=none
 Dl:mg "sum"=none
 Nu:mg "any"=none
 Bt:mg "range"=none
 D3:mg "LEAST"=some (.int 32768 a.Em)
 Cp:mg "ONE"=some (.int 16777216 a.Nl)
 Cq:mg "MOST_SIGNS"=some (.int 1000 a.C4)
 Et:mg "MOST_BYTES"=some (.int 12000 a.C5)
 Cg:mg "MOST_COUNTED"=some (.int 255 a.Bf)
 Dt:mg "FIRST_WIDTH"=some (.int 1099511627776 a.Bv)
 Eu:mg "FIRST_SIZE"=some (.int 5 a.C6)
 Du:mg "LEAST_WIDTH"=some (.int 4294967296 a.Bw)
 Hf:mg "FARTHEST"=some (.int 8 a.Ck)
 Dv:mg "MOST_PLACES"=some (.int 4 a.Bx)
 Cr:mg "MOST_LOOKS"=some (.int 6 a.C7)
 Na:mg "NO_SIGN"=some (.int 256 a.Ct)
 Dm:mg "FIRST_WEIGHT"=some (.int 1099511627776 a.Bg)
 Gz:mg "OWN_PARTS"=some (.int 31 a.Ca)
 Dn:mg "MOST_FIGURES"=some (.int 48 a.Bh)
 D1:mg "NODES_END"=some (.int 256 a.Cb)
 Do:mg "MOST_LETTERS"=some (.int 8 a.Bi)
 Ei:mg "LETTERS"=some (.str "abcdefghijklmnopqrstuvwxyz" a.Cu)
 Dw:mg "MOST_PIECES"=some (.int 60 a.By)
 N5:mg "KINDS"=some (.ref a.Bq)
 N6:∀ H,SqT K H a.Bq [V.str "even",V.str "quick",V.str "run"]
 Nv:∃ o,K.lookup a.Bq=some o/\o.cls=.type "tuple"/\o.dict=none
 Ha:mg "WORTHS"=some (.ref a.Bj)
 Cs:∀ H,SqT K H a.Bj [V.int 128,V.int 64,V.int 32,V.int 16,V.int 8,V.int 4,V.int 2,V.int 1]
section
variable {P:Program} {w:World} {K:W.Frag} {mg:Str->Option Value} {base:Heap}
def z7 (v0 v1:V):List (Str × V):=[("noughts",v0),("ones",v1)]
section
variable {H:Hp} {dx:Addr} {v0 v1 v:V} {P:V->Prop} {nx:St->Hp->Prop} {σ:St}
section
variable (T:Txt K mg a) (hp:H p=some (.ins a.A9 dx (z7 v0 v1)))
include T hp
theorem ä (h:P v0):RdX K H p "noughts" P:=rdX hp T.Br T.Al xk h
theorem Ü (h:vj nx σ (upd H p (.ins a.A9 dx (z7 v v1)))):StX K H p "noughts" v nx σ:=stX hp T.Br T.Al lt2 xj h
theorem ű (h:P v1):RdX K H p "ones" P:=rdX hp T.Br T.B9 (vz (by right) xk) h
theorem ŵ (h:vj nx σ (upd H p (.ins a.A9 dx (z7 v0 v)))):StX K H p "ones" v nx σ:=stX hp T.Br T.B9 lt2 (y9 (by right) xj) h
end
theorem ã (T:Txt K mg a) (hp:H p=some (.ins a.A9 dx [])) (h:vj nx σ (upd H p (.ins a.A9 dx [("noughts",v)]))):StX K H p "noughts" v nx σ:=stX hp T.Br T.Al lt0 wl h
theorem Ŭ (T:Txt K mg a) (hp:H p=some (.ins a.A9 dx [("noughts",v0)])) (h:vj nx σ (upd H p (.ins a.A9 dx (z7 v0 v)))):StX K H p "ones" v nx σ:=stX hp T.Br T.B9 lt1 (y9 (by right) wl) h
theorem ĉ:(z7 v0 v1).lookup ("chance":Str)=none:=(vz (by right) (vz (by right) ü))
theorem Ÿ:(z7 v0 v1).lookup ("seen":Str)=none:=(vz (by right) (vz (by right) ü))
theorem ypk {nm:Str} (hp:H p=some (.ins C dx (z7 v0 v1))) (n:nm∉(["noughts","ones"]:List Str)) (h:R):MtX H p C nm R:=mtX hp rfl n h
end
def uo (v0:V):List (Str × V):=[("held",v0)]
section
variable {H:Hp} {dx:Addr} {v0 v:V} {P:V->Prop} {nx:St->Hp->Prop} {σ:St}
section
variable (T:Txt K mg a) (hp:H p=some (.ins a.A8 dx (uo v0)))
include T hp
theorem ľ (h:P v0):RdX K H p "held" P:=rdX hp T.Cd T.As xk h
theorem ĺ (h:vj nx σ (upd H p (.ins a.A8 dx (uo v)))):StX K H p "held" v nx σ:=stX hp T.Cd T.As lt1 xj h
end
theorem ņ (T:Txt K mg a) (hp:H p=some (.ins a.A8 dx [])) (h:vj nx σ (upd H p (.ins a.A8 dx (uo v)))):StX K H p "held" v nx σ:=stX hp T.Cd T.As lt0 wl h
theorem á:(uo v0).lookup ("chance":Str)=none:=(vz (by right) ü)
theorem Ľ:(uo v0).lookup ("seen":Str)=none:=(vz (by right) ü)
theorem yk0 {nm:Str} (hp:H p=some (.ins C dx (uo v0))) (n:nm∉(["held"]:List Str)) (h:R):MtX H p C nm R:=mtX hp rfl n h
end
def ÿ (v0 v1:V):List (Str × V):=[("last",v0),("length",v1)]
section
variable {H:Hp} {dx:Addr} {v0 v1 v:V} {P:V->Prop} {nx:St->Hp->Prop} {σ:St}
section
variable (T:Txt K mg a) (hp:H p=some (.ins a.Af dx (ÿ v0 v1)))
include T hp
theorem yby (h:P v0):RdX K H p "last" P:=rdX hp T.Ce T.Bk xk h
theorem ybg (h:vj nx σ (upd H p (.ins a.Af dx (ÿ v v1)))):StX K H p "last" v nx σ:=stX hp T.Ce T.Bk lt2 xj h
theorem ŉ (h:P v1):RdX K H p "length" P:=rdX hp T.Ce T.At (vz (by right) xk) h
theorem Ŀ (h:vj nx σ (upd H p (.ins a.Af dx (ÿ v0 v)))):StX K H p "length" v nx σ:=stX hp T.Ce T.At lt2 (y9 (by right) xj) h
end
theorem ybl (T:Txt K mg a) (hp:H p=some (.ins a.Af dx [])) (h:vj nx σ (upd H p (.ins a.Af dx [("last",v)]))):StX K H p "last" v nx σ:=stX hp T.Ce T.Bk lt0 wl h
theorem ń (T:Txt K mg a) (hp:H p=some (.ins a.Af dx [("last",v0)])) (h:vj nx σ (upd H p (.ins a.Af dx (ÿ v0 v)))):StX K H p "length" v nx σ:=stX hp T.Ce T.At lt1 (y9 (by right) wl) h
theorem ŀ:(ÿ v0 v1).lookup ("chance":Str)=none:=(vz (by right) (vz (by right) ü))
theorem ybm:(ÿ v0 v1).lookup ("seen":Str)=none:=(vz (by right) (vz (by right) ü))
theorem yv6 {nm:Str} (hp:H p=some (.ins C dx (ÿ v0 v1))) (n:nm∉(["last","length"]:List Str)) (h:R):MtX H p C nm R:=mtX hp rfl n h
end
def van (v0:V):List (Str × V):=[("kept",v0)]
section
variable {H:Hp} {dx:Addr} {v0 v:V} {P:V->Prop} {nx:St->Hp->Prop} {σ:St}
section
variable (T:Txt K mg a) (hp:H p=some (.ins a.Bu dx (van v0)))
include T hp
theorem yet (h:P v0):RdX K H p "kept" P:=rdX hp T.Gr T.C0 xk h
theorem yef (h:vj nx σ (upd H p (.ins a.Bu dx (van v)))):StX K H p "kept" v nx σ:=stX hp T.Gr T.C0 lt1 xj h
end
theorem yes (T:Txt K mg a) (hp:H p=some (.ins a.Bu dx [])) (h:vj nx σ (upd H p (.ins a.Bu dx (van v)))):StX K H p "kept" v nx σ:=stX hp T.Gr T.C0 lt0 wl h
theorem va6 {nm:Str} (hp:H p=some (.ins C dx (van v0))) (n:nm∉(["kept"]:List Str)) (h:R):MtX H p C nm R:=mtX hp rfl n h
end
def ģ (v0 v1:V):List (Str × V):=[("look",v0),("slots",v1)]
section
variable {H:Hp} {dx:Addr} {v0 v1 v:V} {P:V->Prop} {nx:St->Hp->Prop} {σ:St}
section
variable (T:Txt K mg a) (hp:H p=some (.ins a.Aa dx (ģ v0 v1)))
include T hp
theorem Ů (h:P v0):RdX K H p "look" P:=rdX hp T.C8 T.Ba xk h
theorem ū (h:vj nx σ (upd H p (.ins a.Aa dx (ģ v v1)))):StX K H p "look" v nx σ:=stX hp T.C8 T.Ba lt2 xj h
theorem ļ (h:P v1):RdX K H p "slots" P:=rdX hp T.C8 T.Au (vz (by right) xk) h
theorem į (h:vj nx σ (upd H p (.ins a.Aa dx (ģ v0 v)))):StX K H p "slots" v nx σ:=stX hp T.C8 T.Au lt2 (y9 (by right) xj) h
end
theorem Ŵ (T:Txt K mg a) (hp:H p=some (.ins a.Aa dx [])) (h:vj nx σ (upd H p (.ins a.Aa dx [("look",v)]))):StX K H p "look" v nx σ:=stX hp T.C8 T.Ba lt0 wl h
theorem Ķ (T:Txt K mg a) (hp:H p=some (.ins a.Aa dx [("look",v0)])) (h:vj nx σ (upd H p (.ins a.Aa dx (ģ v0 v)))):StX K H p "slots" v nx σ:=stX hp T.C8 T.Au lt1 (y9 (by right) wl) h
theorem yqm {nm:Str} (hp:H p=some (.ins C dx (ģ v0 v1))) (n:nm∉(["look","slots"]:List Str)) (h:R):MtX H p C nm R:=mtX hp rfl n h
end
def yfd (v0 v1 v2 v3:V):List (Str × V):=[("data",v0),("span",v1),("number",v2),("reached",v3)]
section
variable {H:Hp} {dx:Addr} {v0 v1 v2 v3 v:V} {P:V->Prop} {nx:St->Hp->Prop} {σ:St}
section
variable (T:Txt K mg a) (hp:H p=some (.ins a.Ab dx (yfd v0 v1 v2 v3)))
include T hp
theorem yel (h:P v0):RdX K H p "data" P:=rdX hp T.Bc T.C1 xk h
theorem yer (h:vj nx σ (upd H p (.ins a.Ab dx (yfd v v1 v2 v3)))):StX K H p "data" v nx σ:=stX hp T.Bc T.C1 lt4 xj h
theorem ye1 (h:P v1):RdX K H p "span" P:=rdX hp T.Bc T.C2 (vz (by right) xk) h
theorem yej (h:vj nx σ (upd H p (.ins a.Ab dx (yfd v0 v v2 v3)))):StX K H p "span" v nx σ:=stX hp T.Bc T.C2 lt4 (y9 (by right) xj) h
theorem ų (h:P v2):RdX K H p "number" P:=rdX hp T.Bc T.Bd (vz (by right) (vz (by right) xk)) h
theorem Ű (h:vj nx σ (upd H p (.ins a.Ab dx (yfd v0 v1 v v3)))):StX K H p "number" v nx σ:=stX hp T.Bc T.Bd lt4 (y9 (by right) (y9 (by right) xj)) h
theorem ŋ (h:P v3):RdX K H p "reached" P:=rdX hp T.Bc T.Aw (vz (by right) (vz (by right) (vz (by right) xk))) h
theorem Ĺ (h:vj nx σ (upd H p (.ins a.Ab dx (yfd v0 v1 v2 v)))):StX K H p "reached" v nx σ:=stX hp T.Bc T.Aw lt4 (y9 (by right) (y9 (by right) (y9 (by right) xj))) h
end
theorem yek (T:Txt K mg a) (hp:H p=some (.ins a.Ab dx [])) (h:vj nx σ (upd H p (.ins a.Ab dx [("data",v)]))):StX K H p "data" v nx σ:=stX hp T.Bc T.C1 lt0 wl h
theorem yep (T:Txt K mg a) (hp:H p=some (.ins a.Ab dx [("data",v0)])) (h:vj nx σ (upd H p (.ins a.Ab dx [("data",v0),("span",v)]))):StX K H p "span" v nx σ:=stX hp T.Bc T.C2 lt1 (y9 (by right) wl) h
theorem ŭ (T:Txt K mg a) (hp:H p=some (.ins a.Ab dx [("data",v0),("span",v1)])) (h:vj nx σ (upd H p (.ins a.Ab dx [("data",v0),("span",v1),("number",v)]))):StX K H p "number" v nx σ:=stX hp T.Bc T.Bd lt2 (y9 (by right) (y9 (by right) wl)) h
theorem Ņ (T:Txt K mg a) (hp:H p=some (.ins a.Ab dx [("data",v0),("span",v1),("number",v2)])) (h:vj nx σ (upd H p (.ins a.Ab dx (yfd v0 v1 v2 v)))):StX K H p "reached" v nx σ:=stX hp T.Bc T.Aw lt3 (y9 (by right) (y9 (by right) (y9 (by right) wl))) h
theorem vb5 {nm:Str} (hp:H p=some (.ins C dx (yfd v0 v1 v2 v3))) (n:nm∉(["data","span","number","reached"]:List Str)) (h:R):MtX H p C nm R:=mtX hp rfl n h
end
def Õ (v0 v1 v2 v3 v4 v5:V):List (Str × V):=[("looks",v0),("books",v1),("mixer",v2),("ended",v3),("place",v4),("present",v5)]
section
variable {H:Hp} {dx:Addr} {v0 v1 v2 v3 v4 v5 v:V} {P:V->Prop} {nx:St->Hp->Prop} {σ:St}
section
variable (T:Txt K mg a) (hp:H p=some (.ins a.A2 dx (Õ v0 v1 v2 v3 v4 v5)))
include T hp
theorem ya8 (h:P v0):RdX K H p "looks" P:=rdX hp T.Ae T.Ar xk h
theorem ybt (h:vj nx σ (upd H p (.ins a.A2 dx (Õ v v1 v2 v3 v4 v5)))):StX K H p "looks" v nx σ:=stX hp T.Ae T.Ar lt6 xj h
theorem ybs (h:P v1):RdX K H p "books" P:=rdX hp T.Ae T.Bm (vz (by right) xk) h
theorem yba (h:vj nx σ (upd H p (.ins a.A2 dx (Õ v0 v v2 v3 v4 v5)))):StX K H p "books" v nx σ:=stX hp T.Ae T.Bm lt6 (y9 (by right) xj) h
theorem ybr (h:P v2):RdX K H p "mixer" P:=rdX hp T.Ae T.Bn (vz (by right) (vz (by right) xk)) h
theorem ybu (h:vj nx σ (upd H p (.ins a.A2 dx (Õ v0 v1 v v3 v4 v5)))):StX K H p "mixer" v nx σ:=stX hp T.Ae T.Bn lt6 (y9 (by right) (y9 (by right) xj)) h
theorem ybd (h:P v3):RdX K H p "ended" P:=rdX hp T.Ae T.Bo (vz (by right) (vz (by right) (vz (by right) xk))) h
theorem ya9 (h:vj nx σ (upd H p (.ins a.A2 dx (Õ v0 v1 v2 v v4 v5)))):StX K H p "ended" v nx σ:=stX hp T.Ae T.Bo lt6 (y9 (by right) (y9 (by right) (y9 (by right) xj))) h
theorem ybf (h:P v4):RdX K H p "place" P:=rdX hp T.Ae T.Bp (vz (by right) (vz (by right) (vz (by right) (vz (by right) xk)))) h
theorem ybw (h:vj nx σ (upd H p (.ins a.A2 dx (Õ v0 v1 v2 v3 v v5)))):StX K H p "place" v nx σ:=stX hp T.Ae T.Bp lt6 (y9 (by right) (y9 (by right) (y9 (by right) (y9 (by right) xj)))) h
theorem Ŋ (h:P v5):RdX K H p "present" P:=rdX hp T.Ae T.Ax (vz (by right) (vz (by right) (vz (by right) (vz (by right) (vz (by right) xk))))) h
theorem ł (h:vj nx σ (upd H p (.ins a.A2 dx (Õ v0 v1 v2 v3 v4 v)))):StX K H p "present" v nx σ:=stX hp T.Ae T.Ax lt6 (y9 (by right) (y9 (by right) (y9 (by right) (y9 (by right) (y9 (by right) xj))))) h
end
theorem ybn (T:Txt K mg a) (hp:H p=some (.ins a.A2 dx [])) (h:vj nx σ (upd H p (.ins a.A2 dx [("looks",v)]))):StX K H p "looks" v nx σ:=stX hp T.Ae T.Ar lt0 wl h
theorem ybv (T:Txt K mg a) (hp:H p=some (.ins a.A2 dx [("looks",v0)])) (h:vj nx σ (upd H p (.ins a.A2 dx [("looks",v0),("books",v)]))):StX K H p "books" v nx σ:=stX hp T.Ae T.Bm lt1 (y9 (by right) wl) h
theorem ybk (T:Txt K mg a) (hp:H p=some (.ins a.A2 dx [("looks",v0),("books",v1)])) (h:vj nx σ (upd H p (.ins a.A2 dx [("looks",v0),("books",v1),("mixer",v)]))):StX K H p "mixer" v nx σ:=stX hp T.Ae T.Bn lt2 (y9 (by right) (y9 (by right) wl)) h
theorem ybo (T:Txt K mg a) (hp:H p=some (.ins a.A2 dx [("looks",v0),("books",v1),("mixer",v2)])) (h:vj nx σ (upd H p (.ins a.A2 dx [("looks",v0),("books",v1),("mixer",v2),("ended",v)]))):StX K H p "ended" v nx σ:=stX hp T.Ae T.Bo lt3 (y9 (by right) (y9 (by right) (y9 (by right) wl))) h
theorem ybx (T:Txt K mg a) (hp:H p=some (.ins a.A2 dx [("looks",v0),("books",v1),("mixer",v2),("ended",v3)])) (h:vj nx σ (upd H p (.ins a.A2 dx [("looks",v0),("books",v1),("mixer",v2),("ended",v3),("place",v)]))):StX K H p "place" v nx σ:=stX hp T.Ae T.Bp lt4 (y9 (by right) (y9 (by right) (y9 (by right) (y9 (by right) wl)))) h
theorem Ł (T:Txt K mg a) (hp:H p=some (.ins a.A2 dx [("looks",v0),("books",v1),("mixer",v2),("ended",v3),("place",v4)])) (h:vj nx σ (upd H p (.ins a.A2 dx (Õ v0 v1 v2 v3 v4 v)))):StX K H p "present" v nx σ:=stX hp T.Ae T.Ax lt5 (y9 (by right) (y9 (by right) (y9 (by right) (y9 (by right) (y9 (by right) wl))))) h
theorem vbu {nm:Str} (hp:H p=some (.ins C dx (Õ v0 v1 v2 v3 v4 v5))) (n:nm∉(["looks","books","mixer","ended","place","present"]:List Str)) (h:R):MtX H p C nm R:=mtX hp rfl n h
end
def x8 (v0 v1 v2:V):List (Str × V):=[("foreteller",v0),("links",v1),("texts",v2)]
section
variable {H:Hp} {dx:Addr} {v0 v1 v2 v:V} {P:V->Prop} {nx:St->Hp->Prop} {σ:St}
section
variable (T:Txt K mg a) (hp:H p=some (.ins a.A1 dx (x8 v0 v1 v2)))
include T hp
theorem jq (h:P v0):RdX K H p "foreteller" P:=rdX hp T.Ai T.Ad xk h
theorem jo (h:vj nx σ (upd H p (.ins a.A1 dx (x8 v v1 v2)))):StX K H p "foreteller" v nx σ:=stX hp T.Ai T.Ad lt3 xj h
theorem Đ (h:P v1):RdX K H p "links" P:=rdX hp T.Ai T.Ao (vz (by right) xk) h
theorem č (h:vj nx σ (upd H p (.ins a.A1 dx (x8 v0 v v2)))):StX K H p "links" v nx σ:=stX hp T.Ai T.Ao lt3 (y9 (by right) xj) h
theorem ă (h:P v2):RdX K H p "texts" P:=rdX hp T.Ai T.Ap (vz (by right) (vz (by right) xk)) h
theorem ą (h:vj nx σ (upd H p (.ins a.A1 dx (x8 v0 v1 v)))):StX K H p "texts" v nx σ:=stX hp T.Ai T.Ap lt3 (y9 (by right) (y9 (by right) xj)) h
end
theorem jp (T:Txt K mg a) (hp:H p=some (.ins a.A1 dx [])) (h:vj nx σ (upd H p (.ins a.A1 dx [("foreteller",v)]))):StX K H p "foreteller" v nx σ:=stX hp T.Ai T.Ad lt0 wl h
theorem ď (T:Txt K mg a) (hp:H p=some (.ins a.A1 dx [("foreteller",v0)])) (h:vj nx σ (upd H p (.ins a.A1 dx [("foreteller",v0),("links",v)]))):StX K H p "links" v nx σ:=stX hp T.Ai T.Ao lt1 (y9 (by right) wl) h
theorem Ą (T:Txt K mg a) (hp:H p=some (.ins a.A1 dx [("foreteller",v0),("links",v1)])) (h:vj nx σ (upd H p (.ins a.A1 dx (x8 v0 v1 v)))):StX K H p "texts" v nx σ:=stX hp T.Ai T.Ap lt2 (y9 (by right) (y9 (by right) wl)) h
theorem ykv {nm:Str} (hp:H p=some (.ins C dx (x8 v0 v1 v2))) (n:nm∉(["foreteller","links","texts"]:List Str)) (h:R):MtX H p C nm R:=mtX hp rfl n h
end
def z6 (v0 v1:V):List (Str × V):=[("base",v0),("data",v1)]
section
variable {H:Hp} {dx:Addr} {v0 v1 v:V} {P:V->Prop} {nx:St->Hp->Prop} {σ:St}
section
variable (T:Txt K mg a) (hp:H p=some (.ins a.A6 dx (z6 v0 v1)))
include T hp
theorem İ (h:P v0):RdX K H p "base" P:=rdX hp T.C3 T.Ay xk h
theorem ň (h:vj nx σ (upd H p (.ins a.A6 dx (z6 v v1)))):StX K H p "base" v nx σ:=stX hp T.C3 T.Ay lt2 xj h
theorem ĵ (h:P v1):RdX K H p "data" P:=rdX hp T.C3 T.Az (vz (by right) xk) h
theorem Ĵ (h:vj nx σ (upd H p (.ins a.A6 dx (z6 v0 v)))):StX K H p "data" v nx σ:=stX hp T.C3 T.Az lt2 (y9 (by right) xj) h
end
theorem Ļ (T:Txt K mg a) (hp:H p=some (.ins a.A6 dx [])) (h:vj nx σ (upd H p (.ins a.A6 dx [("base",v)]))):StX K H p "base" v nx σ:=stX hp T.C3 T.Ay lt0 wl h
theorem ĳ (T:Txt K mg a) (hp:H p=some (.ins a.A6 dx [("base",v0)])) (h:vj nx σ (upd H p (.ins a.A6 dx (z6 v0 v)))):StX K H p "data" v nx σ:=stX hp T.C3 T.Az lt1 (y9 (by right) wl) h
theorem yjt {nm:Str} (hp:H p=some (.ins C dx (z6 v0 v1))) (n:nm∉(["base","data"]:List Str)) (h:R):MtX H p C nm R:=mtX hp rfl n h
end
def wg (v0 v1 v2 v3:V):List (Str × V):=[("looks",v0),("most",v1),("pieces",v2),("chain",v3)]
section
variable {H:Hp} {dx:Addr} {v0 v1 v2 v3 v:V} {P:V->Prop} {nx:St->Hp->Prop} {σ:St}
section
variable (T:Txt K mg a) (hp:H p=some (.ins a.A0 dx (wg v0 v1 v2 v3)))
include T hp
theorem Ď (h:P v0):RdX K H p "looks" P:=rdX hp T.A3 T.Ak xk h
theorem ć (h:vj nx σ (upd H p (.ins a.A0 dx (wg v v1 v2 v3)))):StX K H p "looks" v nx σ:=stX hp T.A3 T.Ak lt4 xj h
theorem Ń (h:P v1):RdX K H p "most" P:=rdX hp T.A3 T.B0 (vz (by right) xk) h
theorem Ň (h:vj nx σ (upd H p (.ins a.A0 dx (wg v0 v v2 v3)))):StX K H p "most" v nx σ:=stX hp T.A3 T.B0 lt4 (y9 (by right) xj) h
theorem Ý (h:P v2):RdX K H p "pieces" P:=rdX hp T.A3 T.Am (vz (by right) (vz (by right) xk)) h
theorem à (h:vj nx σ (upd H p (.ins a.A0 dx (wg v0 v1 v v3)))):StX K H p "pieces" v nx σ:=stX hp T.A3 T.Am lt4 (y9 (by right) (y9 (by right) xj)) h
theorem ċ (h:P v3):RdX K H p "chain" P:=rdX hp T.A3 T.Aq (vz (by right) (vz (by right) (vz (by right) xk))) h
theorem Ĉ (h:vj nx σ (upd H p (.ins a.A0 dx (wg v0 v1 v2 v)))):StX K H p "chain" v nx σ:=stX hp T.A3 T.Aq lt4 (y9 (by right) (y9 (by right) (y9 (by right) xj))) h
end
theorem Ċ (T:Txt K mg a) (hp:H p=some (.ins a.A0 dx [])) (h:vj nx σ (upd H p (.ins a.A0 dx [("looks",v)]))):StX K H p "looks" v nx σ:=stX hp T.A3 T.Ak lt0 wl h
theorem ķ (T:Txt K mg a) (hp:H p=some (.ins a.A0 dx [("looks",v0)])) (h:vj nx σ (upd H p (.ins a.A0 dx [("looks",v0),("most",v)]))):StX K H p "most" v nx σ:=stX hp T.A3 T.B0 lt1 (y9 (by right) wl) h
theorem ß (T:Txt K mg a) (hp:H p=some (.ins a.A0 dx [("looks",v0),("most",v1)])) (h:vj nx σ (upd H p (.ins a.A0 dx [("looks",v0),("most",v1),("pieces",v)]))):StX K H p "pieces" v nx σ:=stX hp T.A3 T.Am lt2 (y9 (by right) (y9 (by right) wl)) h
theorem Ć (T:Txt K mg a) (hp:H p=some (.ins a.A0 dx [("looks",v0),("most",v1),("pieces",v2)])) (h:vj nx σ (upd H p (.ins a.A0 dx (wg v0 v1 v2 v)))):StX K H p "chain" v nx σ:=stX hp T.A3 T.Aq lt3 (y9 (by right) (y9 (by right) (y9 (by right) wl))) h
theorem ylg {nm:Str} (hp:H p=some (.ins C dx (wg v0 v1 v2 v3))) (n:nm∉(["looks","most","pieces","chain"]:List Str)) (h:R):MtX H p C nm R:=mtX hp rfl n h
end
local macro_rules | `(tactic| walk_at "f1")=>`(tactic| first
 | exists 1,"ä ű ľ yby ŉ yet Ů ļ yel ye1 ų ŋ ya8 ybs ybr ybd ybf Ŋ jq Đ ă İ ĵ Ď Ń Ý ċ")
local macro_rules | `(tactic| walk_at "f2")=>`(tactic| first
 | exists 1,"Ü ã ŵ Ŭ ĺ ņ ybg ybl Ŀ ń yef yes ū Ŵ į Ķ yer yek yej yep Ű ŭ Ĺ Ņ ybt ybn yba ybv ybu ybk ya9 ybo ybw ybx ł Ł jo jp č ď ą Ą ň Ļ Ĵ ĳ ć Ċ Ň ķ à ß Ĉ Ć")
local macro_rules | `(tactic| walk_at "f3")=>`(tactic| first
 | exists 3,"ypk yk0 yv6 va6 yqm vb5 vbu ykv yjt ylg")
local macro_rules | `(tactic| walk_at "rd1")=>`(tactic| first | ((with_reducible refine gRd ?_); walk_at "f1") | ((with_reducible refine gSt ?_); walk_at "f2") | ((with_reducible refine gMt ?_); walk_at "f3"))
open SpanMath
def But (p:Addr) (H H':Hp):Prop:=∀ b o,H b=some o->b≠p->H' b=some o
theorem But.refl {H:Hp}:But p H H:=fun _ _ h _=>h
theorem But.of {H H':Hp} (s:yq H H'):But p H H':=fun b o h _=>s b o h
theorem But.trans {H H1 H2:Hp} (x:But p H H1) (y:But p H1 H2):But p H H2:=fun b o h n=>y b o (x b o h n) n
theorem But.upd {H:Hp} {o:HO}:But p H (L2.upd H p o):=fun b u h n=>by rw [yk n]; exact h
theorem But.seq {l dx:Addr} {fs:List (Str × V)} {H H':Hp} {xs:List V} (e:But p H H') (hp:H p=some (.ins C dx fs)) (h:SqL K H l xs):SqL K H' l xs:=by
 rcases h with (h | ⟨o,h⟩) | h
 .exact .inl (.inl (e _ _ h (wu h hp (by intro z; cases z))))
 .exact .inl (.inr ⟨o,e _ _ h (wu h hp (by intro z; cases z))⟩)
 .exact .inr h
theorem But.tup {l dx:Addr} {fs:List (Str × V)} {H H':Hp} {xs:List V} (e:But p H H') (hp:H p=some (.ins C dx fs)) (h:H l=some (.tup xs)):H' l=some (.tup xs):=e _ _ h (wu h hp (by intro z; cases z))
theorem But.lst {l dx:Addr} {fs:List (Str × V)} {H H':Hp} {xs:List V} (e:But p H H') (hp:H p=some (.ins C dx fs)) (h:H l=some (.lst xs)):H' l=some (.lst xs):=e _ _ h (wu h hp (by intro z; cases z))
theorem uz {x:V} (h:zw x=true):∃ i,x=.int i:=by
 cases x with
 | int i=>exists i,rfl
 | _=>cases h
def Ø:V->Bool
 | .int i=>decide (0 <= i) && decide (i <= 1)
 | _=>false
def chV:V->Bool
 | .int i=>decide (32768 <= i) && decide (i <= 16744448)
 | _=>false
inductive yaf (K:W.Frag) (vs:List V) (H:Hp) (Q:VK) (E':XK):Prop
 | mk (x n:_) (_:vs=[x]) (_:xp K H x (.type n)) (_:Q (.bl (zw x)) H)
theorem yzm {i:Int} {H:Hp} {Q:VK} {E:XK} (h:Q (.bl true) H):yaf K [.int i] H Q E:=⟨_,_,rfl,.int i,h⟩
def z8 (x:Sn):List (Str × V):=[("low",.int x.1),("width",.int x.2.1),("size",.int x.2.2)]
theorem nWL:¬ (("width":Str)="low"):=by right
theorem nLW:¬ (("low":Str)="width"):=by right
theorem nSL:¬ (("size":Str)="low"):=by right
theorem nLS:¬ (("low":Str)="size"):=by right
theorem nSW:¬ (("size":Str)="width"):=by right
theorem nWS:¬ (("width":Str)="size"):=by right
theorem lkL (x:Sn):(z8 x).lookup ("low":Str)=some (.int x.1):=xk
theorem lkW (x:Sn):(z8 x).lookup ("width":Str)=some (.int x.2.1):=vz nWL xk
theorem lkS (x:Sn):(z8 x).lookup ("size":Str)=some (.int x.2.2):=vz nSL (vz nSW xk)
theorem lkN (x:Sn) {m:Str} (h1:¬ m="low") (h2:¬ m="width") (h3:¬ m="size"):(z8 x).lookup m=none:=vz h1 (vz h2 (vz h3 ü))
theorem pfL (x:Sn) (v:Int):jk "low" (.int v) (z8 x)=z8 (v,x.2.1,x.2.2):=xj
theorem pfW (x:Sn) (v:Int):jk "width" (.int v) (z8 x)=z8 (x.1,v,x.2.2):=y9 nLW xj
theorem pfS (x:Sn) (v:Int):jk "size" (.int v) (z8 x)=z8 (x.1,x.2.1,v):=y9 nLS (y9 nWS xj)
section
variable {H:Hp} {dx:Addr} {x:Sn} {P:V->Prop} {nx:St->Hp->Prop} {σ:St} {v:Int}
theorem rdL (T:Txt K mg a) (hp:H p=some (.ins a.A4 dx (z8 x))) (h:P (.int x.1)) :
  ∃ a' C dx fs v,V.ref p=.ref a'/\H a'=some (.ins C dx fs)/\Cls K C/\vd K C "low"/\fs.lookup ("low":Str)=some v/\P v:=⟨p,_,dx,_,_,rfl,hp,T.Ag,T.Bl,lkL x,h⟩
theorem rdW (T:Txt K mg a) (hp:H p=some (.ins a.A4 dx (z8 x))) (h:P (.int x.2.1)) :
  ∃ a' C dx fs v,V.ref p=.ref a'/\H a'=some (.ins C dx fs)/\Cls K C/\vd K C "width"/\fs.lookup ("width":Str)=some v/\P v:=⟨p,_,dx,_,_,rfl,hp,T.Ag,T.Av,lkW x,h⟩
theorem rdS (T:Txt K mg a) (hp:H p=some (.ins a.A4 dx (z8 x))) (h:P (.int x.2.2)) :
  ∃ a' C dx fs v,V.ref p=.ref a'/\H a'=some (.ins C dx fs)/\Cls K C/\vd K C "size"/\fs.lookup ("size":Str)=some v/\P v:=⟨p,_,dx,_,_,rfl,hp,T.Ag,T.Bb,lkS x,h⟩
theorem ve0 (T:Txt K mg a) (hp:H p=some (.ins a.A4 dx (z8 x))) (h:vj nx σ (upd H p (.ins a.A4 dx (z8 (v,x.2.1,x.2.2))))) :
  ∃ a' C dx fs,V.ref p=.ref a'/\H a'=some (.ins C dx fs)/\Cls K C/\vd K C "low"/\fs.length < 1000/\vj nx σ (upd H a' (.ins C dx (jk "low" (.int v) fs))):=⟨p,_,dx,z8 x,rfl,hp,T.Ag,T.Bl,by show 3 < 1000; decide,by rw [pfL]; exact h⟩
theorem vet (T:Txt K mg a) (hp:H p=some (.ins a.A4 dx (z8 x))) (h:vj nx σ (upd H p (.ins a.A4 dx (z8 (x.1,v,x.2.2))))) :
  ∃ a' C dx fs,V.ref p=.ref a'/\H a'=some (.ins C dx fs)/\Cls K C/\vd K C "width"/\fs.length < 1000/\vj nx σ (upd H a' (.ins C dx (jk "width" (.int v) fs))):=⟨p,_,dx,z8 x,rfl,hp,T.Ag,T.Av,by show 3 < 1000; decide,by rw [pfW]; exact h⟩
theorem vez (T:Txt K mg a) (hp:H p=some (.ins a.A4 dx (z8 x))) (h:vj nx σ (upd H p (.ins a.A4 dx (z8 (x.1,x.2.1,v))))) :
  ∃ a' C dx fs,V.ref p=.ref a'/\H a'=some (.ins C dx fs)/\Cls K C/\vd K C "size"/\fs.length < 1000/\vj nx σ (upd H a' (.ins C dx (jk "size" (.int v) fs))):=⟨p,_,dx,z8 x,rfl,hp,T.Ag,T.Bb,by show 3 < 1000; decide,by rw [pfS]; exact h⟩
end
local macro_rules | `(tactic| walk_at "rd1")=>`(tactic| first
 | exists 1,"rdL rdW rdS ve0 vet"
 | (with_reducible refine' vez (by assumption) ?rdh ?_; (case rdh=>first | assumption | exact ya)))
inductive Slt where
 | ev (n o:Int)
 | qk (h:Int)
 | rn (l n:Int)
def Slt.ok:Slt->Prop
 | .ev n o=>0 <= n/\0 <= o/\n+o <= 255
 | .qk h=>32768 <= h/\h <= 16744448
 | .rn l n=>0 <= l/\l <= 1/\0 <= n/\n <= 255
def Ñ (n:Int):Int:=(2 * n+1) * 16777216 / (2 * n+2)
def Slt.due:Slt->Int
 | .ev n o=>(2 * o+1) * 16777216 / (2 * (n+o)+2)
 | .qk h=>h
 | .rn l n=>if l=1 then Ñ n else 16777216 - Ñ n
def ycj (n o:Int):Slt:=if 255 < n+o then .ev ((n+1) / 2) ((o+1) / 2) else .ev n o
def ydu (m:Int):Int:=if 16744448 < (if 32768 > m then 32768 else m) then 16744448 else (if 32768 > m then 32768 else m)
def Slt.see:Slt->Int->Slt
 | .ev n o,b=>if b=1 then ycj n (o+1) else ycj (n+1) o
 | .qk h,b=>.qk (ydu (if b=1 then h+(16777216 - h) / 16 else h - h / 16))
 | .rn l n,b=>if b=l then .rn l (if 255 < n+1 then 255 else n+1) else .rn b 1
def oS (a:Ads) (dx:Addr):Slt->HO
 | .ev n o=>.ins a.A9 dx (z7 (.int n) (.int o))
 | .qk h=>.ins a.A8 dx (uo (.int h))
 | .rn l n=>.ins a.Af dx (ÿ (.int l) (.int n))
theorem ycv {n o:Int} (h1:0 <= n) (h2:0 <= o) (h3:n+o <= 256):(ycj n o).ok:=by
 unfold ycj
 split
 .exists by omega,by omega,by omega
 .exists h1,h2,by omega
theorem ygs (m:Int):32768 <= ydu m/\ydu m <= 16744448:=by
 unfold ydu
 split <;> split <;> omega
theorem Slt.see_ok {s:Slt} {b:Int} (h:s.ok) (b0:0 <= b) (b1:b <= 1):(s.see b).ok:=by
 cases s with
 | ev n o =>
  obtain ⟨c,a,d⟩:=h;unfold Slt.see;dsimp only
  split
  .exact ycv c (by omega) (by omega)
  .exact ycv (by omega) a (by omega)
 | qk h0=>exact ygs _
 | rn l n =>
  obtain ⟨c,a,d,e⟩:=h;unfold Slt.see;dsimp only
  split
  .refine ⟨c,a,?_,?_⟩ <;> split <;> omega
  .exists b0,b1,by decide,by decide
def kdS:Fin 3->Str
 | 0=>"even"
 | 1=>"quick"
 | 2=>"run"
def kd0:Fin 3->Slt
 | 0=>.ev 0 0
 | 1=>.qk 8388608
 | 2=>.rn 1 0
theorem ynq (k:Fin 3):(kd0 k).ok:=by
 match k with
 | 0=>exists by decide,by decide,by decide
 | 1=>exists by decide,by decide
 | 2=>exists by decide,by decide,by decide,by decide
theorem ytz {b:Int} (b0:0 <= b) (b1:b <= 1):Ø (.int b)=true:=by
 simp only [Ø,bO,decide_eq_true_eq];omega
theorem yd2 {x:V} (h:Ø x=true):∃ b:Int,x=.int b/\0 <= b/\b <= 1:=by
 cases x with
 | int i =>
  simp only [Ø,bO,decide_eq_true_eq] at h;exact ⟨i,rfl,h.1,h.2⟩
 | _=>cases h
inductive Ŗ (C:Addr) (F:List (Str × V)) (vs:List V) (H:Hp) (Q:VK) (E':XK):Prop
 | mk (p dx:Addr) (_:vs=[.ref p]) (_:H p=some (.ins C dx [])) (_:∀ H',H' p=some (.ins C dx F)->But p H H'->Q .non H')
inductive xy (o:Addr->Slt->HO) (g:Slt->Prop) (vs:List V) (H:Hp) (Q:VK) (E':XK):Prop
 | mk (p dx:Addr) (s:Slt) (_:vs=[.ref p]) (_:g s) (_:s.ok) (_:H p=some (o dx s)) (_:Q (.int s.due) H)
inductive jd (K:W.Frag) (o:Addr->Slt->HO) (g:Slt->Prop) (C:Addr) (vs:List V) (H:Hp) (Q:VK) (E:XK):Prop
 | mk (p dx:Addr) (s:Slt) (x:V) (n:String) (_:vs=[.ref p,x]) (_:g s) (_:s.ok) (_:H p=some (o dx s)) (_:xp K H x (.type n)) (_:(∀ b:Int,x=.int b->0 <= b->b <= 1->∀ H',H' p=some (o dx (s.see b))->But p H H'->Q .non H')) (_:(Ø x=false->E (.ref C) none H))
def var:Slt->Prop
 | .ev _ _=>True
 | _=>False
def va0:Slt->Prop
 | .qk _=>True
 | _=>False
def vay:Slt->Prop
 | .rn _ _=>True
 | _=>False
def ya6 (bs:List Int):Prop:=∀ b∈bs,0 <= b/\b <= 1
theorem xa {n:Nat} (h:n <= 16000000):n <= sizeLine:=bN h (by decide)
theorem y8 {n:Nat} (h:n <= 16000000):n < sizeLine:=Nat.lt_of_le_of_lt h (by decide)
theorem jm {ns:List Int} {x:V} (h:(ns.map V.int)[i]?=some x):∃ n,x=.int n/\n∈ns/\ns[i]?=some n/\i < ns.length:=by
 rw [br] at h
 cases e:ns[i]? with
 | none=>rw [e] at h; cases h
 | some n =>
  rw [e] at h
  have a:i < ns.length:=by
   rcases Nat.lt_or_ge i ns.length with q | q
   .exact q
   .rw [bV q] at e; cases e
  exists n,(bF h).symm,bI e,rfl,a
theorem Æ {l:List Int} {q:Int} (h:l[i]?=some q):l.take (i+1)=l.take i++[q]:=by
 rw [List.take_add_one,h];rfl
theorem yku {ys:List Int} (h1:ya6 xs) (h2:ya6 ys):ya6 (xs++ys):=fun b a=>by
 rcases bP.mp a with h | h
 .exact h1 b h
 .exact h2 b h
theorem yf0 (c:Int) (n:Nat):(List.replicate n [V.int c]).flatten=(List.replicate n c).map V.int:=by
 induction n with
 | zero=>rfl
 | succ n ih=>rw [ci,List.flatten_cons,ih,ci]; rfl
def yn4 (sg:List Int) (p:Int):Int:=if p <= sg.length then (atI sg (-p)).getD 256 else 256
theorem yqd {α β:Type} (f:α->β) (xs:List α) (i:Int):atI (xs.map f) i=(atI xs i).map f:=by
 unfold atI;rw [bf]
 cases ixN xs.length i with
 | none=>rfl
 | some j =>
  show (xs.map f)[j]?=(xs[j]?).map f;rw [br]
theorem yk2 {sg:List Int} {p:Int} (h1:1 <= p) (h2:p <= sg.length):∃ c,atI sg (-p)=some c/\c∈sg:=by
 unfold atI ixN;rw [if_neg (by omega)];by_cases h:-(sg.length:Int) <= -p
 .rw [if_pos (by omega)];have a:((-p+(sg.length:Int)).toNat) < sg.length:=by omega
  exists _,bo a,cg a
 .omega
def Slt.kind:Slt->Fin 3
 | .ev _ _=>0
 | .qk _=>1
 | .rn _ _=>2
theorem yjx (s:Slt) (b:Int):(s.see b).kind=s.kind:=by
 cases s with
 | ev n o =>
  unfold Slt.see ycj;dsimp only
  split <;> split <;> rfl
 | qk h=>rfl
 | rn l n =>
  unfold Slt.see;dsimp only
  split <;> rfl
theorem yje (k:Fin 3):(kd0 k).kind=k:=by
 match k with
 | 0=>rfl
 | 1=>rfl
 | 2=>rfl
theorem ħ (a:Ads) (dx:Addr) (s:Slt):∃ C fs,oS a dx s=.ins C dx fs:=by
 cases s <;> exact ⟨_,_,rfl⟩
theorem yd4 {s:Slt} (h:s.ok):32768 <= s.due/\s.due <= 16744448:=by
 cases s with
 | ev n o =>
  obtain ⟨c,d,b⟩:=h;unfold Slt.due;dsimp only;have a:(0:Int) < 2 * (n+o)+2:=by omega
  constructor
  .rw [Int.le_ediv_iff_mul_le a];omega
  .have:(2 * o+1) * 16777216 / (2 * (n+o)+2) < 16744449:=by
    rw [Int.ediv_lt_iff_lt_mul a];omega
   omega
 | qk h0=>exact h
 | rn l n =>
  obtain ⟨c,d,b,e⟩:=h;have a:(0:Int) < 2 * n+2:=by omega
  have g1:8388608 <= Ñ n:=by
   unfold Ñ;rw [Int.le_ediv_iff_mul_le a];omega
  have g2:Ñ n < 16744449:=by
   unfold Ñ;rw [Int.ediv_lt_iff_lt_mul a];omega
  unfold Slt.due;dsimp only
  split <;> omega
theorem ygr {dx:Addr} {s:Slt} {ta:TE} {σ:St} {H:Hp} {Q:VK} {E1 E2 E3:XK} (hta:∀ Q':VK,Q' (.ref p) H->ta σ H Q') (hp:H p=some (oS a dx s)) (ok:s.ok) (h:Q (.int s.due) H) :
  ytn (yce a.A9 "chance" (xy (oS a) var) [] E1 ta yn7) (ytn (yce a.A8 "chance" (xy (oS a) va0) [] E2 ta yn7) (yce a.Af "chance" (xy (oS a) vay) [] E3 ta yn7)) σ H Q:=by
 cases s with
 | ev n o=>exact ydo (yds (hta _ ⟨p,dx,_,rfl,hp,ĉ,p,dx,.ev n o,rfl,trivial,ok,hp,h⟩))
 | qk h0=>exact ġ (ydo (yds (hta _ ⟨p,dx,_,rfl,hp,á,p,dx,.qk h0,rfl,trivial,ok,hp,h⟩)))
 | rn l n=>exact ġ (ġ (yds (hta _ ⟨p,dx,_,rfl,hp,ŀ,p,dx,.rn l n,rfl,trivial,ok,hp,h⟩)))
theorem yqi {dx:Addr} {s:Slt} {ta:TE} {t:TA} {σ:St} {H:Hp} {Q:VK} {E1 E2 E3:St->XK} {x:V} {n:String} (hta:∀ Q':VK,Q' (.ref p) H->ta σ H Q') (ht:∀ Q':List V->Hp->Prop,Q' [x] H->t σ H Q') (hp:H p=some (oS a dx s)) (ok:s.ok) (ty:xp K H x (.type n))
  (h:∀ b:Int,x=.int b->0 <= b->b <= 1->∀ H',H' p=some (oS a dx (s.see b))->But p H H'->Q .non H') (h1:Ø x=false->E1 σ (.ref a.Bz) none H) (h2:Ø x=false->E2 σ (.ref a.Bz) none H) (h3:Ø x=false->E3 σ (.ref a.Bz) none H) :
  ytn (ya1 a.A9 "seen" (jd K (oS a) var a.Bz) [] E1 ta t) (ytn (ya1 a.A8 "seen" (jd K (oS a) va0 a.Bz) [] E2 ta t) (ya1 a.Af "seen" (jd K (oS a) vay a.Bz) [] E3 ta t)) σ H Q:=by
 cases s with
 | ev n o=>exact ydo (Ť (hta _ ⟨p,dx,_,rfl,hp,Ÿ,ht _ ⟨p,dx,.ev n o,x,_,rfl,trivial,ok,hp,ty,h,h1⟩⟩))
 | qk h0=>exact ġ (ydo (Ť (hta _ ⟨p,dx,_,rfl,hp,Ľ,ht _ ⟨p,dx,.qk h0,x,_,rfl,trivial,ok,hp,ty,h,h2⟩⟩)))
 | rn l n=>exact ġ (ġ (Ť (hta _ ⟨p,dx,_,rfl,hp,ybm,ht _ ⟨p,dx,.rn l n,x,_,rfl,trivial,ok,hp,ty,h,h3⟩⟩)))
theorem yul {x:Sn} {c b:Int} (h:Ok x):(nar x c b).2.2 <= x.2.2+2:=by
 unfold nar ren;have:=h.z
 (repeat' split) <;> (dsimp only; omega)
abbrev tMx:Nat:=100000
theorem ycu {k:Nat} (h:k <= 6):pw k <= 281474976710656:=Int.le_trans (yhu h) (by decide)
theorem yjo (xs:List Int) (y:Int):xs.map V.int++[V.int y]=(xs++[y]).map V.int:=by simp
theorem yqg (xs:List Int):(xs.map V.int).reverse=xs.reverse.map V.int:=by simp
def gvv (c b:Int):Int:=if b=1 then c else 16777216 - c
theorem yb2 {x:V} (h:chV x=true):∃ c,x=.int c/\32768 <= c/\c <= 16744448:=by
 cases x with
 | int i =>
  simp only [chV,bO,decide_eq_true_eq] at h;exact ⟨i,rfl,h.1,h.2⟩
 | _=>cases h
theorem ycx {x:V} (h:Ø x=true):∃ b,x=.int b/\0 <= b/\b <= 1:=by
 cases x with
 | int i =>
  simp only [Ø,bO,decide_eq_true_eq] at h;exact ⟨i,rfl,h.1,h.2⟩
 | _=>cases h
theorem ydp {c:Int} (h:Ch c):chV (.int c)=true:=by
 obtain ⟨b,a⟩:=h;simp only [chV,bO,decide_eq_true_eq];omega
theorem ycb {b:Int} (h1:0 <= b) (h2:b <= 1):Ø (.int b)=true:=by
 simp only [Ø,bO,decide_eq_true_eq];omega
theorem Ð {H H':Hp} {v:V} {n:String} (S:yq H H') (t:xp K H v (.type n)):xp K H' v (.type n):=by
 cases t with
 | non=>exact .non
 | bl b=>exact .bl b
 | int i=>exact .int i
 | str x=>exact .str x
 | flt x=>exact .flt x
 | lst e=>exact .lst (S _ _ e)
 | frz e=>exact .frz (S _ _ e)
 | tup e=>exact .tup (S _ _ e)
 | dK e=>exact .dK (S _ _ e)
 | dT e=>exact .dT (S _ _ e)
def sgV:V->Bool
 | .int i=>decide (0 <= i) && decide (i <= 255)
 | _=>false
def Typed (K:W.Frag) (H:Hp) (xs:List V):Prop:=∀ y∈xs,∃ k:String,xp K H y (.type k)
theorem Typed.same {H H':Hp} {xs:List V} (t:Law.Typed K H xs) (S:yq H H'):Law.Typed K H' xs:=fun y a=>let ⟨k,z⟩:=t y a; ⟨k,Ð S z⟩
theorem ė {H:Hp} (ns:List Int):Typed K H (ns.map V.int):=fun y a=>by
 obtain ⟨i,_,rfl⟩:=bq.mp a;exists _,.int i
def Bad (K:W.Frag) (H:Hp) (x:V) (n:String) (m:Int):Prop:=n≠"list"\/∃ p xs,x=.ref p/\H p=some (.lst xs)/\Typed K H xs/\xs.length <= 100000/\(decide ((xs.length:Int) <= m) && xs.all sgV)=false
def Good (K:W.Frag) (H:Hp) (x:V) (xs:List V) (m:Int):Prop:=∃ p,x=.ref p/\H p=some (.lst xs)/\Typed K H xs/\xs.length <= 100000/\(decide ((xs.length:Int) <= m) && xs.all sgV)=true
theorem Bad.same {H H':Hp} {x:V} {n:String} {m:Int} (h:Law.Bad K H x n m) (S:yq H H'):Law.Bad K H' x n m:=by
 rcases h with h | ⟨p,b,e,a,t,r⟩
 .exact .inl h
 .exact .inr ⟨p,b,e,S _ _ a,t.same S,r⟩
theorem Good.same {H H':Hp} {x:V} {xs:List V} {m:Int} (h:Law.Good K H x xs m) (S:yq H H'):Law.Good K H' x xs m:=by
 obtain ⟨p,e,a,t,r⟩:=h;exists p,e,S _ _ a,t.same S,r
theorem yo6 {H:Hp} {x:V} {n:String} (ty:xp K H x (.type n)):W.kitOne K (.type n) (.type "list")=some (decide (n="list")):=by
 cases ty <;> rfl
theorem yj5 {n:Nat} (h:n <= 100000):n < sizeLine:=Nat.lt_of_le_of_lt h (by decide)
theorem ycw {xs:List V} (n:Nat):yd7 xs (some (n:Int)) none=xs.drop n:=by
 unfold yd7;rw [HT.sIx_nat,HT.sIx_none];by_cases h:n <= xs.length
 .rw [Nat.min_eq_left h,cE (by rw [cM]; exact bp _)]
 .rw [Nat.min_eq_right (by omega),Nat.sub_self,List.take_zero,List.drop_of_length_le (by omega)]
theorem yg2 {ns:List Int} (h:∀ i∈ns,0 <= i/\i <= 255):(ns.map V.int).all sgV=true:=by
 rw [List.all_map,List.all_eq_true];intro i a;obtain ⟨b,c⟩:=h i a;simp [sgV,b,c]
inductive Ě (K:W.Frag) (C:Addr) (m:Int) (vs:List V) (H:Hp) (Q:VK) (E:XK):Prop
 | mk (x n:_) (_:vs=[x]) (_:xp K H x (.type n)) (_:((Bad K H x n m/\∀ H',yq H H'->E (.ref C) none H')\/∃ xs,Good K H x xs m/\∀ r H',H r=none->H' r=some (.lst xs)->yq H H'->Q (.ref r) H'))
def ya5 (p q:Addr) (H H':Hp):Prop:=∀ b o,H b=some o->b≠p->b≠q->H' b=some o
theorem But.two {H H':Hp} (h:But p H H'):ya5 p q H H':=fun b o e n _=>h b o e n
theorem But.two' {H H':Hp} (h:But q H H'):ya5 p q H H':=fun b o e _ n=>h b o e n
theorem ya5.trans {H H1 H2:Hp} (x:ya5 p q H H1) (y:ya5 p q H1 H2):ya5 p q H H2:=fun b o h n m=>y b o (x b o h n m) n m
theorem ya5.same {H H1 H2:Hp} (x:ya5 p q H H1) (y:yq H1 H2):ya5 p q H H2:=fun b o h n m=>y b o (x b o h n m)
theorem ya5.of {H H':Hp} (s:yq H H'):ya5 p q H H':=fun b o h _ _=>s b o h
structure ya4 (a:Ads) (H:Hp) (p dx pd ps ds:Addr) (d:List Int) (x:Sn):Prop where
 me:H p=some (.ins a.Ab dx (yfd (.ref pd) (.ref ps) (.int (rn d (sz x))) (.int x.2.2)))
 dt:H pd=some (.lst (d.map V.int))
 sp:H ps=some (.ins a.A4 ds (z8 x))
 ne:p≠ps
theorem ya4.same {H H':Hp} {dx pd ps:Addr} {d:List Int} {x:Sn} (h:ya4 a H p dx pd ps ds d x) (S:yq H H'):ya4 a H' p dx pd ps ds d x:=⟨S _ _ h.me,S _ _ h.dt,S _ _ h.sp,h.ne⟩
section
variable {H H':Hp} {dx pd ps:Addr} {d:List Int} {x:Sn}
theorem ya4.lst (h:ya4 a H p dx pd ps ds d x) (B:ya5 p ps H H') {l:Addr} {xs:List V} (e:H l=some (.lst xs)):H' l=some (.lst xs):=B _ _ e (wu e h.me (by intro z; cases z)) (wu e h.sp (by intro z; cases z))
theorem ya4.tup (h:ya4 a H p dx pd ps ds d x) (B:ya5 p ps H H') {l:Addr} {xs:List V} (e:H l=some (.tup xs)):H' l=some (.tup xs):=B _ _ e (wu e h.me (by intro z; cases z)) (wu e h.sp (by intro z; cases z))
theorem ya4.seq (h:ya4 a H p dx pd ps ds d x) (B:ya5 p ps H H') {l:Addr} {xs:List V} (e:SqL K H l xs):SqL K H' l xs:=by
 rcases e with (e | ⟨o,e⟩) | e
 .exact .inl (.inl (h.lst B e))
 .exact .inl (.inr ⟨o,B _ _ e (wu e h.me (by intro z; cases z)) (wu e h.sp (by intro z; cases z))⟩)
 .exact .inr e
theorem ya4.but (h:ya4 a H p dx pd ps ds d x) {fs:List (Str × V)} (hq:H q=some (.ins C dq fs)) (B:But q H H') (n1:p≠q) (n2:ps≠q):ya4 a H' p dx pd ps ds d x:=⟨B _ _ h.me n1,B.lst hq h.dt,B _ _ h.sp n2,h.ne⟩
end
theorem yk8 {H:Hp} {d:List Int} (h:H p=some (.lst (d.map V.int))) (hb:Byt d) (hz:d.length <= 12000):Good K H (.ref p) (d.map V.int) 12000 :=
 ⟨p,rfl,h,ė d,by rw [bf]; omega,by rw [yg2 hb,bf,bx (by omega)]; rfl⟩
def Sgs (ns:List Int):Prop:=∀ i∈ns,0 <= i/\i <= 255
def wth:List Int:=[128,64,32,16,8,4,2,1]
def b8 (s:Int):List Int:=wth.map (fun w=>s / w % 2)
def dec:List Int->List Int
 | []=>[0]
 | s :: r=>(1 :: b8 s)++dec r
def nds:Int->List Int->List Int
 | _,[]=>[]
 | n,b :: r=>n :: nds (2 * n+b) r
def ya7:List Int->List Int
 | []=>[]
 | s :: r=>(1 :: b8 s)++ya7 r
theorem yln:∀ ns,dec ns=ya7 ns++[0]
 | []=>rfl
 | s :: r=>by simp [dec,ya7,yln r]
theorem yam (s:Int):∀ ns,ya7 (ns++[s])=ya7 ns++(1 :: b8 s)
 | []=>by simp [ya7]
 | t :: r=>by simp [ya7,yam s r]
theorem yms (s:Int):(b8 s).length=8:=rfl
theorem jb:∀ ns:List Int,(ya7 ns).length=9 * ns.length
 | []=>rfl
 | s :: r=>by
  show ((1 :: b8 s)++ya7 r).length=9 * (r.length+1);rw [bj,jb r];show 9+_=_;omega
theorem yq0 (s:Int):ya6 (b8 s):=fun b c=>by
 obtain ⟨w,_,rfl⟩:=bq.mp c;have a:0 <= s / w % 2:=cH _ (by decide);have d:s / w % 2 < 2:=cr _ (by decide);exists a,by omega
theorem ξ:∀ ns,ya6 (dec ns)
 | []=>fun b a=>by rw [bJ.mp a]; decide
 | s :: r=>by
  refine yku (fun b a=>?_) (ξ r);rcases bB.mp a with rfl | a
  .decide
  .exact yq0 s b a
theorem va2 {s:Int} (h0:0 <= s) (h1:s <= 255):128 * (s / 128 % 2)+(64 * (s / 64 % 2)+(32 * (s / 32 % 2)+(16 * (s / 16 % 2)+(8 * (s / 8 % 2)+(4 * (s / 4 % 2)+(2 * (s / 2 % 2)+(1 * (s / 1 % 2)+0)))))))=s:=by
 have h:∀ n:Nat,n < 256->128 * ((n:Int) / 128 % 2)+(64 * ((n:Int) / 64 % 2)+(32 * ((n:Int) / 32 % 2)+(16 * ((n:Int) / 16 % 2)+(8 * ((n:Int) / 8 % 2)+(4 * ((n:Int) / 4 % 2)+(2 * ((n:Int) / 2 % 2)+(1 * ((n:Int) / 1 % 2)+0)))))))=(n:Int):=by right
 obtain ⟨n,rfl⟩:=Int.eq_ofNat_of_zero_le h0;exact h n (by omega)
def wV (s:Int):V->V
 | .int w=>.int (s / w % 2)
 | _=>.non
theorem ycm {H:Hp} {d:List Int} (h:H p=some (.lst (d.map V.int))) (hb:Sgs d) (hz:d.length <= 1000):Good K H (.ref p) (d.map V.int) 1000 :=
 ⟨p,rfl,h,ė d,by rw [bf]; omega,by rw [yg2 hb,bf,bx (by omega)]; rfl⟩
theorem yj9 (xs ys:List Int):xs.map V.int++ys.map V.int=(xs++ys).map V.int:=by simp
theorem ur (ns:List Int):(dec ns).length=9 * ns.length+1:=by rw [yln,bj,jb]; rfl
def ũ (f:List Int->Option Slt) (k:List Int) (s:Slt):List Int->Option Slt:=fun j=>if j=k then some s else f j
def yn8:HO->Bool
 | .ins _ _ _=>true
 | .dT _=>true
 | _=>false
def kI (k:List Int):List Key:=k.map Sum.inl
theorem yva (k:List Int):(kI k).map kV=k.map V.int:=by
 unfold kI;rw [bS];rfl
theorem yni {j k:List Int} (h:kI j=kI k):j=k:=by
 unfold kI at h
 induction j generalizing k with
 | nil =>
  cases k with
  | nil=>rfl
  | cons _ _=>cases h
 | cons x r ih =>
  cases k with
  | nil=>cases h
  | cons y s =>
   injection h with h1 h2;injection h1 with h1;rw [h1,ih h2]
def ytm (H:Hp) (d:Addr):Prop:=∀ kvs,H d=some (.dT kvs)->(kvs.map (·.1)).Nodup/\∀ q∈kvs,∃ k,q.1=kI k
theorem ytm.mv {H H':Hp} {d:Addr} {kvs:List (List Key × V)} (h:ytm H d) (h1:H d=some (.dT kvs)) (h2:H' d=some (.dT kvs)):ytm H' d:=fun a e=>by
 rw [h2] at e;cases e;exact h kvs h1
theorem yk3 {kvs:List (List Key × V)} {k:List Key} (h:zz kvs k=none):k∉kvs.map (·.1):=fun m=>by
 obtain ⟨p,b,e⟩:=bq.mp m;have a:=jc k kvs;rw [h] at a;exact List.any_eq_false.mp a p b (bx e)
theorem ytm.snoc {H':Hp} {d:Addr} {kvs:List (List Key × V)} {k:List Int} {v:V} (h:(kvs.map (·.1)).Nodup/\∀ q∈kvs,∃ k,q.1=kI k) (hn:zz kvs (kI k)=none) (h2:H' d=some (.dT (Ă kvs (kI k) v))):ytm H' d:=fun a e=>by
 rw [h2,ŏ _ hn] at e;cases e;rw [bz];exists List.nodup_append.mpr ⟨h.1,cA.mpr ⟨List.not_mem_nil,List.nodup_nil⟩,fun x b y c z=>?_⟩,fun q f=>?_
 .rw [z,bJ.mp c] at b;exact yk3 hn b
 .rcases bP.mp f with w | w
  .exact h.2 q w
  .rw [bJ.mp w];exists k,rfl
structure ω (a:Ads) (H:Hp) (p dx lk d:Addr) (kd:Fin 3) (f:List Int->Option Slt) (O:Addr->Prop) (m:Nat):Prop where
 me:H p=some (.ins a.Aa dx (ģ (.ref lk) (.ref d)))
 own:∀ b,O b->∃ o,H b=some o/\yn8 o=true
 np:¬ O p
 dO:O d
 ky:ytm H d
 tb:∃ (kvs:List (List Key × V)) (loc:List Int->Addr × Addr),H d=some (.dT kvs)/\kvs.length <= m/\(∀ k,f k=none->zz kvs (kI k)=none) /\
  (∀ k s,f k=some s->zz kvs (kI k)=some (.ref (loc k).1)/\H (loc k).1=some (oS a (loc k).2 s)/\s.ok/\s.kind=kd/\O (loc k).1)/\(∀ k j s t,f k=some s->f j=some t->(loc k).1=(loc j).1->k=j)
def yi7 (O:Addr->Prop) (H H':Hp):Prop:=∀ b o,H b=some o->¬ O b->H' b=some o
section
variable {H H':Hp} {dx lk d:Addr} {kd:Fin 3} {f:List Int->Option Slt} {O:Addr->Prop} {m:Nat}
theorem ω.frame (h:ω a H p dx lk d kd f O m) {O2:Addr->Prop} (B:yi7 O2 H H') (dj:∀ b,O b->¬ O2 b) (hp:¬ O2 p):ω a H' p dx lk d kd f O m:=by
 obtain ⟨g,e,c,y,l,w,z⟩:=h.tb;exists B _ _ h.me hp,fun b i=>?_,h.np,h.dO,h.ky.mv c (B _ _ c (dj _ h.dO)),g,e,B _ _ c (dj _ h.dO),y,l,fun k s n=>?_,z
 .obtain ⟨o,x,q⟩:=h.own b i;exists o,B _ _ x (dj b i),q
 .obtain ⟨u,t,r,v,j⟩:=w k s n;exists u,B _ _ t (dj _ j),r,v,j
theorem ω.same (h:ω a H p dx lk d kd f O m) (S:yq H H'):ω a H' p dx lk d kd f O m:=h.frame (O2:=fun _=>False) (fun b o e _=>S b o e) (fun _ _ z=>z) (fun z=>z)
theorem ω.lst (h:ω a H p dx lk d kd f O m) (B:yi7 O H H') {l:Addr} {xs:List V} (e:H l=some (.lst xs)):H' l=some (.lst xs):=B _ _ e fun z=>by
 obtain ⟨o,b,c⟩:=h.own l z;rw [e] at b;cases b;cases c
theorem ω.tup (h:ω a H p dx lk d kd f O m) (B:yi7 O H H') {l:Addr} {xs:List V} (e:H l=some (.tup xs)):H' l=some (.tup xs):=B _ _ e fun z=>by
 obtain ⟨o,b,c⟩:=h.own l z;rw [e] at b;cases b;cases c
end
open MixI
structure yfg (a:Ads) (p dx l:Addr) (ws:List Int) (H:Hp):Prop where
 o:H p=some (.ins a.Bu dx (van (.ref l)))
 l:H l=some (.lst (ws.map V.int))
theorem yfg.same {dx l:Addr} {ws:List Int} {H H':Hp} (m:yfg a p dx l ws H) (S:yq H H'):yfg a p dx l ws H':=⟨S _ _ m.o,S _ _ m.l⟩
theorem yfg.but {dx l:Addr} {ws:List Int} {H H':Hp} (m:yfg a p dx l ws H) (h:p≠q) {fs:List (Str × V)} (hq:H q=some (.ins C dq fs)) (B:But q H H'):yfg a p dx l ws H':=⟨B _ _ m.o h,B.lst hq m.l⟩
theorem yx6 {k:Nat} {cs:List Int} (h:COk k cs) {c:Int} (hm:c∈cs):Ch c:=⟨h.lo c hm,h.hi c hm⟩
theorem yn0 {g:Int->Int->Int} {ws cs:List Int} (h:cs.length=ws.length):(List.range (ws.map V.int).length).map (fun i=>V.int (g ((ws[i]?).getD 0) ((cs[i]?).getD 0)))=(List.zipWith g ws cs).map V.int:=by
 rw [bf,<- ygu h,bS];rfl
theorem yc0 {H:Hp} {xs ys:List V} (h:H D=some (.lst xs)) (e:xs=ys):H D=some (.lst ys):=e ▸ h
inductive yfx (K:W.Frag) (a:Ads) (vs:List V) (H:Hp) (Q:VK) (E':XK):Prop
 | mk (p dx l c:Addr) (ws cs:List Int) (k:Nat) (_:vs=[.ref p,.ref c]) (_:1 <= k) (_:k <= 6) (_:WOk k ws) (_:COk k cs) (_:yfg a p dx l ws H) (_:SqL K H c (cs.map V.int)) (_:∀ H',yq H H'->Q (.int (ylu ws cs)) H')
inductive yf5 (K:W.Frag) (a:Ads) (C:Addr) (vs:List V) (H:Hp) (Q:VK) (E:XK):Prop
 | mk (p dx l c:Addr) (ws cs:List Int) (k:Nat) (x:V) (n:String) (_:vs=[.ref p,.ref c,x]) (_:1 <= k) (_:k <= 6) (_:WOk k ws) (_:COk k cs) (_:yfg a p dx l ws H) (_:SqL K H c (cs.map V.int)) (_:xp K H x (.type n)) (_:(∀ b:Int,x=.int b->0 <= b->b <= 1->∀ l' H',H l'=none->yfg a p dx l' (lrn ws cs b) H'->But p H H'->Q .non H')) (_:(Ø x=false->E (.ref C) none H))
inductive yn9 (a:Ads) (vs:List V) (H:Hp) (Q:VK) (E':XK):Prop
 | mk (p dx l:Addr) (ws:List Int) (_:vs=[.ref p]) (_:yfg a p dx l ws H) (_:∀ r H',H r=none->H' r=some (.lst (ws.map V.int))->yq H H'->Q (.ref r) H')
inductive yjj (a:Ads) (vs:List V) (H:Hp) (Q:VK) (E':XK):Prop
 | mk (p dx:Addr) (k:Nat) (_:vs=[.ref p,.int k]) (_:1 <= k) (_:k <= 6) (_:H p=some (.ins a.Bu dx [])) (_:∀ l H',H l=none->yfg a p dx l (List.replicate k 1099511627776) H'->But p H H'->Q .non H')
def yi1:V->Bool
 | .str s=>inV (.str s) [V.str "even",V.str "quick",V.str "run"]
 | _=>false
def plV:V->Bool
 | .int i=>decide (1 <= i) && decide (i <= 8)
 | _=>false
def ltV:V->V->Bool
 | .int i,.int j=>decide (i < j)
 | _,_=>false
def vc9 (xs:List V):Bool:=(List.zipWith ltV xs xs.tail).all id
def x9 (xs:List V):Bool:=decide (xs.length <= 4) && xs.all plV && vc9 xs
def PlB (K:W.Frag) (H:Hp) (x:V) (b:Bool):Prop:=(∃ n,xp K H x (.type n)/\n≠"tuple"/\b=false)\/∃ t xs,x=.ref t/\H t=some (.tup xs)/\xs.length <= 1000/\(∀ y∈xs,∃ n:String,xp K H y (.type n))/\b=x9 xs
def LkB (K:W.Frag) (H:Hp) (x:V) (b:Bool):Prop:=(∃ n,xp K H x (.type n)/\n≠"tuple"/\b=false) \/
 ∃ t xs,x=.ref t/\H t=some (.tup xs)/\((xs.length≠2/\b=false)\/∃ y z n,xs=[y,z]/\xp K H y (.type n)/\((yi1 y=false/\b=false)\/(yi1 y=true/\PlB K H z b)))
theorem PlB.same {H H':Hp} {x:V} {b:Bool} (h:PlB K H x b) (S:yq H H'):PlB K H' x b:=by
 rcases h with ⟨n,t,a,e⟩ | ⟨t,i,e,j,d,f,g⟩
 .exact .inl ⟨n,Ð S t,a,e⟩
 .exact .inr ⟨t,i,e,S _ _ j,d,fun y c=>let ⟨n,z⟩:=f y c; ⟨n,Ð S z⟩,g⟩
theorem LkB.same {H H':Hp} {x:V} {b:Bool} (h:LkB K H x b) (S:yq H H'):LkB K H' x b:=by
 rcases h with ⟨n,t,c,e⟩ | ⟨t,g,e,j,h⟩
 .exact .inl ⟨n,Ð S t,c,e⟩
 .refine .inr ⟨t,g,e,S _ _ j,?_⟩;rcases h with h | ⟨y,z,n,d,a,h⟩
  .exact .inl h
  .refine .inr ⟨y,z,n,d,Ð S a,?_⟩;rcases h with h | ⟨f,i⟩
   .exact .inl h
   .exact .inr ⟨f,i.same S⟩
theorem Ú {H:Hp} {x:V} {n:String} (ty:xp K H x (.type n)):W.kitOne K (.type n) (.type "tuple")=some (decide (n="tuple")):=by cases ty <;> rfl
theorem ycq {H:Hp} {x:V} {n:String} (ty:xp K H x (.type n)):W.kitOne K (.type n) (.type "str")=some (decide (n="str")):=by cases ty <;> rfl
theorem ydd {H:Hp} {x:V} {n:String} (ty:xp K H x (.type n)):W.kitOne K (.type n) (.type "list")=some (decide (n="list")):=by cases ty <;> rfl
theorem ypl {xs:List V} {y:V} (h:xs.tail[i]?=some y):xs[i+1]?=some y:=by
 cases xs with
 | nil=>simp at h
 | cons x r=>simpa using h
theorem yg1 (xs:List V):(List.range xs.tail.length).map (fun i=>V.bl (ltV ((xs[i]?).getD .non) ((xs.tail[i]?).getD .non)))=(List.zipWith ltV xs xs.tail).map V.bl:=by
 apply List.ext_getElem
 .rw [bf,bU,bf,List.length_zipWith,List.length_tail]; omega
 .intro i a c;rw [bf,bU] at a;have b:i < xs.length:=by rw [List.length_tail] at a; omega
  rw [cK,List.getElem_range,cK,List.getElem_zipWith,bo a,bo b];rfl
theorem yhk {t u:Addr} {xs:List V} {te:TE} {fr:St} {R:Hp->Prop} {H1:Hp} (hint:∀ y∈xs,∃ i:Int,y=.int i) (hl:xs.length <= 1000) (ht:SqT K H1 t xs) (hu:SqT K H1 u xs.tail) (hD:H1 D=none)
  (hte:∀ (i j:Int) (σ':St) (H':Hp) (Q':VK),Q' (.bl (decide (i < j))) H'->te (some (.int i) :: some (.int j) :: σ') H' Q') (hR:∀ H,yq H1 H->H D=some (.lst ((List.zipWith ltV xs xs.tail).map V.bl))->R H) :
  jx (vao K t u) (ytw K 2 (jl (wj 0) (jl (wj 1) ylx))) te 2 fr D R H1:=by
 refine ybq (m:=xs.tail.length) (fun i=>V.bl (ltV ((xs[i]?).getD .non) ((xs.tail[i]?).getD .non))) ht hu (by rw [List.length_tail]; omega) (bp _) (.inr (bp _)) hD (fun i x y h l s w p r k a b g=>?_) (fun h k a=>?_)
 .obtain ⟨v,z,rfl⟩:=yiw g;obtain ⟨c,rfl⟩:=hint x (bI p);obtain ⟨d,rfl⟩:=hint y (bI (ypl r));have n:=k.trans (yx (o:=HO.tup [V.int c,V.int d]) b);have e:=uq (o':=HO.tup [V.int c,V.int d]) b a;have f:upd h l (HO.tup [V.int c,V.int d]) l=some (.tup [V.int c,V.int d]):=ya;generalize upd h l (HO.tup [V.int c,V.int d])=q at n e f;refine ya0 (SqT.of f) rfl ?_;show jl (wj 0) (jl (wj 1) ylx) [V.int c,V.int d] (v :: z :: fr) q _;rfl';exists ⟨[some (.int c),some (.int d)],rfl,rfl⟩,?_;refine hte c d fr q _ ?_;refine Mp.doneR hD (y8 (by rw [List.length_tail]; omega)) w n e ?_;rw [p,r];rfl
 .exact hR h k (by rw [<- yg1]; exact a)
theorem yp3 (xs:List V):yd7 xs (some 1) none=xs.tail:=by
 unfold yd7
 have e:HT.sIx xs.length 0 (some 1)=min 1 xs.length:=by
  have:=HT.sIx_nat xs.length 0 1;simpa using this
 rw [HT.sIx_none,e]
 cases xs with
 | nil=>rfl
 | cons x r=>simp
theorem ylk {n:Nat} (bs:List Bool) (h:n=bs.length):(List.range n).map (fun i=>V.bl ((bs[i]?).getD false))=bs.map V.bl:=by
 subst h;apply List.ext_getElem
 .rw [bf,bU,bf]
 .intro i a b;rw [bf,bU] at a;rw [cK,List.getElem_range,cK,bo a];rfl
def yfj (K:W.Frag) (H:Hp) (xs:List V) (bs:List Bool):Prop:=xs.length=bs.length/\∀ (i:Nat) (y:V) (b:Bool),xs[i]?=some y->bs[i]?=some b->LkB K H y b
theorem yfj.same {H H':Hp} {xs:List V} {bs:List Bool} (h:yfj K H xs bs) (S:yq H H'):yfj K H' xs bs:=⟨h.1,fun i y b c a=>(h.2 i y b c a).same S⟩
def LkG (H:Hp) (v:V) (kd:Fin 3) (tp:Addr) (ps:List Int):Prop:=∃ lk,v=.ref lk/\H lk=some (.tup [.str (kdS kd),.ref tp])/\H tp=some (.tup (ps.map V.int))/\x9 (ps.map V.int)=true
theorem LkG.same {H H':Hp} {v:V} {kd:Fin 3} {tp:Addr} {ps:List Int} (h:LkG H v kd tp ps) (S:yq H H'):LkG H' v kd tp ps:=by
 obtain ⟨d,e,c,b,a⟩:=h;exists d,e,S _ _ c,S _ _ b,a
theorem yp0 (kd:Fin 3):yi1 (.str (kdS kd))=true:=by
 match kd with
 | 0=>rfl
 | 1=>rfl
 | 2=>rfl
theorem xz {xs:List V} (h:x9 xs=true):xs.length <= 4:=by
 unfold x9 at h;rw [bO,bO] at h;exact of_decide_eq_true h.1.1
theorem LkG.tells {H:Hp} {v:V} {kd:Fin 3} {tp:Addr} {ps:List Int} (h:LkG H v kd tp ps):LkB K H v true:=by
 obtain ⟨b,e,d,f,a⟩:=h;have:=xz a;refine .inr ⟨b,_,e,d,.inr ⟨_,_,"str",rfl,.str _,.inr ⟨yp0 kd,.inr ⟨tp,_,rfl,f,by omega,fun y c=>?_,a.symm⟩⟩⟩⟩;obtain ⟨i,_,rfl⟩:=bq.mp c;exists _,.int i
theorem ynf:∀ {ps:List Int},ps.Pairwise (· < ·)->vc9 (ps.map V.int)=true
 | [],_=>rfl
 | [_],_=>rfl
 | p :: q :: r,h=>by
  have b:p < q:=(List.pairwise_cons.mp h).1 q (by simp);have a:=ynf (List.pairwise_cons.mp h).2;unfold vc9 at a ⊢;simp only [bW,List.tail_cons,List.zipWith_cons_cons,List.all_cons] at a ⊢;rw [show ltV (V.int p) (V.int q)=true from bx b];simpa using a
theorem ygc {ps:List Int} (h1:ps.length <= 4) (h2:∀ p∈ps,1 <= p/\p <= 8) (h3:ps.Pairwise (· < ·)):x9 (ps.map V.int)=true:=by
 unfold x9;rw [bf,bx h1,ynf h3,Bool.true_and,Bool.and_true,List.all_eq_true];intro y a;obtain ⟨i,b,rfl⟩:=bq.mp a;have:=h2 i b;show (decide (1 <= i) && decide (i <= 8))=true;rw [bx this.1,bx this.2];rfl
def Lks (H:Hp) (xs:List V):Prop:=∀ y∈xs,∃ kd tp ps,LkG H y kd tp ps
theorem Lks.same {H H':Hp} {xs:List V} (h:Lks H xs) (S:yq H H'):Lks H' xs:=fun y a=>let ⟨kd,tp,ps,z⟩:=h y a; ⟨kd,tp,ps,z.same S⟩
def dLk (kd:Fin 3) (ps:List Int):PyData:=.tuple [.str (kdS kd),.tuple (ps.map PyData.int)]
theorem LkG.rd {H:Hp} {v:V} {kd:Fin 3} {tp:Addr} {ps:List Int} (h:LkG H v kd tp ps):RdV K H v (dLk kd ps):=by
 obtain ⟨c,rfl,b,a,_⟩:=h;exact .tup (SqT.of b) (.cons (.str _) (.cons (.tup (SqT.of a) (z5 ps)) .nil))
theorem Lks.bs {H:Hp} {xs:List V} (h:Lks H xs):yfj K H xs (List.replicate xs.length true):=by
 exists by rw [List.length_replicate],fun i y b d a=>?_
 have c:b=true:=List.eq_of_mem_replicate (bI a);obtain ⟨f,g,e,z⟩:=h y (bI d);rw [c];exact z.tells
theorem yhi (n:Nat):(List.replicate n true).all id=true:=by simp
def vat (K:W.Frag) (H:Hp) (x:V):Prop:=(∃ n,xp K H x (.type n)/\n≠"list")\/∃ l xs bs,x=.ref l/\H l=some (.lst xs)/\xs.length <= 1000/\yfj K H xs bs/\¬ (1 <= xs.length/\xs.length <= 6/\bs.all id=true)
theorem vat.same {H H':Hp} {x:V} (h:vat K H x) (S:yq H H'):vat K H' x:=by
 rcases h with ⟨n,a,b⟩ | ⟨l,j,f,e,d,i,g,c⟩
 .exact .inl ⟨n,Ð S a,b⟩
 .exact .inr ⟨l,j,f,e,S _ _ d,i,g.same S,c⟩
theorem LkG.upd {H:Hp} {v:V} {kd:Fin 3} {tp l:Addr} {ps:List Int} {xs ys:List V} (h:LkG H v kd tp ps) (hl:H l=some (.lst xs)):LkG (L2.upd H l (.lst ys)) v kd tp ps:=by
 obtain ⟨d,e,b,a,c⟩:=h;exists d,e,yf (wu b hl (by intro z; cases z)) b,yf (wu a hl (by intro z; cases z)) a,c
theorem Lks.upd {H:Hp} {l:Addr} {xs ys zs:List V} (h:Lks H zs) (hl:H l=some (.lst xs)):Lks (L2.upd H l (.lst ys)) zs:=fun y a=>let ⟨kd,tp,ps,z⟩:=h y a; ⟨kd,tp,ps,z.upd hl⟩
theorem yfj.append {H:Hp} {xs ys:List V} {bs cs:List Bool} (h1:yfj K H xs bs) (h2:yfj K H ys cs):yfj K H (xs++ys) (bs++cs):=by
 exists by rw [bj,bj,h1.1,h2.1],fun i y b c a=>?_
 rcases Nat.lt_or_ge i xs.length with q | q
 .rw [cG q] at c;rw [cG (by rw [<- h1.1]; exact q)] at a;exact h1.2 i y b c a
 .rw [cb q] at c;rw [cb (by rw [<- h1.1]; exact q),<- h1.1] at a;exact h2.2 _ y b c a
theorem yfj.one {H:Hp} {v:V} {b:Bool} (h:LkB K H v b):yfj K H [v] [b]:=by
 exists rfl,fun i y d a c=>?_
 cases i with
 | zero =>
  cases a;cases c;exact h
 | succ j=>simp at a
def upN {α:Type} (g:Nat->α) (n:Nat) (x:α):Nat->α:=fun j=>if j=n then x else g j
theorem xh {α:Type} {g:Nat->α} {n:Nat} {x:α}:upN g n x n=x:=if_pos rfl
theorem xf {α:Type} {g:Nat->α} {n:Nat} {x:α} (h:j < n):upN g n x j=g j:=if_neg (by omega)
theorem yqu (c:Int):∃ kk:Fin 3,atI [V.str "even",V.str "quick",V.str "run"] (c % 3)=some (V.str (kdS kk)):=by
 have a:0 <= c % 3:=cH _ (by decide);have b:c % 3 < 3:=cr _ (by decide);generalize c % 3=z at a b;obtain rfl | rfl | rfl:z=0\/z=1\/z=2:=by omega
 .exact ⟨0,rfl⟩
 .exact ⟨1,rfl⟩
 .exact ⟨2,rfl⟩
def xl (H:Hp) (n:Nat) (lk:Nat->Addr) (kd:Nat->Fin 3) (tp:Nat->Addr) (ps:Nat->List Int):Prop:=∀ i,i < n->LkG H (.ref (lk i)) (kd i) (tp i) (ps i)
theorem xl.same {H H':Hp} {n:Nat} {lk:Nat->Addr} {kd:Nat->Fin 3} {ps:Nat->List Int} (h:xl H n lk kd tp ps) (S:yq H H'):xl H' n lk kd tp ps:=fun i a=>(h i a).same S
structure Sd (K:W.Frag) (H:Hp) (v:V) (d:PyData) (k:Nat):Prop where
 rd:RdV K H v d
 lay:d.canLay0=true
 dep:d.depth <= k
 eq:PyData.eqv d d=true
structure Sds (K:W.Frag) (H:Hp) (xs:List V) (ds:List PyData) (k:Nat):Prop where
 rd:yfe K H xs ds
 lay:PyData.canLayAll0 ds=true
 dep:PyData.depthAll ds <= k
 eq:PyData.eqvAll ds ds=true
theorem Sd.int {H:Hp} (i:Int) {k:Nat}:Sd K H (.int i) (.int i) k:=⟨.int i,by simp [PyData.canLay0],by simp [PyData.depth],by simp [PyData.eqv]⟩
theorem Sd.bl {H:Hp} (b:Bool) {k:Nat}:Sd K H (.bl b) (.bool b) k:=⟨.bl b,by simp [PyData.canLay0],by simp [PyData.depth],by simp [PyData.eqv]⟩
theorem Sds.nil {H:Hp} {k:Nat}:Sds K H [] [] k:=⟨.nil,rfl,bL _,by simp [PyData.eqvAll]⟩
theorem Sds.cons {H:Hp} {v:V} {d:PyData} {xs:List V} {ds:List PyData} {k:Nat} (h:Sd K H v d k) (r:Sds K H xs ds k):Sds K H (v :: xs) (d :: ds) k:=by
 exists .cons h.rd r.rd,by simp [PyData.canLayAll0,h.lay,r.lay],?_,by simp [PyData.eqvAll,h.eq,r.eq]
 have b:=h.dep;have a:=r.dep;simp only [PyData.depthAll];omega
theorem Sds.ints {H:Hp} (ns:List Int) {k:Nat}:Sds K H (ns.map V.int) (ns.map PyData.int) k:=⟨z5 ns,jv ns,by rw [È]; exact bL _,by rw [jr,bx rfl]⟩
theorem Sd.lst {H:Hp} {xs:List V} {ds:List PyData} {k:Nat} (h:SqL K H p xs) (r:Sds K H xs ds k):Sd K H (.ref p) (.list ds) (k+1):=by
 exists .lst h r.rd,by simp [PyData.canLay0,r.lay],?_,by simp [PyData.eqv,r.eq]
 have a:=r.dep;simp only [PyData.depth];omega
theorem Sd.tup {H:Hp} {xs:List V} {ds:List PyData} {k:Nat} (h:SqT K H p xs) (r:Sds K H xs ds k):Sd K H (.ref p) (.tuple ds) (k+1):=by
 exists .tup h r.rd,by simp [PyData.canLay0,r.lay],?_,by simp [PyData.eqv,r.eq]
 have a:=r.dep;simp only [PyData.depth];omega
theorem Sd.up {H:Hp} {v:V} {d:PyData} {k k':Nat} (h:Sd K H v d k) (hk:k <= k'):Sd K H v d k':=⟨h.rd,h.lay,bN h.dep hk,h.eq⟩
theorem Sds.up {H:Hp} {xs:List V} {ds:List PyData} {k k':Nat} (h:Sds K H xs ds k) (hk:k <= k'):Sds K H xs ds k':=⟨h.rd,h.lay,bN h.dep hk,h.eq⟩
local macro_rules | `(#synth $n:ident $a $b)=>`(theorem $n : yh $a $a (yc $b):=wk (by decide +kernel)) | `(#synth $n:ident $a $b $c)=>`(theorem $n : yh $a $b (yc $c):=wk (by decide +kernel))
#synth vci ["thing"] vc8
inductive ybh (K:W.Frag) (vs:List V) (H:Hp) (Q:VK) (E':XK):Prop
 | mk (x n:_) (_:vs=[x]) (_:xp K H x (.type n)) (_:Q (.bl (zw x)) H)
theorem yi2 (T:Txt K mg a):vk P w K mg base CX0 1 a.O9 a.Oa ["thing"] (ybh K):=by
 exists T.Fi.F.ok,vci,g;obtain ⟨x,n,rfl,b,k⟩:=h;exists _,(yd (yt (xx (pcB vx T.A5 (pac (pv 0) (pa1 (zv (T:="int") rfl T.Gu (by right))))) (zu (ymp (pcB vx T.A5 (pac (pv 0) (pa1 (zv (T:="bool") rfl T.Es (by right)))))))))),?_;exists 1,0;rfl';refine ψ b (yhr b) ?_;rfl'
 cases hx:yid x with
 | false =>
  have e:zw x=false:=by
   cases x <;> first | rfl | cases hx
  rw [e] at k;exact ē k
 | true =>
  have e:zw x=!yb4 x:=by
   cases x <;> first | rfl | cases hx
  rw [e] at k;refine ī ?_;rfl';refine ψ b (ycr b) ?_;rfl';exact k
#synth vbw ["thing"] vdk
inductive yf8 (K:W.Frag) (vs:List V) (H:Hp) (Q:VK) (E':XK):Prop
 | mk (x n:_) (_:vs=[x]) (_:xp K H x (.type n)) (_:Q (.bl (Ø x)) H)
theorem vbi (T:Txt K mg a):vk P w K mg base CX0 2 a.Ob a.Oc ["thing"] (yf8 K):=by
 exists T.Ot.F.ok,vbw,f;obtain ⟨x,n,rfl,d,k⟩:=h;exists _,(yd (yt (xx (xv (yi2 T) f.m T.Fi (pa1 (pv 0))) (zu (jh uv uv ye (pv 0) ye))))),?_;exists 1,0;rfl';exists x,n,rfl,d,?_;rfl'
 cases hx:zw x with
 | false =>
  have e:Ø x=false:=by
   cases x <;> first | rfl | cases hx
  rw [e] at k;exact ē k
 | true =>
  obtain ⟨i,rfl⟩:=uz hx;refine ī ?_;rfl';refine z0 (fun b=>?_) (fun b=>?_)
  .rfl';have e:Ø (.int i)=decide (i <= 1):=by simp [Ø,b]
   rw [e] at k;exact k
  .have e:Ø (.int i)=false:=by simp [Ø,b]
   rw [e] at k;exact k
#synth vca ["thing"] vdi
inductive ŷ (K:W.Frag) (vs:List V) (H:Hp) (Q:VK) (E':XK):Prop
 | mk (x n:_) (_:vs=[x]) (_:xp K H x (.type n)) (_:Q (.bl (chV x)) H)
theorem vcf (T:Txt K mg a):vk P w K mg base CX0 2 a.Od a.Oe ["thing"] (ŷ K):=by
 exists T.Ou.F.ok,vca,f;obtain ⟨x,n,rfl,d,k⟩:=h;exists _,(yd (yt (xx (xv (yi2 T) f.m T.Fi (pa1 (pv 0))) (zu (jh uv uv (vg rfl T.D3) (pv 0) (yn zd (vg rfl T.Cp) (vg rfl T.D3))))))),?_;exists 1,0;rfl';exists x,n,rfl,d,?_;rfl'
 cases hx:zw x with
 | false =>
  have e:chV x=false:=by
   cases x <;> first | rfl | cases hx
  rw [e] at k;exact ē k
 | true =>
  obtain ⟨i,rfl⟩:=uz hx;refine ī ?_;rfl';refine z0 (fun b=>?_) (fun b=>?_)
  .rfl';have e:chV (.int i)=decide (i <= 16777216 - 32768):=by simp [chV,b]
   rw [e] at k;exact k
  .have e:chV (.int i)=false:=by simp [chV,b]
   rw [e] at k;exact k
#synth vcd ["thing"] vc6
inductive yex (K:W.Frag) (vs:List V) (H:Hp) (Q:VK) (E':XK):Prop
 | mk (x n:_) (_:vs=[x]) (_:xp K H x (.type n)) (_:Q (.bl (sgV x)) H)
theorem vco (T:Txt K mg a):vk P w K mg base CX0 2 a.Of a.Og ["thing"] (yex K):=by
 exists T.Ov.F.ok,vcd,f;obtain ⟨x,n,rfl,d,k⟩:=h;exists _,(yd (yt (xx (xv (yi2 T) f.m T.Fi (pa1 (pv 0))) (zu (jh uv uv ye (pv 0) ye))))),?_;exists 1,0;rfl';exists x,n,rfl,d,?_;rfl'
 cases hx:zw x with
 | false =>
  have e:sgV x=false:=by
   cases x <;> first | rfl | cases hx
  rw [e] at k;exact ē k
 | true =>
  obtain ⟨i,rfl⟩:=uz hx;refine ī ?_;rfl';refine z0 (fun b=>?_) (fun b=>?_)
  .rfl';have e:sgV (.int i)=decide (i <= 255):=by simp [sgV,b]
   rw [e] at k;exact k
  .have e:sgV (.int i)=false:=by simp [sgV,b]
   rw [e] at k;exact k
#synth vb4 ["thing","most"] vdf
inductive yx5 (K:W.Frag) (vs:List V) (H:Hp) (Q:VK) (E':XK):Prop
 | mk (x n m:_) (_:vs=[x,.int m]) (_:xp K H x (.type n)) (_:((Bad K H x n m/\∀ H',yq H H'->Q (.bl false) H')\/∃ xs,Good K H x xs m/\∀ H',yq H H'->Q (.bl true) H'))
theorem vac (T:Txt K mg a):vk P w K mg base CX0 3 a.Oh a.Oi ["thing","most"] (yx5 K):=by
 exists T.Nm.F.ok,vb4,R;obtain ⟨x,n,m,rfl,r,h⟩:=h
 have J:(n≠"list"/\∀ d,yq H d->Q (.bl false) d)\/∃ p xs,x=.ref p/\H p=some (.lst xs)/\Typed K H xs/\xs.length <= 100000/\∀ d,yq H d->Q (.bl (decide ((xs.length:Int) <= m) && xs.all sgV)) d:=by
  rcases h with ⟨h | ⟨p,xs,e,c,t,l,G⟩,k⟩ | ⟨xs,⟨p,e,c,t,l,G⟩,k⟩
  .exact .inl ⟨h,k⟩
  .exact .inr ⟨p,xs,e,c,t,l,fun d S=>by rw [G]; exact k d S⟩
  .exact .inr ⟨p,xs,e,c,t,l,fun d S=>by rw [G]; exact k d S⟩
 exists _,(yd (yt (xx (pcB vx T.A5 (pac (pv 0) (pa1 (zv (T:="list") rfl T.An (by right))))) (xx (zl uv (pcB yo T.Ac (pa1 (pv 0))) (pv 1) (vh _)) (zu (pcB (zi rfl) T.Cn (pa1 (vq (js:=[]) (ys:=[]) rfl (we (pv 0)) (fun C Z Y fp=>(xv (vco T) R.m T.Ov (pa1 (pv 0)))) rfl rfl (hyc:=yr) (hrel:=yr))))))))),?_;exists 2,0;rfl';refine ψ r (yo6 r) ?_;rfl';rcases J with ⟨I,k⟩ | ⟨p,xs,rfl,c,X,l,k⟩
 .refine yfa I ?_;rfl';exact k _ (yq.refl _)
 .have I:n="list":=by
   cases r with
   | lst e=>rfl
   | frz e=>rfl
   | tup e=>rw [c] at e; cases e
   | dK e=>rw [c] at e; cases e
   | dT e=>rw [c] at e; cases e
  refine ŧ I ?_;rfl';refine zg (SqL.of c) ?_;rfl';refine z0 (fun u=>?_) (fun u=>?_)
  .rw [bx u,Bool.true_and] at k;rfl';exists p,rfl,⟨_,SqL.of c⟩,fun D B=>?_;have nD:p≠D:=yb c B;refine ε (K:=K) (a:=p) (xs:=xs) (fun i g=>g D=some (.lst (((xs.take i).map sgV).map V.bl))/\yq H g)
    ⟨ya,yx B⟩ (fun i g _ q=>SqL.of (q.2 _ _ c)) ?_ ?_
   .rintro i y g N L ⟨f,j⟩;rfl';obtain ⟨U,v⟩:=X y (bI N);exists y,U,rfl,Ð j v,?_;refine u9 f (by rw [bf,bf,bX]; exact yj5 (by omega)) L ⟨ya.trans ?_,fun b o e=>yf (fun z=>?_) (j _ _ e)⟩
    .rw [List.take_succ,N];simp
    .subst z;rw [B] at e;cases e
   .rintro g ⟨f,j⟩;rfl';exists D,_,rfl,SqL.of f,?_;rw [cE (bp _),List.all_map];exact k _ j
  .rw [bA u,Bool.false_and] at k;rfl';exact k _ (yq.refl _)
#synth vcn ["thing"] vc4
theorem vaa (T:Txt K mg a):vk P w K mg base (CXe P w) 4 a.Oj a.Ol ["thing"] (Ě K a.Fh 1000):=by
 exists T.Nn.F.okE,vcn,i;obtain ⟨x,n,rfl,g,h⟩:=h;exists _,(yg (wz (xq (xu (xv (vac T) i.m T.Nm (pac (pv 0) (pa1 (vg rfl T.Cq)))))) (yd (w5 rfl T.R0 T.Pm (pa1 wy))) ve) (yd (yt (pcT wo T.An (pa1 (pv 0)))))),?_;exists 1,0;rfl';exists x,n,_,rfl,g,?_;rcases h with ⟨q,k⟩ | ⟨f,e,k⟩
 .refine .inl ⟨q,fun t b=>?_⟩;rfl';exists by walk_at "len",k _ b
 .refine .inr ⟨f,e,fun t b=>?_⟩;obtain ⟨p,rfl,o,_⟩:=e;rfl';exists p,f,rfl,.inl (SqL.of (b _ _ o)),fun r c=>?_;exact k r _ (b.free c) ya (b.trans (yx c))
#synth va5 ["thing"] vdc
theorem vck (T:Txt K mg a):vk P w K mg base (CXe P w) 4 a.Om a.On ["thing"] (Ě K a.Ej 12000):=by
 exists T.Ow.F.okE,va5,i;obtain ⟨x,n,rfl,g,h⟩:=h;exists _,(yg (wz (xq (xu (xv (vac T) i.m T.Nm (pac (pv 0) (pa1 (vg rfl T.Et)))))) (yd (w5 rfl T.R1 T.Pn (pa1 wy))) ve) (yd (yt (pcT wo T.An (pa1 (pv 0)))))),?_;exists 1,0;rfl';exists x,n,_,rfl,g,?_;rcases h with ⟨q,k⟩ | ⟨f,e,k⟩
 .refine .inl ⟨q,fun t b=>?_⟩;rfl';exists by walk_at "len",k _ b
 .refine .inr ⟨f,e,fun t b=>?_⟩;obtain ⟨p,rfl,o,_⟩:=e;rfl';exists p,f,rfl,.inl (SqL.of (b _ _ o)),fun r c=>?_;exact k r _ (b.free c) ya (b.trans (yx c))
#synth vcw ["thing"] vdh
def ytr:V->Bool
 | .int i=>decide (0 <= i) && decide (i <= 1000)
 | _=>false
theorem yxb {m:Nat} (h:m <= 1000):ytr (.int m)=true:=by
 show (decide ((0:Int) <= m) && decide ((m:Int) <= 1000))=true;rw [bx (by omega),bx (by omega)];rfl
inductive yk9 (K:W.Frag) (C:Addr) (vs:List V) (H:Hp) (Q:VK) (E:XK):Prop
 | mk (x n:_) (_:vs=[x]) (_:xp K H x (.type n)) (_:(ytr x=true->Q .non H)) (_:(ytr x=false->E (.ref C) none H))
theorem vbh (T:Txt K mg a):vk P w K mg base (CXe P w) 2 a.Oo a.Op ["thing"] (yk9 K a.B8):=by
 exists T.Ox.F.okE,vcw,j;obtain ⟨x,n,rfl,g,l,f⟩:=h;exists _,(yd (wz (PW.pt (ya2 (xq (xu (xv (yi2 T) j.m T.Fi (pa1 (pv 0))))) (yav (xq (ř uv uv ye (pv 0) (vg rfl T.Cq)))))) (yd (w5 rfl T.Nq T.Dj (pa1 wy))) ve)),?_;exists 1,0;rfl';exists x,n,rfl,g,?_;rfl'
 cases hx:zw x with
 | false =>
  have e:ytr x=false:=by
   cases x <;> first | rfl | cases hx
  rfl';exists by walk_at "len",f e
 | true =>
  obtain ⟨i,rfl⟩:=uz hx;rfl';refine z0 (fun b=>?_) (fun b=>?_)
  .rfl';refine yn6 (fun d=>?_) (fun d=>?_)
   .rfl';exact l (by simp [ytr,b,d])
   .rfl';exists by walk_at "len",f (by simp [ytr,d])
  .rfl';exists by walk_at "len",f (by simp [ytr,b])
#synth vbe ["thing"] vcy
inductive Þ (K:W.Frag) (C:Addr) (vs:List V) (H:Hp) (Q:VK) (E:XK):Prop
 | mk (x n:_) (_:vs=[x]) (_:xp K H x (.type n)) (_:(chV x=true->Q .non H)) (_:(chV x=false->E (.ref C) none H))
theorem ys4 (T:Txt K mg a):vk P w K mg base (CXe P w) 3 a.Oq a.Os ["thing"] (Þ K a.D5):=by
 exists T.N7.F.okE,vbe,d;obtain ⟨x,n,rfl,c,f,i⟩:=h;exists _,(yd (wz (xq (xu (xv (vcf T) d.m T.Ou (pa1 (pv 0))))) (yd (w5 rfl T.R3 T.Po (pa1 wy))) ve)),?_;exists 1,0;rfl';exists x,n,rfl,c,?_;rfl'
 cases hx:chV x with
 | false =>
  rfl';exists by walk_at "len",i hx
 | true =>
  rfl';exact f hx
#synth yy3 ["thing"] ys7
inductive Ų (K:W.Frag) (C:Addr) (vs:List V) (H:Hp) (Q:VK) (E:XK):Prop
 | mk (x n:_) (_:vs=[x]) (_:xp K H x (.type n)) (_:(Ø x=true->Q .non H)) (_:(Ø x=false->E (.ref C) none H))
theorem þ (T:Txt K mg a):vk P w K mg base (CXe P w) 3 a.Hm a.Hn ["thing"] (Ų K a.Bz):=by
 exists T.Ci.F.okE,yy3,d;obtain ⟨x,n,rfl,c,f,i⟩:=h;exists _,(yd (wz (xq (xu (xv (vbi T) d.m T.Ot (pa1 (pv 0))))) (yd (w5 rfl T.R4 T.Pp (pa1 wy))) ve)),?_;exists 1,0;rfl';exists x,n,rfl,c,?_;rfl'
 cases hx:Ø x with
 | false =>
  rfl';exists by walk_at "len",i hx
 | true =>
  rfl';exact f hx
#synth yvz ["chance","bit"] yr9
inductive ykg (K:W.Frag) (C D:Addr) (vs:List V) (H:Hp) (Q:VK) (E:XK):Prop
 | mk (x n y m:_) (_:vs=[x,y]) (_:xp K H x (.type n)) (_:xp K H y (.type m)) (_:(chV x=false->E (.ref C) none H)) (_:(chV x=true->Ø y=false->E (.ref D) none H)) (_:(∀ c b,x=.int c->y=.int b->chV x=true->Ø y=true->Q (.int (gvv c b)) H))
theorem yt0 (T:Txt K mg a):vk P w K mg base (CXe P w) 4 a.Ho a.Hq ["chance","bit"] (ykg K a.D5 a.Bz):=by
 exists T.Mc.F.okE,yvz,g;obtain ⟨x,n,y,m,rfl,t,j,o,r,p⟩:=h;exists _,(yg (yp (ud (ys4 T) g.m T.N7 yz (pa1 (pv 0)))) (yg (yp (ud (þ T) g.m T.Ci yz (pa1 (pv 1)))) (yd (yt (jf (y7 zy (pv 1) ye (vh _)) (pv 0) (yn zd (vg rfl T.Cp) (pv 0))))))),?_;exists 2,0;rfl';exists x,n,rfl,t,fun d=>?_,o;rfl';exists y,m,rfl,j,fun i=>?_,r d;obtain ⟨c,rfl,B,z⟩:=yb2 d;obtain ⟨b,rfl,u,v⟩:=ycx i;rfl';have k:=p c b rfl rfl d i;unfold gvv at k;refine z0 (fun e=>?_) (fun e=>?_)
 .rw [if_pos e] at k;rfl';exact k
 .rw [if_neg e] at k;rfl';exact k
#synth yzd ["self"] ysl
theorem yt3 (T:Txt K mg a):vk P w K mg base CX0 1 a.F6 a.Hr ["self"] (Ŗ a.A9 (z7 (.int 0) (.int 0))):=by
 exists T.E5.F.ok,yzd,f;obtain ⟨p,e,rfl,g,k⟩:=h;exists _,(yg (y6 (pv 0) ye rfl) (yd (y6 (pv 0) ye rfl))),?_;exists 1,0;rfl';exact k _ ya (But.upd.trans But.upd)
#synth yx4 ["self"] yr8
theorem ywj (T:Txt K mg a):vk P w K mg base CX0 1 a.Hs a.Ht ["self"] (xy (oS a) var):=by
 exists T.Fj.F.ok,yx4,m;obtain ⟨p,d,g,rfl,e,i,c,k⟩:=h
 cases g with
 | ev n o =>
  obtain ⟨q,r,l⟩:=i;have c:H p=some (.ins a.A9 d (z7 (.int n) (.int o))):=c;exists _,(yd (yt (yn vi (yn w4 (yn vn (yn w4 ye (ym (pv 0) rfl)) ye) (vg rfl T.Cp)) (yn vn (yn w4 ye (yn vn (ym (pv 0) rfl) (ym (pv 0) rfl))) ye)))),?_;exists 1,0;rfl';exact k
 | qk _=>exact e.elim
 | rn _ _=>exact e.elim
#synth yxl ["self","bit"] ysi
theorem yuf (T:Txt K mg a):vk P w K mg base (CXe P w) 4 a.Hu a.Hv ["self","bit"] (jd K (oS a) var a.Bz):=by
 exists T.Fk.F.okE,yxl,t;obtain ⟨p,i,l,x,D,rfl,f,B,g,j,u,C⟩:=h
 cases l with
 | ev n o =>
  obtain ⟨J,I,G⟩:=B;have g:H p=some (.ins a.A9 i (z7 (.int n) (.int o))):=g;exists _,(yg (yp (ud (þ T) t.m T.Ci yz (pa1 (pv 1)))) (yg (wz (y7 zy (pv 1) ye (vh _)) (yd (y6 (pv 0) (yn vn (ym (pv 0) rfl) ye) rfl)) (yd (y6 (pv 0) (yn vn (ym (pv 0) rfl) ye) rfl))) (yd (wz (y7 yi5 (yn vn (ym (pv 0) rfl) (ym (pv 0) rfl)) (vg rfl T.Cg) (vh _)) (yg (y6 (pv 0) (yn vi (yn vn (ym (pv 0) rfl) ye) ye) rfl) (yd (y6 (pv 0) (yn vi (yn vn (ym (pv 0) rfl) ye) ye) rfl))) ve)))),?_;exists 2,0;rfl';exists x,D,rfl,j,fun z=>?_,C;obtain ⟨b,rfl,y,r⟩:=yd2 z;have k:=u b rfl y r;unfold Slt.see at k;dsimp only at k;rfl';refine z0 (fun d=>?_) (fun d=>?_)
  .rw [if_pos d] at k;unfold ycj at k;rfl';refine z0 (fun c=>?_) (fun c=>?_)
   .rw [if_pos c] at k;rfl';exact k _ ya ((But.upd.trans But.upd).trans But.upd)
   .rw [if_neg c] at k;rfl';exact k _ ya But.upd
  .rw [if_neg d] at k;unfold ycj at k;rfl';refine z0 (fun c=>?_) (fun c=>?_)
   .rw [if_pos c] at k;rfl';exact k _ ya ((But.upd.trans But.upd).trans But.upd)
   .rw [if_neg c] at k;rfl';exact k _ ya But.upd
 | qk _=>exact f.elim
 | rn _ _=>exact f.elim
#synth yyw ["self"] yra
theorem ywr (T:Txt K mg a):vk P w K mg base CX0 1 a.F7 a.Hw ["self"] (Ŗ a.A8 (uo (.int 8388608))):=by
 exists T.E6.F.ok,yyw,f;obtain ⟨p,e,rfl,g,k⟩:=h;exists _,(yd (y6 (pv 0) (yn vi (vg rfl T.Cp) ye) rfl)),?_;exists 1,0;rfl';exact k _ ya But.upd
#synth yux ["self"] ys5
theorem ytx (T:Txt K mg a):vk P w K mg base CX0 1 a.Hx a.Hy ["self"] (xy (oS a) va0):=by
 exists T.Fl.F.ok,yux,j;obtain ⟨p,d,g,rfl,e,l,c,k⟩:=h
 cases g with
 | qk h0 =>
  have c:H p=some (.ins a.A8 d (uo (.int h0))):=c;exists _,(yd (yt (ym (pv 0) rfl))),?_;exists 1,0;rfl';exact k
 | ev _ _=>exact e.elim
 | rn _ _=>exact e.elim
#synth yig ["self","bit","moved"] ["self","bit"] ysq
theorem yyn (T:Txt K mg a):vk P w K mg base (CXe P w) 4 a.Hz a.I0 ["self","bit"] (jd K (oS a) va0 a.Bz):=by
 exists T.Fm.F.okE,yig,r;obtain ⟨p,g,l,x,C,rfl,e,z,f,j,t,B⟩:=h
 cases l with
 | qk h0 =>
  obtain ⟨G,D⟩:=z;have f:H p=some (.ins a.A8 g (uo (.int h0))):=f;exists _,(yg (yp (ud (þ T) r.m T.Ci yz (pa1 (pv 1)))) (yg (wz (y7 zy (pv 1) ye (vh _)) (yd (yv (i:=2) yig.nd rfl (Or.inl rfl) (yn vn (ym (pv 0) rfl) (yn vi (yn zd (vg rfl T.Cp) (ym (pv 0) rfl)) ye)))) (yd (yv (i:=2) yig.nd rfl (Or.inl rfl) (yn zd (ym (pv 0) rfl) (yn vi (ym (pv 0) rfl) ye))))) (yd (y6 (pv 0) (pcB (í rfl) T.Gv (pac (pcB (ô rfl) T.Gw (pac (pv 2) (pa1 (vg rfl T.D3)))) (pa1 (yn zd (vg rfl T.Cp) (vg rfl T.D3))))) rfl)))),?_;exists 2,1;rfl';exists x,C,rfl,j,fun y=>?_,B;obtain ⟨b,rfl,v,q⟩:=yd2 y;have k:=t b rfl v q;unfold Slt.see at k;dsimp only at k;rfl';refine z0 (fun c=>?_) (fun c=>?_)
  .rw [if_pos c] at k;rfl';exists _,_,rfl,?_;rfl';exists _,_,rfl,?_;rfl';exact k _ ya But.upd
  .rw [if_neg c] at k;rfl';exists _,_,rfl,?_;rfl';exists _,_,rfl,?_;rfl';exact k _ ya But.upd
 | ev _ _=>exact e.elim
 | rn _ _=>exact e.elim
#synth yzg ["self"] yrx
theorem yv4 (T:Txt K mg a):vk P w K mg base CX0 1 a.F8 a.I1 ["self"] (Ŗ a.Af (ÿ (.int 1) (.int 0))):=by
 exists T.E7.F.ok,yzg,f;obtain ⟨p,e,rfl,g,k⟩:=h;exists _,(yg (y6 (pv 0) ye rfl) (yd (y6 (pv 0) ye rfl))),?_;exists 1,0;rfl';exact k _ ya (But.upd.trans But.upd)
#synth ymz ["self","given"] ["self"] yrp
theorem yue (T:Txt K mg a):vk P w K mg base CX0 1 a.I2 a.I3 ["self"] (xy (oS a) vay):=by
 exists T.Fn.F.ok,ymz,r;obtain ⟨p,e,j,rfl,f,m,d,k⟩:=h
 cases j with
 | rn l n =>
  obtain ⟨t,v,q,u⟩:=m;have d:H p=some (.ins a.Af e (ÿ (.int l) (.int n))):=d;exists _,(yg (yv (i:=1) ymz.nd rfl (Or.inl rfl) (yn vi (yn w4 (yn vn (yn w4 ye (ym (pv 0) rfl)) ye) (vg rfl T.Cp)) (yn vn (yn w4 ye (ym (pv 0) rfl)) ye))) (yd (yt (jf (y7 zy (ym (pv 0) rfl) ye (vh _)) (pv 1) (yn zd (vg rfl T.Cp) (pv 1)))))),?_;exists 1,1;rfl';have k:Q (.int (if l=1 then Ñ n else 16777216 - Ñ n)) H:=k;refine z0 (fun b=>?_) (fun b=>?_)
  .rw [if_pos b] at k;rfl';exact k
  .rw [if_neg b] at k;rfl';exact k
 | ev _ _=>exact f.elim
 | qk _=>exact f.elim
#synth yun ["self","bit"] yth
theorem yud (T:Txt K mg a):vk P w K mg base (CXe P w) 4 a.I4 a.I5 ["self","bit"] (jd K (oS a) vay a.Bz):=by
 exists T.Fo.F.okE,yun,r;obtain ⟨p,g,j,x,C,rfl,e,z,f,i,t,B⟩:=h
 cases j with
 | rn l n =>
  obtain ⟨I,G,D,J⟩:=z;have f:H p=some (.ins a.Af g (ÿ (.int l) (.int n))):=f;exists _,(yg (yp (ud (þ T) r.m T.Ci yz (pa1 (pv 1)))) (yd (wz (y7 zy (pv 1) (ym (pv 0) rfl) (vh _)) (yd (y6 (pv 0) (pcB (í rfl) T.Gv (pac (yn vn (ym (pv 0) rfl) ye) (pa1 (vg rfl T.Cg)))) rfl)) (yg (y6 (pv 0) (pv 1) rfl) (yd (y6 (pv 0) ye rfl)))))),?_;exists 2,0;rfl';exists x,C,rfl,i,fun y=>?_,B;obtain ⟨b,rfl,v,q⟩:=yd2 y;have k:=t b rfl v q;unfold Slt.see at k;dsimp only at k;rfl';refine z0 (fun c=>?_) (fun c=>?_)
  .rw [if_pos c] at k;rfl';exists _,_,rfl,?_;rfl';exact k _ ya But.upd
  .rw [if_neg c] at k;rfl';exact k _ ya (But.upd.trans But.upd)
 | ev _ _=>exact e.elim
 | qk _=>exact e.elim
#synth yus ["kind"] yre
inductive yem (a:Ads) (vs:List V) (H:Hp) (Q:VK) (E':XK):Prop
 | mk (k:Fin 3) (_:vs=[.str (kdS k)]) (_:∀ p dx H',H p=none->H' p=some (oS a dx (kd0 k))->yq H H'->Q (.ref p) H')
theorem yvx (T:Txt K mg a):vk P w K mg base CX0 3 a.I6 a.I7 ["kind"] (yem a):=by
 exists T.Md.F.ok,yus,l;obtain ⟨r,rfl,k⟩:=h;exists _,(yg (wz (y7 zy (pv 0) wy (vh _)) (yd (yt (τ T.Pi (yt3 T) l.m rfl T.Ph T.E5.B .nil wv))) ve) (yg (wz (y7 zy (pv 0) wy (vh _)) (yd (yt (τ T.Oz (ywr T) l.m rfl T.Oy T.E6.B .nil wv))) ve) (yg (wz (y7 zy (pv 0) wy (vh _)) (yd (yt (τ T.Q0 (yv4 T) l.m rfl T.Pz T.E7.B .nil wv))) ve) (yd yke)))),?_;exists 1,0;rfl';exists rfl,?_
 match r with
 | 0 =>
  exists _,rfl,ŧ rfl ?_;rfl';intro p g f d q;exists p,g,rfl,ya,fun j c i=>⟨rfl,?_⟩;exact k p g j f c fun b o e=>i b o (by rw [yk (yb e f),yk (yb e d)]; exact e) (yb e f)
 | 1 =>
  exists _,rfl,yfa (by intro z; injection z with z; revert z; decide +kernel) ?_;rfl';exists rfl,?_;exists _,rfl,ŧ rfl ?_;rfl';intro p g f d q;exists p,g,rfl,ya,fun j c i=>⟨rfl,?_⟩;exact k p g j f c fun b o e=>i b o (by rw [yk (yb e f),yk (yb e d)]; exact e) (yb e f)
 | 2 =>
  exists _,rfl,yfa (by intro z; injection z with z; revert z; decide +kernel) ?_;rfl';exists rfl,?_;exists _,rfl,yfa (by intro z; injection z with z; revert z; decide +kernel) ?_;rfl';exists rfl,?_;exists _,rfl,ŧ rfl ?_;rfl';intro p g f d q;exists p,g,rfl,ya,fun j c i=>⟨rfl,?_⟩;exact k p g j f c fun b o e=>i b o (by rw [yk (yb e f),yk (yb e d)]; exact e) (yb e f)
#synth yih ["number","size","places"] ["number","size"] yq9
inductive ye6  (vs:List V) (H:Hp) (Q:VK) (E':XK):Prop
 | mk (n:Int) (k:Nat) (_:vs=[.int n,.int k]) (_:k <= 100000) (_:∀ t H',H t=none->H' t=some (.lst ((wr k n).map V.int))->yq H H'->Q (.ref t) H')
theorem ymf (T:Txt K mg a):vk P w K mg base CX0 1 a.I8 a.I9 ["number","size"] ye6:=by
 exists T.Fp.F.ok,yih,C;obtain ⟨n,d,rfl,B,k⟩:=h;exists _,(yg (yv (i:=2) yih.nd rfl (Or.inl rfl) (wx ub)) (yg (ji PassesOwn.never (y7 ych (pcB yo T.Ac (pa1 (pv 2))) (pv 1) (vh _)) (yg (yp (ue PySem.F.plainAttrs_list PySem.F.slot_list_append PySem.F.type_list_append v7 (pv 2) (pa1 (yn xb (pv 0) ye)))) (yd (yv (i:=0) yih.nd rfl (Or.inl rfl) (yn vi (pv 0) ye))))) (yg (yp (yd5 PySem.F.plainAttrs_list PySem.F.slot_list_reverse PySem.F.type_list_reverse Ġ (pv 2))) (yd (yt (pv 2)))))),?_;exists 2,1;rfl';exists by walk_at "len",fun t j=>?_
 rfl';exists fun m σ' u=>∃ (f:Int) (c:List Int),σ'=[some (.int f),some (.int d),some (.ref t)]/\u t=some (.lst (c.map V.int))/\yq H u/\c++lo (d - c.length) f=lo d n/\c.length <= d/\m=d - c.length,⟨_,n,[],rfl,ya,yx j,rfl,bL _,rfl⟩,?_;rintro m σ2 G ⟨f,c,rfl,g,r,l,D,rfl⟩;rfl';refine zg (SqL.of g) ?_;rw [bf];rfl';refine z0 (fun y=>?_) (fun y=>?_)
 .refine yat ?_;rfl';refine uc g ?_;rfl';refine w9 g (by rw [bf]; exact y8 (by omega)) ?_;rfl';exists _,?_,f / 256,c++[f % 256],rfl,(ya.trans (by rw [yjo])),fun b o e=>?_,?_,?_,rfl
  .rw [bj];show d - (c.length+1) < d - c.length;omega
  .rw [yk (yb e j)];exact r b o e
  .have p:d - c.length=d - (c++[f % 256]).length+1:=by
    rw [bj];show d - c.length=d - (c.length+1)+1;omega
   rw [p] at l;rw [<- l,bR];rfl
  .rw [bj];show c.length+1 <= d;omega
 .rfl';have p:d - c.length=0:=by omega
  rw [p] at l;have z:c=lo d n:=by rw [<- l]; simp [lo]
  refine uc g ?_;refine yah g ?_;rfl';refine k t _ j ?_ fun b o e=>?_
  .rw [ya,yqg,z];rfl
  .rw [yk (yb e j)];exact r b o e
#synth yum ["low","unit"] yrs
inductive Č  (vs:List V) (H:Hp) (Q:VK) (E':XK):Prop
 | mk (l e:Int) (_:vs=[.int l,.int e]) (_:0 < e) (_:e < 2 ^ 63) (_:Q (.int (blk l e)) H)
theorem yl2 (T:Txt K mg a):vk P w K mg base CX0 1 a.Ia a.Ib ["low","unit"] Č:=by
 exists T.Fq.F.ok,yum,f;obtain ⟨l,e,rfl,g,i,k⟩:=h;exists _,(yd (yt (yn vi (yn zd (yn vn (pv 0) (pv 1)) ye) (pv 1)))),?_;exists 2,0;rfl';exact k
#synth yuu ["self"] ys1
inductive ypw (C:Addr) (vs:List V) (H:Hp) (Q:VK) (E':XK):Prop
 | mk (p dx:Addr) (_:vs=[.ref p]) (_:H p=some (.ins C dx [])) (_:∀ H',H' p=some (.ins C dx (z8 s0))->But p H H'->Q .non H')
theorem ynj (T:Txt K mg a):vk P w K mg base CX0 1 a.F9 a.Ic ["self"] (ypw a.A4):=by
 exists T.D6.F.ok,yuu,j;obtain ⟨p,c,rfl,g,k⟩:=h;exists _,(yg (y6 (pv 0) ye rfl) (yg (y6 (pv 0) (vg rfl T.Dt) rfl) (yd (y6 (pv 0) (vg rfl T.Eu) rfl)))),?_;exists 1,0;rfl';exists p,_,c,_,rfl,g,T.Ag,T.Bl,by show 0 < 1000; decide,?_
 rfl';exists p,_,c,_,rfl,ya,T.Ag,T.Av,by show 1 < 1000; decide,?_
 rfl';exists p,_,c,_,rfl,ya,T.Ag,T.Bb,by show 2 < 1000; decide,?_
 have e:jk "size" (.int 5) (jk "width" (.int 1099511627776) (jk "low" (.int 0) []))=z8 s0:=by
  rw [wl,y9 nLW wl,y9 nLS (y9 nWS wl)];rfl
 refine k _ (ya.trans (congrArg (fun l=>some (HO.ins a.A4 c l)) e)) fun b o h n=>?_;rw [yk n,yk n,yk n];exact h
#synth yvn ["self","chance"] yr3
inductive yt2 (C:Addr) (vs:List V) (H:Hp) (Q:VK) (E':XK):Prop
 | mk (p dx:Addr) (x:Sn) (c:Int) (_:vs=[.ref p,.int c]) (_:H p=some (.ins C dx (z8 x))) (_:Ch c) (_:Q (.int (cut x.2.1 c)) H)
theorem yl6 (T:Txt K mg a):vk P w K mg base CX0 1 a.Ie a.If ["self","chance"] (yt2 a.A4):=by
 exists T.D7.F.ok,yvn,g;obtain ⟨p,f,x,c,rfl,i,⟨l,j⟩,k⟩:=h;exists _,(yd (yt (yn vi (yn w4 (ym (pv 0) rfl) (pv 1)) (vg rfl T.Cp)))),?_;exists 2,0;rfl';exact k
#synth ynu ["self","chance","bit","cut"] ["self","chance","bit"] ysz
inductive ygi (K:W.Frag) (C Nc Nb:Addr) (vs:List V) (H:Hp) (Q:VK) (E:XK):Prop
 | mk (p dx:Addr) (x:Sn) (vc vb:V) (n m:String) (_:vs=[.ref p,vc,vb]) (_:H p=some (.ins C dx (z8 x))) (_:Ok x) (_:xp K H vc (.type n)) (_:xp K H vb (.type m)) (_:(chV vc=false->E (.ref Nc) none H)) (_:(chV vc=true->Ø vb=false->E (.ref Nb) none H)) (_:∀ c b:Int,vc=.int c->vb=.int b->Ch c->0 <= b->b <= 1->∀ H',H' p=some (.ins C dx (z8 (nar x c b)))->But p H H'->Q .non H')
theorem ynm (T:Txt K mg a):vk P w K mg base (CXe P w) 4 a.Ig a.Ih ["self","chance","bit"] (ygi K a.A4 a.D5 a.Bz):=by
 exists T.D8.F.okE,ynu,j;obtain ⟨p,g,x,D,C,n,m,rfl,J,G,U,tb,R,k2,k⟩:=h;exists _,(yg (yp (ud (ys4 T) j.m T.N7 yz (pa1 (pv 1)))) (yg (yp (ud (þ T) j.m T.Ci yz (pa1 (pv 2)))) (yg (yv (i:=3) ynu.nd rfl (Or.inl rfl) (xo (pv 0) T.Ag T.D7.m (yl6 T) j.m T.D7.B .nil wv (pa1 (pv 1)))) (yg (Ģ (wz (y7 zy (pv 2) ye (vh _)) (yd (y6 (pv 0) (pv 3) rfl)) (yg (y6 (pv 0) (yn vn (ym (pv 0) rfl) (pv 3)) rfl) (yd (y6 (pv 0) (yn zd (ym (pv 0) rfl) (pv 3)) rfl))))) (yd (PS.nox (ji PassesOwn.never (y7 ych (ym (pv 0) rfl) (vg rfl T.Du) (vh _)) (yg (y6 (pv 0) (yn w4 (ym (pv 0) rfl) ye) rfl) (yg (y6 (pv 0) (yn w4 (ym (pv 0) rfl) ye) rfl) (yd (y6 (pv 0) (yn vn (ym (pv 0) rfl) ye) rfl))))))))))),?_;exists 3,1;have u:=G.w0;have q:=G.w1;rfl';exists D,n,rfl,U,fun f=>?_,R;rfl';exists C,m,rfl,tb,fun r=>?_,k2 f;obtain ⟨c,rfl,Y,c2⟩:=yb2 f;obtain ⟨b,rfl,b0,N⟩:=ycx r;have l:Ch c:=⟨Y,c2⟩;have k:=k c b rfl rfl l b0 N;rfl';exists p,g,_,rfl,J,lkN _ (by right) (by right) (by right),?_;rfl';exists p,g,x,c,rfl,J,l,?_;rfl';obtain ⟨W,a2,a3⟩:=yaz u q l;refine ylp (fun σ' e=>∃ y:Sn,σ'=[some (.ref p),some (.int c),some (.int b),some (.int (cut x.2.1 c))]/\e p=some (.ins a.A4 g (z8 y))/\8388608 <= y.2.1/\y.2.1 <= 1099511627776/\ren y.1 y.2.1 y.2.2=nar x c b/\But p H e) ?_ ?_
 .rfl';refine z0 (fun d=>?_) (fun d=>?_)
  .rfl';exists _,rfl,ya,W,Int.le_of_lt a3,?_,But.upd;unfold nar
   (rw [if_pos d]) <;> rfl
  .rfl';exists _,rfl,ya,a2,?_,?_,But.upd.trans But.upd
   .show x.2.1 - cut x.2.1 c <= _;omega
   .unfold nar
    (rw [if_neg d]) <;> rfl
 .rintro σ' e ⟨y,rfl,o,X,S,y3,M⟩;exists fun m σ' e=>∃ y:Sn,σ'=[some (.ref p),some (.int c),some (.int b),some (.int (cut x.2.1 c))]/\e p=some (.ins a.A4 g (z8 y))/\8388608 <= y.2.1/\y.2.1 <= 1099511627776/\ren y.1 y.2.1 y.2.2=nar x c b/\But p H e/\m=(4294967296 - y.2.1).toNat,⟨_,y,rfl,o,X,S,y3,M,rfl⟩,?_;rintro m σ2 H2 ⟨z,rfl,hz,O,z2,t,I,rfl⟩;rfl';refine z0 (fun d=>?_) (fun d=>?_)
  .refine yat ?_;rfl';exists _,?_,(z.1 * 256,z.2.1 * 256,z.2.2+1),rfl,ya,?_,?_,(yjb d O).trans t,((I.trans But.upd).trans But.upd).trans But.upd,rfl
   .show (4294967296 - z.2.1 * 256).toNat < (4294967296 - z.2.1).toNat;omega
   .show 8388608 <= z.2.1 * 256;omega
   .show z.2.1 * 256 <= 1099511627776;omega
  .rw [yoi d] at t;refine k _ ?_ I;rw [<- t];exact hz
#synth yyj ["self","unit"] ysc
inductive yjv (C:Addr) (vs:List V) (H:Hp) (Q:VK) (E':XK):Prop
 | mk (p dx:Addr) (x:Sn) (j:Nat) (_:vs=[.ref p,.int (pw j)]) (_:H p=some (.ins C dx (z8 x))) (_:j <= 6) (_:Q (.bl (decide (yff x.1 x.2.1 j))) H)
theorem yv3 (T:Txt K mg a):vk P w K mg base CX0 2 a.Ii a.Ij ["self","unit"] (yjv a.A4):=by
 exists T.Fr.F.ok,yyj,c;obtain ⟨p,i,x,j,rfl,l,f,k⟩:=h;exists _,(yd (yt (zl uv (yn w4 (yn vn (xv (yl2 T) c.m T.Fq (pac (ym (pv 0) rfl) (pa1 (pv 1)))) ye) (pv 1)) (yn vn (ym (pv 0) rfl) (ym (pv 0) rfl)) (vh _)))),?_;exists 2,0;have n:=ycu f;have e:=ul j;rfl';exists _,_,rfl,e,by omega,?_
 rfl';exact k
#synth yar ["self","unit","size"] ["self"] yr1
inductive yog (C:Addr) (vs:List V) (H:Hp) (Q:VK) (E':XK):Prop
 | mk (p dx:Addr) (x:Sn) (_:vs=[.ref p]) (_:H p=some (.ins C dx (z8 x))) (_:OkS x) (_:sz x <= 100000) (_:∀ t H',H t=none->H' t=some (.lst ((tL x).map V.int))->yq H H'->Q (.ref t) H')
theorem yn1 (T:Txt K mg a):vk P w K mg base CX0 3 a.Ik a.Il ["self"] (yog a.A4):=by
 exists T.D9.F.ok,yar,e;obtain ⟨p,l,x,rfl,o,f,G,k⟩:=h;exists _,(yg (yv (i:=1) yar.nd rfl (Or.inl rfl) ye) (yg (yv (i:=2) yar.nd rfl (Or.inl rfl) (ym (pv 0) rfl)) (yg (ji PassesOwn.never (xu (xo (pv 0) T.Ag T.Fr.m (yv3 T) e.m T.Fr.B .nil wv (pa1 (yn w4 (pv 1) ye)))) (yg (yv (i:=1) yar.nd rfl (Or.inl rfl) (yn w4 (pv 1) ye)) (yd (yv (i:=2) yar.nd rfl (Or.inl rfl) (yn zd (pv 2) ye))))) (yd (yt (xv (ymf T) e.m T.Fp (pac (xv (yl2 T) e.m T.Fq (pac (ym (pv 0) rfl) (pa1 (pv 1)))) (pa1 (pv 2))))))))),?_;exists 1,2;rfl';exists fun m σ' r=>r=H/\∃ j:Nat,σ'=[some (.ref p),some (.int (pw j)),some (.int (x.2.2 - j))]/\j <= 5/\tel x.1 x.2.1 (5 - j) j=tK x/\m=6 - j,⟨_,rfl,0,by simp [pw],by decide,rfl,rfl⟩,?_;rintro m σ2 y ⟨rfl,j,rfl,z,n,rfl⟩;have C:=ycu (show j <= 6 by omega);have t:=ul j;rfl';exists p,l,_,rfl,o,lkN _ (by right) (by right) (by right),?_;rfl';exists p,l,x,j+1,rfl,o,by omega,?_
 rfl';refine z0 (fun b=>?_) (fun b=>?_)
 .refine yat ?_;rfl';have u:=ynt f.ok.w1 b;exists _,?_,rfl,j+1,?_,u,?_,rfl
  .show 6 - (j+1) < 6 - j;omega
  .have d:x.2.2 - (j:Int) - 1=x.2.2 - ((j+1:Nat):Int):=by omega
   rw [d];rfl
  .rw [yj0 b,<- n]
   congr 1
   omega
 .have c:j=tK x:=by rw [<- n,yoe b]
  subst c;rfl';exists _,_,rfl,t,by omega,?_
  rfl';have D:=f.sz;have I:=(yrc f).2;have d:x.2.2 - (tK x:Int)=((sz x - tK x:Nat):Int):=by omega
  rw [d];exists _,_,rfl,by omega,k
#synth yvd ["thing"] ys2
inductive yey (K:W.Frag) (vs:List V) (H:Hp) (Q:VK) (E':XK):Prop
 | mk (x n:_) (_:vs=[x]) (_:xp K H x (.type n)) (_:Q (.bl (yi1 x)) H)
theorem yw1 (T:Txt K mg a):vk P w K mg base CX0 1 a.Im a.Io ["thing"] (yey K):=by
 exists T.Me.F.ok,yvd,g;obtain ⟨x,n,rfl,b,k⟩:=h;exists _,(yd (yt (xx (pcB vx T.A5 (pac (pv 0) (pa1 (zv (T:="str") rfl T.N4 (by right))))) (zu (zl õ (pv 0) (Ş rfl T.N5) (by with_unfolding_all rfl)))))),?_;exists 1,0;rfl';refine ψ b (ycq b) ?_;rfl';by_cases hn:n="str"
 .obtain ⟨s',rfl⟩:∃ s',x=.str s':=by
   cases b with
   | str s'=>exists s',rfl
   | _=>exact absurd hn (by decide)
  rw [bx hn];refine ī ?_;rfl';exists a.Bq,_,rfl,.inr (T.N6 H),rfl,rfl,k
 .have e:yi1 x=false:=by
   cases b with
   | str s'=>exact absurd rfl hn
   | _=>rfl
  rw [bA hn];rw [e] at k;exact ē k
#synth yzc ["thing"] ytk
inductive ybb (K:W.Frag) (vs:List V) (H:Hp) (Q:VK) (E':XK):Prop
 | mk (x n:_) (_:vs=[x]) (_:xp K H x (.type n)) (_:Q (.bl (plV x)) H)
theorem yuj (T:Txt K mg a):vk P w K mg base CX0 2 a.Ip a.Iq ["thing"] (ybb K):=by
 exists T.Mf.F.ok,yzc,f;obtain ⟨x,n,rfl,d,k⟩:=h;exists _,(yd (yt (xx (xv (yi2 T) f.m T.Fi (pa1 (pv 0))) (zu (jh uv uv ye (pv 0) (vg rfl T.Hf)))))),?_;exists 1,0;rfl';exists x,n,rfl,d,?_;rfl'
 cases hx:zw x with
 | false =>
  have e:plV x=false:=by
   cases x <;> first | rfl | cases hx
  rw [e] at k;exact ē k
 | true =>
  obtain ⟨i,rfl⟩:=uz hx;refine ī ?_;rfl';refine z0 (fun b=>?_) (fun b=>?_)
  .rfl';have e:plV (.int i)=decide (i <= 8):=by simp [plV,b]
   rw [e] at k;exact k
  .have e:plV (.int i)=false:=by simp [plV,b]
   rw [e] at k;exact k
#synth yy6 ["thing"] ys9
inductive ĸ (K:W.Frag) (vs:List V) (H:Hp) (Q:VK) (E':XK):Prop
 | mk (x b:_) (_:vs=[x]) (_:PlB K H x b) (_:∀ H',yq H H'->Q (.bl b) H')
theorem yxa (T:Txt K mg a):vk P w K mg base CX0 3 a.Ir a.Is ["thing"] (ĸ K):=by
 exists T.Mg.F.ok,yy6,hr;obtain ⟨x,b,rfl,hb,k⟩:=h;exists _,(yg (wz (PW.pt (ya2 (xq (xu (pcB vx T.A5 (pac (pv 0) (pa1 (zv (T:="tuple") rfl T.Co (by right))))))) (ya2 (y7 yi5 (pcB yo T.Ac (pa1 (pv 0))) (vg rfl T.Dv) (vh _)) (yav (xq (xu (pcB (zi rfl) T.Cn (pa1 (vq (js:=[]) (ys:=[]) rfl (ydr (pv 0)) (fun C W G X=>(xv (yuj T) hr.m T.Mf (pa1 (pv 0)))) rfl rfl (hyc:=yr) (hrel:=yr)))))))))) (yd (yt ylq)) ve) (yd (yt (pcB (zi rfl) T.Cn (pa1 (yc3 (js:=[]) (ys:=[]) (xs:=["near","far"]) (g:=ytw K 2 (jl (wj 0) (jl (wj 1) ylx))) rfl (yqt rfl T.Gy (pac (pv 0) (pa1 (zj (ywu.or ypv) (pv 0) (jw ye) jz)))) (fun C W G X=>(zl ych (pv 0) (pv 1) (vh _))) rfl (fun C W G X=>yaw rfl (xt (wt (i:=0) (show List.Nodup ((["near","far"]:List Str)++([]:List Str)) by right) rfl (Or.inl rfl)) (xt (wt (i:=1) (show List.Nodup ((["near","far"]:List Str)++([]:List Str)) by right) rfl (Or.inl rfl)) ù))) rfl (hyc:=yr) (hrel:=yr))))))),?_;exists 1,0;rcases hb with ⟨n,S,hn,rfl⟩ | ⟨t,xs,rfl,I,hl,hy,rfl⟩
 .rfl';refine ψ S (Ú S) ?_;rfl';refine ysh hn ?_;rfl';exact k _ (yq.refl _)
 .rfl';refine ψ (.tup I) (Ú (.tup I)) ?_;rfl';refine yte rfl ?_;rfl';refine ymk (SqT.of I) ?_;rfl';unfold x9 at k;refine z0 (fun h4=>?_) (fun h4=>?_)
  .rw [bA (by omega),Bool.false_and,Bool.false_and] at k;rfl';exact k _ (yq.refl _)
  .rw [bx (by omega),Bool.true_and] at k;rfl';exists t,rfl,⟨_,SqT.of I⟩,fun D U=>?_;refine yf7 (xs:=xs) (fun v=>.bl (plV v)) (SqT.of I) U (fun i y G J B f=>?_) (fun G B f=>?_)
   .obtain ⟨n,N⟩:=hy y (bI J);rfl';exists y,n,rfl,Ð B N,?_;exact Mp.done U (y8 (by omega)) J B f rfl
   have e:xs.map (fun v=>V.bl (plV v))=(xs.map plV).map V.bl:=by rw [bS]; rfl
   rw [e] at f;rfl';exists D,_,rfl,SqL.of f,?_;rw [List.all_map];have ea:xs.all (id ∘ plV)=xs.all plV:=rfl;rw [ea];have c:=B _ _ I
   cases hp:xs.all plV with
   | false =>
    rw [hp,Bool.false_and] at k;rfl';exact k _ B
   | true =>
    rw [hp,Bool.true_and] at k
    have l:∀ y∈xs,∃ i:Int,y=.int i:=fun y Z=>by
     have:=List.all_eq_true.mp hp y Z
     cases y with
     | int i=>exists i,rfl
     | _=>cases this
    rfl';by_cases hx0:xs=[]
    .refine .inr ⟨t,xs,rfl,SqT.of c,?_,?_⟩
     .subst hx0;exists rfl,rfl
     .exists t,t,rfl,⟨_,_,SqT.of c,SqT.of c⟩,fun O d=>?_;refine yhk (xs:=xs) l (by omega) (SqT.of c) (by subst hx0; exact SqT.of c) d (fun i j σ' Y Q' h=>?_) (fun H4 M q=>?_)
      .rfl';exact h
      .rfl';exists O,_,rfl,SqL.of q,k _ (B.trans M)
    .refine .inl ⟨t,xs,rfl,SqT.of c,?_,fun u hu=>?_⟩
     .rintro ⟨z,_⟩
      have e1:HT.sIx xs.length 0 (some 1)=min 1 xs.length:=by
       have:=HT.sIx_nat xs.length 0 1;simpa using this
      rw [e1] at z
      cases xs with
      | nil=>exact hx0 rfl
      | cons x r=>simp at z
     .rw [yp3];have L:=yx (o:=(HO.tup xs.tail)) hu;have p:upd G u (HO.tup xs.tail) u=some (HO.tup xs.tail):=ya;generalize upd G u (HO.tup xs.tail)=H3 at L p ⊢;exists t,u,rfl,⟨_,_,SqT.of (L _ _ c),SqT.of p⟩,fun O d=>?_;refine yhk (xs:=xs) l (by omega) (SqT.of (L _ _ c)) (SqT.of p) d (fun i j σ' Y Q' h=>?_) (fun H4 M q=>?_)
      .rfl';exact h
      .rfl';exists O,_,rfl,SqL.of q,k _ (B.trans (L.trans M))
#synth yvr ["thing"] yso
inductive yeq (K:W.Frag) (vs:List V) (H:Hp) (Q:VK) (E':XK):Prop
 | mk (x b:_) (_:vs=[x]) (_:LkB K H x b) (_:∀ H',yq H H'->Q (.bl b) H')
theorem ynw (T:Txt K mg a):vk P w K mg base CX0 4 a.Iu a.Iv ["thing"] (yeq K):=by
 exists T.Fs.F.ok,yvr,i;obtain ⟨x,b,rfl,d,k⟩:=h;exists _,(yd (yt (xx (pcB vx T.A5 (pac (pv 0) (pa1 (zv (T:="tuple") rfl T.Co (by right))))) (xx (zl zy (pcB yo T.Ac (pa1 (pv 0))) ye (vh _)) (xx (xv (yw1 T) i.m T.Me (pa1 (ut uh (pv 0) ye (fun _ _=>rfl)))) (zu (xv (yxa T) i.m T.Mg (pa1 (ut uh (pv 0) ye (fun _ _=>rfl)))))))))),?_;exists 1,0;rcases d with ⟨n,e,l,rfl⟩ | ⟨t,r,rfl,c,d⟩
 .rfl';refine ψ e (Ú e) ?_;rfl';rw [bA l];exact ē (k _ (yq.refl _))
 .rfl';refine ψ (.tup c) (Ú (.tup c)) ?_;rfl';refine ŧ rfl ?_;rfl';refine ymk (SqT.of c) ?_;rfl';rcases d with ⟨u,rfl⟩ | ⟨y,z,n,rfl,e,d⟩
  .rw [bA (show ¬ ((r.length:Int)=2) by omega)];exact ē (k _ (yq.refl _))
  .refine ŧ rfl ?_;rfl';refine Ŧ (SqT.of c) (xr (j:=0) rfl) ?_;rfl';exists y,n,rfl,e,?_;rcases d with ⟨f,rfl⟩ | ⟨f,q⟩
   .rw [f];rfl';exact k _ (yq.refl _)
   .rw [f];rfl';refine Ŧ (SqT.of c) (xr (j:=1) rfl) ?_;rfl';exists z,b,rfl,q,k
#synth ywx ["thing"] ysb
def yfm (K:W.Frag) (C:Addr):Sp:=fun vs H Q E=>(∃ x n,vs=[x]/\xp K H x (.type n)/\n≠"list"/\E (.ref C) none H) \/
 ∃ (l:Addr) (xs:List V) (bs:List Bool),vs=[.ref l]/\H l=some (.lst xs)/\xs.length <= 1000/\yfj K H xs bs /\
  ((1 <= xs.length/\xs.length <= 6/\bs.all id=true)->∀ r H',H r=none->H' r=some (.lst xs)->yq H H'->Q (.ref r) H') /\
  (¬ (1 <= xs.length/\xs.length <= 6/\bs.all id=true)->∀ H',yq H H'->E (.ref C) none H')
theorem yl8 (T:Txt K mg a):vk P w K mg base (CXe P w) 5 a.Iw a.Ix ["thing"] (yfm K a.Ek):=by
 refine T.Ft.F.okE ywx (fun N H Q E h=>?_) (fun U A u s H N Q E J h=>?_)
 .rcases h with ⟨x,n,rfl,_⟩ | ⟨l,xs,f,rfl,_⟩
  .rfl
  .rfl
 .rcases h with ⟨x,n,rfl,G,R,k⟩ | ⟨l,xs,g,rfl,d,hz,q,O,v⟩
  .exists _,(yg (wz (PW.pt (ya2 (xq (xu (pcB vx T.A5 (pac (pv 0) (pa1 (zv (T:="list") rfl T.An (by right))))))) (ya2 (xq (ř uv uv ye (pcB yo T.Ac (pa1 (pv 0))) (vg rfl T.Cr))) (yav (xq (xu (pcB (zi rfl) T.Cn (pa1 (vq (js:=[]) (ys:=[]) rfl (we (pv 0)) (fun C X o Y=>(xv (ynw T) J.m T.Fs (pa1 (pv 0)))) rfl rfl (hyc:=yr) (hrel:=yr)))))))))) (yd (w5 rfl T.Q1 T.P7 (pa1 wy))) ve) (yd (yt (pcT wo T.An (pa1 (pv 0)))))),?_;refine yj (σ':=[some _]) rfl ?_;rfl';refine ψ G (ydd G) ?_;rfl';refine ysh R ?_;rfl';exists by walk_at "len",k
  .exists _,(yg (wz (PW.pt (ya2 (xq (xu (pcB vx T.A5 (pac (pv 0) (pa1 (zv (T:="list") rfl T.An (by right))))))) (ya2 (xq (ř uv uv ye (pcB yo T.Ac (pa1 (pv 0))) (vg rfl T.Cr))) (yav (xq (xu (pcB (zi rfl) T.Cn (pa1 (vq (js:=[]) (ys:=[]) rfl (we (pv 0)) (fun C X o Y=>(xv (ynw T) J.m T.Fs (pa1 (pv 0)))) rfl rfl (hyc:=yr) (hrel:=yr)))))))))) (yd (w5 rfl T.Q1 T.P7 (pa1 wy))) ve) (yd (yt (pcT wo T.An (pa1 (pv 0)))))),?_;refine yj (σ':=[some _]) rfl ?_;rfl';refine ψ (.lst d) (ydd (.lst d)) ?_;rfl';refine yte rfl ?_;rfl';refine zg (SqL.of d) ?_;rfl';refine z0 (fun W=>?_) (fun W=>?_)
   .rfl';refine yn6 (fun S=>?_) (fun S=>?_)
    .rfl';exists l,rfl,⟨_,SqL.of d⟩,fun D I=>?_;refine ε (K:=K) (xs:=xs) (Mp H D (fun i=>V.bl ((g[i]?).getD false))) (Mp.zero I) (fun _ _ _ p=>p.1.seq (SqL.of d)) (fun i y o B L p=>?_) (fun o p=>?_)
     .obtain ⟨c,b⟩:=p;have e:i < g.length:=by rw [<- q.1]; exact L
      rfl';exists y,g[i],rfl,(q.2 i y _ B (bo e)).same c,fun Z M=>?_;refine Mp.doneR I (y8 (by omega)) L (c.trans M) (M _ _ b) ?_;rw [bo e];rfl
     obtain ⟨c,b⟩:=p;rw [ylk g q.1] at b;rfl';exists D,_,rfl,SqL.of b,?_;have t:=c _ _ d
     cases hp:g.all id with
     | false =>
      rfl';exists by walk_at "len",v (by rw [hp]; rintro ⟨_,_,z⟩; cases z) _ c
     | true =>
      rfl';refine yc1 (SqL.of t) fun r j=>?_;exact O ⟨by omega,by omega,hp⟩ r _ (c.free j) ya (c.trans (yx j))
    .rfl';exists by walk_at "len",v (by omega) _ (yq.refl _)
   .rfl';exists by walk_at "len",v (by omega) _ (yq.refl _)
#synth ywi ["signs","place"] yrt
inductive ylb (K:W.Frag) (vs:List V) (H:Hp) (Q:VK) (E':XK):Prop
 | mk (l:Addr) (sg:List Int) (p:Int) (_:vs=[.ref l,.int p]) (_:SqL K H l (sg.map V.int)) (_:1 <= p) (_:Q (.int (yn4 sg p)) H)
theorem yxx (T:Txt K mg a):vk P w K mg base CX0 1 a.Iy a.Iz ["signs","place"] (ylb K):=by
 exists T.Mh.F.ok,ywi,n;obtain ⟨l,g,p,rfl,f,m,k⟩:=h;exists _,(yd (yt (jf (y7 uv (pv 1) (pcB yo T.Ac (pa1 (pv 0))) (vh _)) (ut j4 (pv 0) (vba yzq (pv 1)) (fun _ _=>rfl)) (vg rfl T.Na)))),?_;exists 2,0;rfl';refine zg f ?_;rw [bf];rfl';unfold yn4 at k;refine z0 (fun b=>?_) (fun b=>?_)
 .rw [if_pos b] at k;obtain ⟨c,e,_⟩:=yk2 m b;rw [e] at k;rfl';exact yci f (by rw [yqd,e]; rfl) k
 .rw [if_neg b] at k;rfl';exact k
#synth yvp ["look","signs","node"] yq5
def zt (K:W.Frag) (H:Hp) (k:Addr) (x:V) (ps:List Int):Prop:=∃ t,SqT K H k [x,.ref t]/\SqT K H t (ps.map V.int)/\(∀ p∈ps,1 <= p/\p <= 8)/\ps.length <= 4
theorem zt.same {H H':Hp} {k:Addr} {x:V} {ps:List Int} (S:yq H H') (h:zt K H k x ps):zt K H' k x ps:=by
 obtain ⟨t,c,b,a,d⟩:=h;exists t,S.tup c,S.tup b,a,d
def ctx (ps sg:List Int) (nd:Int):List Int:=ps.map (yn4 sg)++[nd]
def bkV (sg:List Int):V->V
 | .int p=>.int (yn4 sg p)
 | _=>.non
theorem yqk (sg ps:List Int):(ps.map V.int).map (bkV sg)=(ps.map (yn4 sg)).map V.int:=by
 rw [bS,bS];rfl
inductive yee (K:W.Frag) (vs:List V) (H:Hp) (Q:VK) (E':XK):Prop
 | mk (k l:Addr) (x:V) (ps sg:List Int) (nd:Int) (_:vs=[.ref k,.ref l,.int nd]) (_:zt K H k x ps) (_:SqL K H l (sg.map V.int)) (_:∀ r H',H r=none->H' r=some (.tup ((ctx ps sg nd).map V.int))->yq H H'->Q (.ref r) H')
theorem yyq (T:Txt K mg a):vk P w K mg base CX0 2 a.J0 a.J1 ["look","signs","node"] (yee K):=by
 exists T.Mi.F.ok,yvp,N;obtain ⟨W,l,x,f,o,O,rfl,⟨t,L,I,g,J⟩,R,k⟩:=h;exists _,(yd (yt (pcT ı T.Co (pa1 (yn zx (vq (js:=[1]) (ys:=["signs"]) rfl (ydr (ut uh (pv 0) ye (fun _ _=>rfl))) (fun C X B Y=>(xv (yxx T) N.m T.Mh (pac (pv 1) (pa1 (pv 0))))) rfl rfl (hyc:=(all_cons rfl yr)) (hrel:=(all_cons rfl yr))) (wx (pa1 (pv 2)))))))),?_;exists 3,0;rfl';refine Ŧ L (xr (j:=1) rfl) ?_;exists t,rfl,⟨_,I⟩,fun D z=>?_;have u:(f.map V.int).length < sizeLine:=y8 (by rw [bf]; omega);refine Ę (xs:=f.map V.int) (bkV o) I z (fun i y B G e b=>?_) (fun B e b=>?_)
 .obtain ⟨p,rfl,q,_,_⟩:=jm G;rfl';exists l,o,p,rfl,e.seq R,(g p q).1,?_;exact Mp.done z u G e b rfl
 .rw [yqk] at b;rfl';exists by walk_at "len",fun n hn=>?_
  exists hn,H3,S3,hn3;exists D,n,_,_,rfl,rfl,S3 _ _ b,hn3,xa (by rw [bf,bf]; show _+1 <= _; omega),fun c hc=>?_;exists hc,H4,S4,hc4;exists c,_,rfl,.inl ⟨SqL.of hc4,fun r d=>?_⟩;have S:=e.trans (S3.trans S4);refine k r _ (S.free d) (ya.trans ?_) (S.trans (yx d));unfold ctx;rw [bz];rfl
#synth ywz ["self","look"] yr4
inductive ygp (a:Ads) (vs:List V) (H:Hp) (Q:VK) (E':XK):Prop
 | mk (p dx lk:Addr) (kd:Fin 3) (_:vs=[.ref p,.ref lk]) (_:H p=some (.ins a.Aa dx [])) (_:∀ d H',H d=none->ω a H' p dx lk d kd (fun _=>none) (fun b=>b=d) 0->But p H H'->Q .non H')
theorem ywk (T:Txt K mg a):vk P w K mg base CX0 1 a.Fa a.J2 ["self","look"] (ygp a):=by
 exists T.E8.F.ok,ywz,C;obtain ⟨p,j,i,t,rfl,x,k⟩:=h;exists _,(yg (y6 (pv 0) (pv 1) rfl) (yd (y6 (pv 0) ylf rfl))),?_;exists 2,0;rfl';intro d l
 have g:H d=none:=by
  cases e:H d with
  | none=>rfl
  | some o =>
   by_cases z:d=p
   .rw [z,ya] at l; cases l
   .rw [yk z,e] at l; cases l
 have f:d≠p:=fun z=>by rw [z,x] at g; cases g
 have q:=uq (o':=HO.dT []) l (show upd H p (HO.ins a.Aa j ([("look",V.ref i)]:List (Str × V))) p=some (HO.ins a.Aa j ([("look",V.ref i)]:List (Str × V))) from ya);have c:upd (upd H p (HO.ins a.Aa j ([("look",V.ref i)]:List (Str × V)))) d (.dT []) d=some (.dT []):=ya;have r:But p H (upd (upd H p (HO.ins a.Aa j ([("look",V.ref i)]:List (Str × V)))) d (.dT [])):=fun b o e n=>by rw [yk (yb e g),yk n]; exact e
 generalize upd (upd H p (HO.ins a.Aa j ([("look",V.ref i)]:List (Str × V)))) d (.dT [])=D at q c r ⊢;rfl'
 refine k d _ g ⟨ya,fun b y=>⟨HO.dT [],by cases y; exact yf f c,rfl⟩,fun z=>f z.symm,rfl,fun B e=>(by cases (yf f c).symm.trans e; exact ⟨List.nodup_nil,fun _ z=>(nomatch z)⟩),[],fun _=>(0,0),yf f c,bp _,fun _ _=>rfl,fun _ _ z=>(nomatch z),fun _ _ _ _ z=>(nomatch z)⟩ (r.trans But.upd)
#synth yl7 ["self","signs","node","context"] ["self","signs","node"] ytj
inductive ygm (K:W.Frag) (a:Ads) (vs:List V) (H:Hp) (Q:VK) (E':XK):Prop
 | mk (p dx lk d sl:Addr) (kd:Fin 3) (f:List Int->Option Slt) (O:Addr->Prop) (m:Nat) (ps sg:List Int) (nd:Int) (_:vs=[.ref p,.ref sl,.int nd]) (_:ω a H p dx lk d kd f O m) (_:m < 1000000) (_:zt K H lk (.str (kdS kd)) ps) (_:SqL K H sl (sg.map V.int)) (_:∀ (q:Addr) (O':Addr->Prop) (H':Hp),ω a H' p dx lk d kd (ũ f (ctx ps sg nd) ((f (ctx ps sg nd)).getD (kd0 kd))) O' (m+1)->(∀ kvs,H' d=some (.dT kvs)->zz kvs (kI (ctx ps sg nd))=some (.ref q))->(∀ c,O' c->O c\/H c=none)->(∀ c,O c->O' c)->yi7 O H H'->Q (.ref q) H')
theorem yt4 (T:Txt K mg a):vk P w K mg base CX0 4 a.J3 a.J4 ["self","signs","node"] (ygm K a):=by
 exists T.Fu.F.ok,yl7,X;obtain ⟨p,dx,lk,d,sl,G,f,O,m,ps,sg,Y,rfl,hb,hm,hl,hs,k⟩:=h;have aa:=hb.me;exists _,(yg (yv (i:=3) yl7.nd rfl (Or.inl rfl) (xv (yyq T) X.m T.Mi (pac (ym (pv 0) rfl) (pac (pv 1) (pa1 (pv 2)))))) (yg (Ģ (wz (yh6 (yai (đ X) (pv 3) (ym (pv 0) rfl))) (yd (yhx (đ X) (ym (pv 0) rfl) (pv 3) (xv (yvx T) X.m T.Md (pa1 (ut uh (ym (pv 0) rfl) ye (fun _ _=>rfl)))) rfl)) ve)) (yd (yt (ú (đ X) (ym (pv 0) rfl) (pv 3) (fun _ _=>rfl)))))),?_;exists 3,1;rfl';exists lk,sl,_,ps,sg,Y,rfl,hl,hs,fun r H1 ac a6 S1=>?_;have l:H1 r=some (.tup ((kI (ctx ps sg Y)).map kV)):=by rw [yva]; exact a6
 generalize ctx ps sg Y=b at l k;have g:=hb.same S1;have y:=g.me;rfl';refine ylp (fun σ' H'=>σ'=[some (.ref p),some (.ref sl),some (.int Y),some (.ref r)]/\∃ O',ω a H' p dx lk d G (ũ f b ((f b).getD (kd0 G))) O' (m+1)/\(∀ c,O' c->O c\/H c=none)/\(∀ c,O c->O' c)/\yi7 O H H'/\H' r=some (.tup ((kI b).map kV))) ?_ ?_
 .obtain ⟨L,n,D,h2,S,R,h5⟩:=g.tb;rfl';exists d,_,rfl,Ó.t D l,?_
  cases hf:f b with
  | none =>
   rw [S b hf];rfl';refine ī ?_;rfl';obtain ⟨t,a5,a9,_,_⟩:=hl;refine Ŧ (S1.tup a5) (xr (j:=0) rfl) ?_;rfl';exists G,rfl,fun q dq H2 u Z I=>?_;rfl';have M:=I _ _ y;rfl';exists d,_,rfl,yls.t (I _ _ D) (I _ _ l) (y8 (by omega)),?_;have a0:=S1.trans I;have W:q≠d:=fun z=>by rw [z,D] at u; cases u
   have a1:p≠d:=fun z=>g.np (z ▸ g.dO);rfl';exists rfl,fun c=>O c\/c=q,⟨yf a1 M,fun c v=>?_,fun z=>?_,.inl g.dO,ytm.snoc (g.ky L D) (S b hf) ya,Ă L (kI b) (.ref q),fun j=>if j=b then (q,dq) else n j,ya,?_,fun j J=>?_,fun j s' J=>?_,fun j1 j2 s1 s2 e1 e2 B=>?_⟩,fun c v=>?_,fun c v=>.inl v,fun c o e no=>?_,yf (wu (I _ _ l) (I _ _ D) (by intro z; cases z)) (I _ _ l)
   .rcases v with v | rfl
    .obtain ⟨o,ho,hi⟩:=g.own c v;by_cases z:c=d
     .rw [z];exists _,ya,rfl
     .exists o,yf z (I _ _ ho),hi
    .obtain ⟨C,fs,eo⟩:=ħ a dq (kd0 G);exists _,yf W Z,by rw [eo]; rfl
   .rcases z with z | z
    .exact g.np z
    .rw [z] at y;rw [y] at u;cases u
   .rw [ŏ _ (S b hf),bj];show _+1 <= m+1;omega
   .unfold ũ at J
    split at J
    .cases J
    .rename_i hne
     rw [œ,if_neg fun z=>hne (yni z)];exact S j J
   .unfold ũ at J
    split at J
    .rename_i he
     subst he;cases J;dsimp only;rw [if_pos rfl,œ,if_pos rfl];exists rfl,yf W Z,ynq G,yje G,.inr rfl
    .rename_i hne
     obtain ⟨U,x,q3,q4,q5⟩:=R j s' J;dsimp only;rw [if_neg hne,œ,if_neg fun z=>hne (yni z)]
     have a2:(n j).1≠d:=by
      obtain ⟨C,fs,eo⟩:=ħ a (n j).2 s';rw [eo] at x;exact wu x D (by intro z; cases z)
     exists U,yf a2 (I _ _ x),q3,q4,.inl q5
   .unfold ũ at e1 e2;dsimp only at B;by_cases z1:j1=b
    .by_cases z2:j2=b
     .rw [z1,z2]
     .rw [if_neg z2] at e2;rw [if_pos z1,if_neg z2] at B;obtain ⟨_,x,_⟩:=R j2 s2 e2;have B:q=(n j2).1:=B;rw [<- B,u] at x;cases x
    .rw [if_neg z1] at e1;by_cases z2:j2=b
     .rw [if_neg z1,if_pos z2] at B;obtain ⟨_,x,_⟩:=R j1 s1 e1;have B:(n j1).1=q:=B;rw [B,u] at x;cases x
     .rw [if_neg z2] at e2;rw [if_neg z1,if_neg z2] at B;exact h5 j1 j2 s1 s2 e1 e2 B
   .rcases v with v | rfl
    .exact .inl v
    .exact .inr (S1.free u)
   .exact yf (fun z=>no (z ▸ g.dO)) (a0 _ _ e)
  | some s' =>
   obtain ⟨U,x,q3,q4,q5⟩:=R b s' hf;rw [U];rfl';exists rfl,O,?_,fun c v=>.inl v,fun c v=>v,fun c o e _=>S1 _ _ e,l
   have ef:ũ f b ((some s').getD (kd0 G))=f:=by
    funext j
    unfold ũ
    split
    .rename_i z
     rw [z,hf];rfl
    .rfl
   rw [ef];exists g.me,g.own,g.np,g.dO,g.ky,L,n,D,Nat.le_succ_of_le h2,S,R,h5
 .rintro σ' H2 ⟨rfl,O',N,hO,hM,B2,a3⟩;have M:=N.me;obtain ⟨L,n,D,h2,S,R,h5⟩:=id N.tb;have a4:ũ f b ((f b).getD (kd0 G)) b=some ((f b).getD (kd0 G)):=by unfold ũ; rw [if_pos rfl]
  obtain ⟨U,x,q3,q4,q5⟩:=R b _ a4;rfl';exists d,_,rfl,by rw [<- U]; exact Ó.t D a3,?_
  exact k (n b).1 O' H2 N (fun a8 e=>by rw [D] at e; cases e; exact U) hO hM B2
#synth yuh ["self","many"] ysn
theorem yxc (T:Txt K mg a):vk P w K mg base CX0 1 a.Fb a.J5 ["self","many"] (yjj a):=by
 exists T.E9.F.ok,yuh,o;obtain ⟨p,g,n,rfl,q,m,e,k⟩:=h;exists _,(yd (y6 (pv 0) (yn yty (wx (pa1 (vg rfl T.Dm))) (pv 1)) rfl)),?_;exists 2,0;rfl';exists by walk_at "len",fun r hr0=>?_
 exists hr0,H1,S1,e1;rfl';exists r,n,_,rfl,rfl,e1,by omega,by omega,xa (by show 1 * (n:Int).toNat <= 16000000; omega),fun l hl=>?_
 rw [yf0];exists hl,H2,S2,e2;have b:=S1.trans S2;have j:=b _ _ e;rfl';have d:l≠p:=fun z=>by rw [z,S1 _ _ e] at hl; cases hl
 exact k l _ (S1.free hl) ⟨ya,yf d e2⟩ ((But.of b).trans But.upd)
#synth yyz ["self","chances"] ytf
theorem ywy (T:Txt K mg a):vk P w K mg base CX0 1 a.J6 a.J7 ["self","chances"] (yfx K a):=by
 exists T.Fv.F.ok,yyz,hr;obtain ⟨p,dx,l,c,v,z,n,rfl,Z,U,e,W,⟨hp,B⟩,N,k⟩:=h;exists _,(yd (yt (yn vi (pcB (π rfl) T.Dl (pa1 (yc3 (js:=[]) (ys:=[]) (xs:=["weight","chance"]) (g:=ytw K 2 (jl (wj 0) (jl (wj 1) ylx))) rfl (yl1 rfl T.Gy (pac (ym (pv 0) rfl) (pa1 (pv 1)))) (fun C s2 f fp=>(yn w4 (pv 0) (pv 1))) rfl (fun C s2 f fp=>yaw rfl (xt (wt (i:=0) (show List.Nodup ((["weight","chance"]:List Str)++([]:List Str)) by right) rfl (Or.inl rfl)) (xt (wt (i:=1) (show List.Nodup ((["weight","chance"]:List Str)++([]:List Str)) by right) rfl (Or.inl rfl)) ù))) rfl (hyc:=yr) (hrel:=yr)))) (pcB (π rfl) T.Dl (pa1 (ym (pv 0) rfl)))))),?_;exists 2,0;have d:z.length=v.length:=by rw [e.len,W.len]
 rfl';exists l,c,rfl,⟨_,_,SqL.of B,N⟩,fun D L=>?_;refine Ĝ (fun i=>V.int ((v[i]?).getD 0 * (z[i]?).getD 0)) (SqL.of B) N (by rw [bf,bf,d]) L (fun i x y f G a1 hx hy t b m j=>?_) (fun f t b=>?_)
 .obtain ⟨v1,S,rfl⟩:=yiw j;obtain ⟨w,rfl,M,wi,Y⟩:=jm hx;obtain ⟨u,rfl,um,ui,_⟩:=jm hy;have w1:=e.one w M;have w2:=e.top w M;have O:=t.trans (yx (o:=HO.tup [V.int w,V.int u]) m);have q:=uq (o':=HO.tup [V.int w,V.int u]) m b;have r:upd f G (HO.tup [V.int w,V.int u]) G=some (.tup [V.int w,V.int u]):=ya;generalize upd f G (HO.tup [V.int w,V.int u])=X at O q r;refine ya0 (SqT.of r) rfl ?_;show jl (wj 0) (jl (wj 1) ylx) [V.int w,V.int u] (v1 :: S :: w6 [] [some (V.ref p),some (V.ref c)]) X _;rfl';exists ⟨[some (.int w),some (.int u)],rfl,rfl⟩,?_;rfl';refine Mp.doneR L (y8 (by rw [bf,e.len]; omega)) (by rw [bf]; exact Y) O q ?_;rw [wi,ui];rfl
 .have b:=yc0 b (yn0 (g:=fun w c=>w * c) d);have a2:=t _ _ hp;have I:=t _ _ B;have p1:=e.pos Z;have p2:=e.small U;rfl';exists D,_,rfl,SqL.of b,?_;rfl';exists l,_,rfl,SqL.of I,?_;rfl';exact k _ t
#synth Ħ ["self","chances","bit","shares","whole","own","grown","dropped"] ["self","chances","bit"] yrk
theorem yvh (T:Txt K mg a):vk P w K mg base (CXe P w) 5 a.J8 a.J9 ["self","chances","bit"] (yf5 K a a.Bz):=by
 exists T.Fw.F.okE,Ħ,hr;obtain ⟨p,dx,l,c,B,I,n,x,m,rfl,n1,n6,hw,hc,⟨hp,hl⟩,hq,ty,k1,k2⟩:=h;refine yi (yp (ud (þ T) hr.m T.Ci yz (pa1 (pv 2)))) ?_;refine yi (yj3 (i:=3) (js:=[2]) (ys:=["bit"]) (xs:=["weight","chance"]) (g:=ytw K 2 (jl (wj 0) (jl (wj 1) ylx))) Ħ.nd rfl rfl rfl (yl1 rfl T.Gy (pac (ym (pv 0) rfl) (pa1 (pv 1)))) (fun C s2 J fp=>(yn w4 (pv 0) (ud (yt0 T) hr.m T.Mc ww (pac (pv 1) (pa1 (pv 2)))))) rfl (fun C s2 J fp=>yaw rfl (xt (wt (i:=0) (show List.Nodup ((["weight","chance"]:List Str)++(["bit"]:List Str)) by right) rfl (Or.inl rfl)) (xt (wt (i:=1) (show List.Nodup ((["weight","chance"]:List Str)++(["bit"]:List Str)) by right) rfl (Or.inl rfl)) ù))) rfl (hyc:=(all_cons rfl yr)) (hrel:=(all_cons rfl yr))) ?_;refine yi (yv (i:=4) Ħ.nd rfl (Or.inr rfl) (pcB (π rfl) T.Dl (pa1 (pv 3)))) ?_;refine yi (yv (i:=5) Ħ.nd rfl (Or.inr rfl) (yn w4 (vg rfl T.Gz) (pcB yo T.Ac (pa1 (pv 3))))) ?_;refine yi (ō (i:=6) (js:=[4,5]) (ys:=["whole","own"]) Ħ.nd rfl rfl rfl (we (pv 3)) (fun C s2 J fp=>(yn vn (yn w4 (pv 2) (pv 0)) (pv 1))) rfl rfl (hyc:=(all_cons rfl (all_cons rfl yr))) (hrel:=(all_cons rfl (all_cons rfl yr)))) ?_;refine yi (yv (i:=7) Ħ.nd rfl (Or.inr rfl) (pcB (ô rfl) T.Gw (pac (yn zd (yd5 PySem.F.plainAttrs_int PySem.F.slot_int_bit_length PySem.F.type_int_bit_length yp9 (pcB (π rfl) T.Dl (pa1 (pv 6)))) (vg rfl T.Dn)) (pa1 ye)))) ?_;exists _,(yd (y6 (pv 0) (vq (js:=[7]) (ys:=["dropped"]) rfl (we (pv 6)) (fun C s2 J fp=>(yn yy9 (pv 0) (pv 1))) rfl rfl (hyc:=(all_cons rfl yr)) (hrel:=(all_cons rfl yr))) rfl)),?_;exists 3,5;have j:I.length=B.length:=by rw [hw.len,hc.len]
 rfl';exists x,m,rfl,ty,fun hx=>?_,k2;obtain ⟨b,rfl,b0,b1⟩:=yd2 hx;have k:=k1 b rfl b0 b1;rfl';exists l,c,rfl,⟨_,_,SqL.of hl,hq⟩,fun D hD=>?_;refine Ĝ (fun i=>V.int ((B[i]?).getD 0 * giv ((I[i]?).getD 0) b)) (SqL.of hl) hq (by rw [bf,bf,j]) hD (fun i x y J tt a7 hx N S2 d U S=>?_) (fun J S2 d=>?_)
 .obtain ⟨v1,v2,rfl⟩:=yiw S;obtain ⟨w,rfl,wm,wi,il⟩:=jm hx;obtain ⟨u,rfl,um,ui,_⟩:=jm N;have w1:=hw.one w wm;have w2:=hw.top w wm;have a1:=ydp (yx6 hc um);have a0:=ycb b0 b1;have L:=S2.trans (yx (o:=HO.tup [V.int w,V.int u]) U);have W:=uq (o':=HO.tup [V.int w,V.int u]) U d;have X:upd J tt (HO.tup [V.int w,V.int u]) tt=some (.tup [V.int w,V.int u]):=ya;generalize upd J tt (HO.tup [V.int w,V.int u])=H3 at L W X;refine ya0 (SqT.of X) rfl ?_;show jl (wj 0) (jl (wj 1) ylx) [V.int w,V.int u] (v1 :: v2 :: w6 [2] [some (V.ref p),some (V.ref c),some (V.int b),none,none,none,none,none]) H3 _;rfl';exists ⟨[some (.int w),some (.int u)],rfl,rfl⟩,?_;rfl';exists .int u,_,.int b,_,rfl,.int u,.int b,fun z=>(by rw [a1] at z; cases z),fun _ z=>(by rw [a0] at z; cases z),fun c' b' ec eb _ _=>?_;cases ec;cases eb;rfl';refine Mp.doneR hD (y8 (by rw [bf,hw.len]; omega)) (by rw [bf]; exact il) L W ?_;rw [wi,ui];rfl
 .have d:J D=some (.lst ((shL B I b).map V.int)):=yc0 d (yn0 (g:=fun w c=>w * giv c b) j);have q:(shL B I b).length=n:=by rw [yb8 j.symm,hw.len]
  have a4:=S2 _ _ hp;have ek:lrn B I b=(grL (shL B I b)).map fun v=>v / 2 ^ tOf (grL (shL B I b)).sum:=rfl;rw [ek] at k;generalize shL B I b=M at d q k;have eg:grL M=M.map fun s=>31 * (n:Int) * s+M.sum:=by rw [<- q]; rfl
  rfl';exists D,_,rfl,SqL.of d,?_;rfl';refine zg (SqL.of d) ?_;rw [bf,q];rfl';exists D,rfl,⟨_,SqL.of d⟩,fun G hG=>?_;refine zh (onI fun s=>31 * (n:Int) * s+M.sum) (SqL.of d) hG (fun i y H3 N L f=>?_) (fun H3 L f=>?_)
  .obtain ⟨s',rfl,_,_,il⟩:=jm N;show tOp _ _ _ (some (V.int s') :: w6 [4,5] [some (V.ref p),some (V.ref c),some (V.int b),some (V.ref D),some (V.int M.sum),some (V.int (31 * (n:Int))),none,none]) H3 _;rfl';exact Mp.done hG (y8 (by rw [bf,q]; omega)) N L f rfl
  .rw [yhh,<- eg] at f;have Y:(grL M).length=n:=by rw [yhz,q]
   generalize grL M=O at f k Y;have R:=L _ _ a4;rfl';exists G,_,rfl,SqL.of f,?_;rfl';exists _,_,rfl,?_
   have et:(if (0:Int) > ((Builtin.Int.intBits O.sum:Nat):Int) - 48 then (0:Int) else ((Builtin.Int.intBits O.sum:Nat):Int) - 48)=((tOf O.sum:Nat):Int):=by
    show _=(((ylm O.sum) - 48:Nat):Int);have e:Builtin.Int.intBits O.sum=ylm O.sum:=rfl;rw [e]
    split <;> omega
   rw [et];generalize tOf O.sum=t at k;rfl';exists G,rfl,⟨_,SqL.of f⟩,fun Z hZ=>?_;refine zh (onI fun v=>v / 2 ^ t) (SqL.of f) hZ (fun i y H4 N S4 r=>?_) (fun H4 S4 r=>?_)
   .obtain ⟨s',rfl,_,_,il⟩:=jm N;show tOp _ _ _ (some (V.int s') :: w6 [7] [some (V.ref p),some (V.ref c),some (V.int b),some (V.ref D),some (V.int M.sum),some (V.int (31 * (n:Int))),some (V.ref G),some (V.int (t:Int))]) H4 _;rfl';refine i_I (Int.natCast_nonneg t) ?_;exact Mp.done hZ (y8 (by rw [bf,Y]; omega)) N S4 r rfl
   .rw [yhh] at r;have a5:=S4 _ _ R;rfl';have nz:Z≠p:=fun z=>by rw [z,R] at hZ; cases hZ
    have a2:=S2.trans (L.trans S4);exact k Z _ ((S2.trans L).free hZ) ⟨ya,yf nz r⟩ ((But.of a2).trans But.upd)
#synth yvv ["self"] ysj
theorem ω.sqt {H H':Hp} {dx lk d:Addr} {kd:Fin 3} {f:List Int->Option Slt} {O:Addr->Prop} {m:Nat} (h:ω a H p dx lk d kd f O m) (B:yi7 O H H') {t:Addr} {xs:List V} (e:SqT K H t xs):SqT K H' t xs:=by
 have g:∀ o:HO,H t=some o->yn8 o=false->H' t=some o:=fun o i j=>B _ _ i fun z=>by
  obtain ⟨k,c,b⟩:=h.own t z;rw [i] at c;cases c;rw [j] at b;cases b
 rcases e with (e | ⟨o,e⟩) | e
 .exact .inl (.inl (g _ e rfl))
 .exact .inl (.inr ⟨o,g _ e rfl⟩)
 .exact .inr e
theorem ω.up {H:Hp} {dx lk d:Addr} {kd:Fin 3} {f:List Int->Option Slt} {O:Addr->Prop} {m:Nat} (h:ω a H p dx lk d kd f O m) (hm:m <= m'):ω a H p dx lk d kd f O m':=by
 obtain ⟨c,b,g,i,e⟩:=h.tb;exists h.me,h.own,h.np,h.dO,h.ky,c,b,g,bN i hm,e
theorem zt.mvT {H H':Hp} {k:Addr} {x:V} {ps:List Int} (h:zt K H k x ps) (h1:∀ t xs,SqT K H t xs->SqT K H' t xs):zt K H' k x ps:=by
 obtain ⟨t,b,a,c,d⟩:=h;exists t,h1 _ _ b,h1 _ _ a,c,d
def refs (g:Nat->Addr) (n:Nat):List V:=(List.range n).map fun i=>V.ref (g i)
theorem vv (g:Nat->Addr) (n:Nat):(refs g n).length=n:=by unfold refs; rw [bf,bU]
theorem jg {g:Nat->Addr} {n:Nat} {x:V} (h:(refs g n)[i]?=some x):x=.ref (g i)/\i < n:=by
 have a:i < n:=by
  have:=(bM.mp h).1;rw [vv] at this;exact this
 unfold refs at h;rw [br,cD a] at h;exists (bF h).symm,a
theorem η (g:Nat->Addr) (n:Nat):refs g (n+1)=refs g n++[.ref (g n)]:=by
 unfold refs;rw [List.range_succ,bz];rfl
theorem z9 {g h:Nat->Addr} {n:Nat} (e:∀ i,i < n->g i=h i):refs g n=refs h n:=by
 unfold refs;exact List.map_congr_left fun i a=>by rw [e i (cj.mp a)]
structure Bks (K:W.Frag) (a:Ads) (H:Hp) (n:Nat) (bk dx lk dd:Nat->Addr) (kd:Nat->Fin 3) (ps:Nat->List Int) (f:Nat->List Int->Option Slt) (O:Nat->Addr->Prop) (m:Nat):Prop where
 look:∀ i,i < n->zt K H (lk i) (.str (kdS (kd i))) (ps i)
 b:∀ i,i < n->ω a H (bk i) (dx i) (lk i) (dd i) (kd i) (f i) (O i) m
 dj:∀ i j c,i < n->j < n->i≠j->O i c->¬ O j c
 nb:∀ i j,i < n->j < n->¬ O i (bk j)
def AtS (H:Hp) (d:Addr) (k:List Int) (q:Addr):Prop:=∀ kvs,H d=some (.dT kvs)->zz kvs (kI k)=some (.ref q)
theorem ω.slot {H:Hp} {dx lk d:Addr} {kd:Fin 3} {f:List Int->Option Slt} {O:Addr->Prop} {m:Nat} {k:List Int} {s:Slt} (h:ω a H p dx lk d kd f O m) (hf:f k=some s) (hq:AtS H d k q):∃ dq,H q=some (oS a dq s)/\s.ok/\s.kind=kd/\O q:=by
 obtain ⟨b,n,i,u,t,j,v⟩:=h.tb;obtain ⟨o,g,c,l,r⟩:=j k s hf;have e:=hq b i;rw [o] at e;injection e with e;injection e with e;subst e;exists _,g,c,l,r
theorem ω.told {H H':Hp} {dx lk d:Addr} {kd:Fin 3} {f:List Int->Option Slt} {O:Addr->Prop} {m:Nat} {k:List Int} {s:Slt} {b:Int} (h:ω a H p dx lk d kd f O m) (hf:f k=some s) (hq:AtS H d k q) (b0:0 <= b) (b1:b <= 1)
  (h3:H' q=some (oS a dq (s.see b))) (B:But q H H'):ω a H' p dx lk d kd (ũ f k (s.see b)) O m:=by
 have E:=h.me;obtain ⟨u,l,r,N,D,K,L⟩:=id h.tb;obtain ⟨I,G,U,S,J⟩:=K k s hf;have e:=hq u r;rw [I] at e;injection e with e;injection e with e;have A:p≠q:=fun z=>h.np (by rw [z,<- e]; exact J)
 have v:d≠q:=fun z=>by
  obtain ⟨C,Y,x⟩:=ħ a (l k).2 s;rw [e,<- z,r,x] at G;cases G
 exists B _ _ E A,fun c R=>?_,h.np,h.dO,h.ky.mv r (B _ _ r v),u,fun j=>if j=k then (q,dq) else l j,B _ _ r v,N,fun j i=>?_,fun j n i=>?_,fun y F W s2 Q e2 el=>?_
 .obtain ⟨o,ho,T⟩:=h.own c R;by_cases z:c=q
  .rw [z];obtain ⟨C,Y,x⟩:=ħ a dq (s.see b);exists _,h3,by rw [x]; rfl
  .exists o,B _ _ ho z,T
 .refine D j ?_;unfold ũ at i
  split at i
  .cases i
  .exact i
 .unfold ũ at i;by_cases z:j=k
  .rw [if_pos z] at i;cases i;subst z;dsimp only;rw [if_pos rfl];exists by rw [I,e],h3,Slt.see_ok U b0 b1,(yjx s b).trans S,e ▸ J
  .rw [if_neg z] at i;obtain ⟨M,P,Z,X,p5⟩:=K j n i;dsimp only;rw [if_neg z];exists M,B _ _ P (fun w=>z (L j k n s i hf (w.trans e.symm))),Z,X,p5
 .have g:∀ j n,ũ f k (s.see b) j=some n->∃ t,f j=some t:=fun j n h=>by
   unfold ũ at h;by_cases z:j=k
   .exists s,by rw [z]; exact hf
   .rw [if_neg z] at h;exists n,h
  obtain ⟨t1,f1⟩:=g y W Q;obtain ⟨t2,f2⟩:=g F s2 e2;refine L y F t1 t2 f1 f2 ?_
  have yn4:∀ j,(if j=k then ((q,dq):Addr × Addr) else l j).1=(l j).1:=fun j=>by
   by_cases z:j=k
   .rw [if_pos z,z];exact e.symm
   .rw [if_neg z]
  rw [<- yn4 y,<- yn4 F];exact el
theorem AtS.told {H H':Hp} {dx lk d:Addr} {kd:Fin 3} {f:List Int->Option Slt} {O:Addr->Prop} {m:Nat} {k:List Int} (h:ω a H p dx lk d kd f O m) {r:Addr} (hd:d≠r) (B:But r H H') (hq:AtS H d k q):AtS H' d k q:=fun g e=>by
 obtain ⟨b,i,c,_⟩:=h.tb;rw [B _ _ c hd] at e;cases e;exact hq _ c
section
variable {H H':Hp} {n m:Nat} {bk dx lk dd:Nat->Addr} {kd:Nat->Fin 3} {ps:Nat->List Int} {f:Nat->List Int->Option Slt}
theorem Bks.frame (h:Bks K a H n bk dx lk dd kd ps f O m) {O2:Addr->Prop} (B:yi7 O2 H H') (dj:∀ i b,i < n->O i b->¬ O2 b) (hp:∀ i,i < n->¬ O2 (bk i)) (ht:∀ t xs,SqT K H t xs->SqT K H' t xs):Bks K a H' n bk dx lk dd kd ps f O m :=
 ⟨fun i c=>(h.look i c).mvT ht,fun i c=>(h.b i c).frame B (fun b d=>dj i b c d) (hp i c),h.dj,h.nb⟩
theorem Bks.same (h:Bks K a H n bk dx lk dd kd ps f O m) (S:yq H H'):Bks K a H' n bk dx lk dd kd ps f O m :=
 h.frame (O2:=fun _=>False) (fun b o e _=>S b o e) (fun _ _ _ _ z=>z) (fun _ _ z=>z) fun _ _ e=>S.tup e
theorem Bks.move (h:Bks K a H n bk dx lk dd kd ps f O m) (hj:j < n) {f':List Int->Option Slt} {O':Addr->Prop} (hm:m <= m') (hb:ω a H' (bk j) (dx j) (lk j) (dd j) (kd j) f' O' m') (hO:∀ c,O' c->O j c\/H c=none) (B:yi7 (O j) H H') :
  Bks K a H' n bk dx lk dd kd ps (fun i=>if i=j then f' else f i) (fun i=>if i=j then O' else O i) m':=by
 have x:=h.b j hj
 have g:∀ q c,q < n->q≠j->O q c->¬ O' c:=fun q c C A w E=>by
  rcases hO c E with v | v
  .exact h.dj q j c C hj A w v
  .obtain ⟨o,D,_⟩:=(h.b q C).own c w;rw [v] at D;cases D
 exists fun i d=>(h.look i d).mvT fun t F e=>x.sqt B e,fun i d=>?_,fun i l c d p u r k=>?_,fun i l d p e=>?_
 .try dsimp only
  by_cases z:i=j
  .subst z;rw [if_pos rfl,if_pos rfl];exact hb
  .rw [if_neg z,if_neg z];exact ((h.b i d).frame B (fun b y=>h.dj i j b d hj z y) (h.nb j i hj d)).up hm
 .try dsimp only at r k
  by_cases z1:i=j
  .rw [if_pos z1] at r;have s:l≠j:=fun w=>u (z1.trans w.symm);rw [if_neg s] at k;exact g l c p s k r
  .rw [if_neg z1] at r;by_cases s:l=j
   .rw [if_pos s] at k;exact g i c d z1 r k
   .rw [if_neg s] at k;exact h.dj i l c d p u r k
 .try dsimp only at e
  by_cases z:i=j
  .rw [if_pos z] at e;rcases hO _ e with v | v
   .exact h.nb j l hj p v
   .rw [(h.b l p).me] at v;cases v
  .rw [if_neg z] at e;exact h.nb i l d p e
theorem AtS.move (h:Bks K a H n bk dx lk dd kd ps f O m) (hi:i < n) (hj:j < n) (hij:i≠j) (B:yi7 (O j) H H') {k:List Int} (hq:AtS H (dd i) k q):AtS H' (dd i) k q:=fun g e=>by
 obtain ⟨c,l,d,_⟩:=(h.b i hi).tb;rw [B _ _ d (h.dj i j _ hi hj hij (h.b i hi).dO)] at e;cases e;exact hq _ d
theorem Bks.nlst (h:Bks K a H n bk dx lk dd kd ps f O m) {l:Addr} {xs:List V} (hl:H l=some (.lst xs)):∀ i,i < n->¬ O i l:=fun i e z=>by
 obtain ⟨o,d,c⟩:=(h.b i e).own l z;rw [hl] at d;cases d;cases c
end
def ylv (n:Nat) (kd:Nat->Fin 3) (f:Nat->List Int->Option Slt) (g:Nat->List Int->Slt):Prop:=∀ i,i < n->∀ k,(f i k).getD (kd0 (kd i))=g i k
theorem ylv.put {n:Nat} {kd:Nat->Fin 3} {f:Nat->List Int->Option Slt} {g:Nat->List Int->Slt} (h:ylv n kd f g) (j:Nat) (hj:j < n) (k:List Int):ylv n kd (fun i=>if i=j then ũ (f j) k ((f j k).getD (kd0 (kd j))) else f i) g:=fun i a b=>by
 dsimp only;by_cases z:i=j
 .subst z;rw [if_pos rfl];unfold ũ;by_cases w:b=k
  .rw [if_pos w,w];exact h i a k
  .rw [if_neg w];exact h i a b
 .rw [if_neg z];exact h i a b
inductive yev (K:W.Frag) (a:Ads) (vs:List V) (H:Hp) (Q:VK) (E':XK):Prop
 | mk (p dp ll bl mp el pl0:Addr) (nd:Int) (sg:List Int) (n m:Nat) (bk dx lk dd:Nat->Addr) (kd:Nat->Fin 3) (ps:Nat->List Int) (f:Nat->List Int->Option Slt) (O:Nat->Addr->Prop) (g:Nat->List Int->Slt) (_:vs=[.ref p]) (_:H p=some (.ins a.A2 dp (Õ (.ref ll) (.ref bl) (.ref mp) (.ref el) (.int nd) (.ref pl0)))) (_:H bl=some (.lst (refs bk n))) (_:H el=some (.lst (sg.map V.int))) (_:Bks K a H n bk dx lk dd kd ps f O m) (_:ylv n kd f g) (_:n <= 6) (_:m+10 < 1000000) (_:(∀ i,i < n->¬ O i p)) (_:∀ (pl:Addr) (sl:Nat->Addr) (f':Nat->List Int->Option Slt) (O':Nat->Addr->Prop) (H':Hp),H' p=some (.ins a.A2 dp (Õ (.ref ll) (.ref bl) (.ref mp) (.ref el) (.int nd) (.ref pl)))->H' pl=some (.lst (refs sl n))->H pl=none ->
  Bks K a H' n bk dx lk dd kd ps f' O' (m+n)->ylv n kd f' g->(∀ j,j < n->(∃ s,f' j (ctx (ps j) sg nd)=some s)/\AtS H' (dd j) (ctx (ps j) sg nd) (sl j))->(∀ j c,j < n->O' j c->O j c\/H c=none) ->
  (∀ c o,H c=some o->c≠p->(∀ j,j < n->¬ O j c)->H' c=some o)->(∀ c o,H c=some o->∃ o',H' c=some o')->Q .non H')
theorem ym7 (T:Txt K mg a):vk P w K mg base CX0 5 a.Jb a.Jc ["self"] (yev K a):=by
 exists T.Da.F.ok,yvv,hr;obtain ⟨p,dp,ll,bl,mp,el,ae,M,S,n,m,bk,dx,lk,dd,kd,L,f,O,g,rfl,hp,X,a3,hB,hA,n6,hm,np,k⟩:=h;exists _,(yd (y6 (pv 0) (vq (js:=[0]) (ys:=["self"]) rfl (we (ym (pv 0) rfl)) (fun C s2 H2 fp=>(xo (pv 0) T.C8 T.Fu.m (yt4 T) hr.m T.Fu.B .nil wv (pac (yb5 (K:=K) rfl (pv 1) rfl) (pa1 (yb5 (K:=K) rfl (pv 1) rfl))))) rfl rfl (hyc:=(all_cons rfl yr)) (hrel:=(all_cons rfl yr))) rfl)),?_;exists 1,0;rfl';exists bl,rfl,⟨_,SqL.of X⟩,fun D N=>?_;have aa:=hB.nlst X;have a9:=hB.nlst a3;refine Ä (K:=K) (xs:=refs bk n) (fun i G=>∃ (y:Nat->Addr) (R:Nat->List Int->Option Slt) (J:Nat->Addr->Prop),G D=some (.lst (refs y i))/\Bks K a G n bk dx lk dd kd L R J (m+i)/\ylv n kd R g/\(∀ j,j < i->(∃ s,R j (ctx (L j) S M)=some s)/\AtS G (dd j) (ctx (L j) S M) (y j)) /\
  (∀ j c,j < n->J j c->O j c\/H c=none)/\(∀ c o,H c=some o->(∀ j,j < n->¬ O j c)->G c=some o)/\(∀ c o,H c=some o->∃ o',G c=some o'))
  ⟨fun _=>0,f,O,ya,hB.same (yx N),hA,fun j d=>absurd d (bY j),fun j c _ z=>.inl z,fun c o e _=>uq N e,fun c o e=>⟨o,uq N e⟩⟩ (fun i G _ z=>?_) (fun i x G hx hi z=>?_) (fun G z=>?_)
 .obtain ⟨_,_,_,_,_,_,_,_,w,_⟩:=z;exact SqL.of (w _ _ X aa)
 .obtain ⟨y,R,J,gD,r,gA,gS,Y,gF,gL⟩:=z;obtain ⟨rfl,l⟩:=jg hx;have I:=gF _ _ hp np;have a1:=gF _ _ a3 a9;have ah:=(r.b i l).me;show yce _ _ _ _ _ _ _ (some (V.ref (bk i)) :: w6 [0] [some (V.ref p)]) G _;rfl';exists bk i,dx i,lk i,dd i,el,kd i,R i,J i,m+i,L i,S,M,rfl,r.b i l,by omega,r.look i l,SqL.of a1,fun q O2 G2 a0 hv a6 ad B2=>?_
  have nD:=r.nlst gD;have u:G2 D=some (.lst (refs y i)):=B2 _ _ gD (nD i l);refine u9 (n:=(refs bk n).length) u (y8 (by rw [vv]; omega)) hi ?_;have M2:=r.move l (Nat.le_succ (m+i)) a0 a6 B2;have a2:=M2.nlst u;have W:∀ c o,G2 c=some o->c≠D->upd G2 D (.lst (refs y i++[V.ref q])) c=some o:=fun c o e U=>yf U e
  have M3:=M2.frame (O2:=fun c=>c=D) (fun c o e U=>W c o e U) (fun j c d w z=>a2 j d (z ▸ w)) (fun j d z=>by
   have:=(M2.b j d).me;rw [z,u] at this
   cases this) (fun t xs e=>by
   rcases e with (e | ⟨o,e⟩) | e
   .exact .inl (.inl (W _ _ e (fun z=>by rw [z,u] at e; cases e)))
   .exact .inl (.inr ⟨o,W _ _ e (fun z=>by rw [z,u] at e; cases e)⟩)
   .exact .inr e)
  have up:∀ j,j < n->AtS G2 (dd j) (ctx (L j) S M) (if j=i then q else y j)->AtS (upd G2 D (.lst (refs y i++[V.ref q]))) (dd j) (ctx (L j) S M) (if j=i then q else y j):=fun j d h =>
   h.told (M2.b j d) (fun z=>a2 j d (by rw [<- z]; exact (M2.b j d).dO)) (fun c o e U=>W c o e U)
  exists fun j=>if j=i then q else y j,_,_,?_,M3,gA.put i l _,fun j d=>?_,fun j c d w=>?_,fun c o e no=>?_,fun c o e=>?_
  .rw [ya,η,if_pos rfl]
   congr 3
   exact z9 fun j d=>(if_neg (by omega)).symm
  .by_cases z:j=i
   .subst z;exists ⟨(R j (ctx (L j) S M)).getD (kd0 (kd j)),?_⟩,up j l ?_
    .try dsimp only
     rw [if_pos rfl];unfold ũ;rw [if_pos rfl]
    .rw [if_pos rfl];exact hv
   .have a7:j < n:=by omega
    obtain ⟨⟨s',af⟩,a8⟩:=gS j (by omega);exists ⟨s',?_⟩,up j a7 ?_
    .try dsimp only
     rw [if_neg z];exact af
    .rw [if_neg z];exact a8.move r a7 l z B2
  .try dsimp only at w
   by_cases z:j=i
   .subst z;rw [if_pos rfl] at w;rcases a6 c w with v | v
    .exact Y j c d v
    .refine .inr ?_
     cases e:H c with
     | none=>rfl
     | some o =>
      obtain ⟨o',w'⟩:=gL c o e;rw [w'] at v;cases v
   .rw [if_neg z] at w;exact Y j c d w
  .have hG:=gF c o e no
   have nc:¬ J i c:=fun w=>by
    rcases Y i c l w with v | v
    .exact no i l v
    .rw [e] at v;cases v
   refine W _ _ (B2 _ _ hG nc) (fun z=>?_);rw [z,N] at e;cases e
  .obtain ⟨o1,w1⟩:=gL c o e;have a5:c≠D:=fun z=>by rw [z,N] at e; cases e
   by_cases w2:J i c
   .obtain ⟨o2,ab,_⟩:=a0.own c (ad c w2);exists o2,W _ _ ab a5
   .exists o1,W _ _ (B2 _ _ w1 w2) a5
 .obtain ⟨y,R,J,gD,r,gA,gS,Y,gF,gL⟩:=z;rw [vv] at gD r gS;have I:=gF _ _ hp np;rfl';have ac:D≠p:=fun z=>by rw [z,hp] at N; cases N
  have Z:But p G (upd G p (.ins a.A2 dp (Õ (.ref ll) (.ref bl) (.ref mp) (.ref el) (.int M) (.ref D)))):=But.upd
  have a4:∀ i,i < n->¬ J i p:=fun i hi w=>by
   rcases Y i p hi w with v | v
   .exact np i hi v
   .rw [hp] at v; cases v
  have M3:=r.frame (O2:=fun c=>c=p) (fun c o e U=>Z c o e U) (fun j c d w z=>a4 j d (z ▸ w)) (fun j d z=>by
   have:=(r.b j d).me;rw [z,I] at this;injection this with this;injection this with _ _ e
   exact absurd (congrArg List.length e) (show ¬ (6=2) by decide)) (fun t xs e=>by
   rcases e with (e | ⟨o,e⟩) | e
   .exact .inl (.inl (Z _ _ e (fun z=>by rw [z,I] at e; cases e)))
   .exact .inl (.inr ⟨o,Z _ _ e (fun z=>by rw [z,I] at e; cases e)⟩)
   .exact .inr e)
  refine k D y R J _ ya (yf ac gD) N M3 gA (fun j d=>⟨(gS j d).1,(gS j d).2.told (r.b j d) (fun z=>a4 j d (by rw [<- z]; exact (r.b j d).dO)) Z⟩) Y (fun c o e nc no=>Z _ _ (gF c o e no) nc) fun c o e=>?_;by_cases zc:c=p
  .rw [zc];exists _,ya
  .obtain ⟨o1,w1⟩:=gL c o e;exists o1,Z _ _ w1 zc
structure FA where
 dp:Addr
 ll:Addr
 bl:Addr
 mp:Addr
 mx:Addr
 ml:Addr
 el:Addr
 pl:Addr
 n:Nat
 bk:Nat->Addr
 dx:Nat->Addr
 lk:Nat->Addr
 dd:Nat->Addr
 sl:Nat->Addr
 kd:Nat->Fin 3
 ps:Nat->List Int
structure FX where
 g:Nat->List Int->Slt
 ws:List Int
 sg:List Int
 nd:Int
def FX.key (X:FX) (A:FA) (i:Nat):List Int:=ctx (A.ps i) X.sg X.nd
def FX.cs (X:FX) (A:FA):List Int:=(List.range A.n).map fun i=>(X.g i (X.key A i)).due
def ndN (nd b:Int):Int:=if 0 < nd then (if 256 <= 2 * nd+b then 0 else 2 * nd+b) else if b=1 then 1 else nd
def sgN (sg:List Int) (nd b:Int):List Int:=if 0 < nd then (if 256 <= 2 * nd+b then sg++[2 * nd+b - 256] else sg) else if b=1 then sg else []
def FX.see (X:FX) (A:FA) (b:Int):FX:={ g:=fun i k=>if k=X.key A i then (X.g i k).see b else X.g i k,ws:=lrn X.ws (X.cs A) b,sg:=sgN X.sg X.nd b,nd:=ndN X.nd b }
structure ux (K:W.Frag) (a:Ads) (H:Hp) (p:Addr) (A:FA) (X:FX) (f:Nat->List Int->Option Slt) (O:Nat->Addr->Prop) (m:Nat):Prop where
 me:H p=some (.ins a.A2 A.dp (Õ (.ref A.ll) (.ref A.bl) (.ref A.mp) (.ref A.el) (.int X.nd) (.ref A.pl)))
 bl:H A.bl=some (.lst (refs A.bk A.n))
 el:H A.el=some (.lst (X.sg.map V.int))
 mx:yfg a A.mp A.mx A.ml X.ws H
 wok:WOk A.n X.ws
 pl:H A.pl=some (.lst (refs A.sl A.n))
 B:Bks K a H A.n A.bk A.dx A.lk A.dd A.kd A.ps f O m
 ag:ylv A.n A.kd f X.g
 at':∀ j,j < A.n->(∃ s,f j (X.key A j)=some s)/\AtS H (A.dd j) (X.key A j) (A.sl j)
 np:∀ i,i < A.n->¬ O i p
 nm:∀ i,i < A.n->¬ O i A.mp
 n1:1 <= A.n
 n6:A.n <= 6
theorem ux.same {H H':Hp} {A:FA} {X:FX} {f:Nat->List Int->Option Slt} {m:Nat} (h:ux K a H p A X f O m) (S:yq H H'):ux K a H' p A X f O m :=
 ⟨S _ _ h.me,S _ _ h.bl,S _ _ h.el,h.mx.same S,h.wok,S _ _ h.pl,h.B.same S,h.ag,fun j c=>⟨(h.at' j c).1,fun k e=>by
  obtain ⟨d,i,g,_⟩:=(h.B.b j c).tb;rw [S _ _ g] at e;cases e;exact (h.at' j c).2 _ g⟩,h.np,h.nm,h.n1,h.n6⟩
theorem ux.slot {H:Hp} {A:FA} {X:FX} {f:Nat->List Int->Option Slt} {m:Nat} (h:ux K a H p A X f O m) (hj:j < A.n) :
  f j (X.key A j)=some (X.g j (X.key A j))/\(∃ dq,H (A.sl j)=some (oS a dq (X.g j (X.key A j))))/\(X.g j (X.key A j)).ok/\O j (A.sl j):=by
 obtain ⟨⟨s,c⟩,d⟩:=h.at' j hj;have e:=h.ag j hj (X.key A j);rw [c] at e;have e:s=X.g j (X.key A j):=e;rw [<- e];obtain ⟨dq,i,l,o,k⟩:=(h.B.b j hj).slot c d;exists c,⟨dq,i⟩,l,k
theorem ux.cok {H:Hp} {A:FA} {X:FX} {f:Nat->List Int->Option Slt} {m:Nat} (h:ux K a H p A X f O m):COk A.n (X.cs A):=by
 exists by unfold FX.cs; rw [bf,bU],fun c d=>?_,fun c d=>?_
 .obtain ⟨j,b,rfl⟩:=bq.mp d;exact (yd4 (h.slot (cj.mp b)).2.2.1).1
 .obtain ⟨j,b,rfl⟩:=bq.mp d;exact (yd4 (h.slot (cj.mp b)).2.2.1).2
theorem LkG.at' {H:Hp} {lk tp:Addr} {kd:Fin 3} {ps:List Int} (h:LkG H (.ref lk) kd tp ps):zt K H lk (.str (kdS kd)) ps:=by
 obtain ⟨b,e,d,f,a⟩:=h;cases e;have a:=a;unfold x9 at a;rw [bO,bO,List.all_eq_true] at a;exists tp,SqT.of d,SqT.of f,fun p c=>?_,by have:=of_decide_eq_true a.1.1; rw [bf] at this; exact this
 have w:=a.1.2 (.int p) (bq.mpr ⟨p,c,rfl⟩);have w:(decide (1 <= p) && decide (p <= 8))=true:=w;rw [bO] at w;exists of_decide_eq_true w.1,of_decide_eq_true w.2
theorem Bks.snoc {H:Hp} {n m:Nat} {bk dx lk dd:Nat->Addr} {kd:Nat->Fin 3} {ps:Nat->List Int} {f:Nat->List Int->Option Slt} (h:Bks K a H n bk dx lk dd kd ps f O m)
  (hl:zt K H (lk n) (.str (kdS (kd n))) (ps n)) {q dq d:Addr} {f':List Int->Option Slt} {O':Addr->Prop} (hb:ω a H q dq (lk n) d (kd n) f' O' m) (dj:∀ j c,j < n->O j c->¬ O' c) (n1:∀ j,j < n->¬ O j q) (n2:∀ j,j < n->¬ O' (bk j)) :
  Bks K a H (n+1) (upN bk n q) (upN dx n dq) lk (upN dd n d) kd ps (upN f n f') (upN O n O') m:=by
 exists fun i p=>?_,fun i p=>?_,fun i j c p s r o l=>?_,fun i j p s e=>?_
 .by_cases z:i=n
  .rw [z];exact hl
  .exact h.look i (by omega)
 .by_cases z:i=n
  .subst z;rw [xh,xh,xh,xh,xh];exact hb
  .have g:i < n:=by omega
   rw [xf g,xf g,xf g,xf g,xf g];exact h.b i g
 .by_cases z:i=n
  .subst z;have k:j < i:=by omega
   rw [xh] at o;rw [xf k] at l;exact dj j c k l o
  .have g:i < n:=by omega
   rw [xf g] at o;by_cases w:j=n
   .subst w;rw [xh] at l;exact dj i c g o l
   .have k:j < n:=by omega
    rw [xf k] at l;exact h.dj i j c g k r o l
 .by_cases z:i=n
  .subst z;rw [xh] at e;by_cases w:j=i
   .subst w;rw [xh] at e;exact hb.np e
   .have k:j < i:=by omega
    rw [xf k] at e;exact n2 j k e
  .have g:i < n:=by omega
   rw [xf g] at e;by_cases w:j=n
   .subst w;rw [xh] at e;exact n1 i g e
   .have k:j < n:=by omega
    rw [xf k] at e;exact h.nb i j g k e
def ylz (K:W.Frag) (a:Ads) (H G:Hp) (n:Nat) (bk dx lk dd:Nat->Addr) (kd:Nat->Fin 3) (ps:Nat->List Int) (f:Nat->List Int->Option Slt) (O:Nat->Addr->Prop):Prop :=
 Bks K a G n bk dx lk dd kd ps f O 0/\(∀ j k,j < n->f j k=none)/\(∀ j c,j < n->O j c->H c=none)/\(∀ j,j < n->H (bk j)=none)
theorem ylz.zero {H G:Hp} {bk dx lk dd:Nat->Addr} {kd:Nat->Fin 3} {ps:Nat->List Int} {f:Nat->List Int->Option Slt} :ylz K a H G 0 bk dx lk dd kd ps f O :=
 ⟨⟨fun i b=>absurd b (bY i),fun i b=>absurd b (bY i),fun i _ _ b=>absurd b (bY i),fun i _ b=>absurd b (bY i)⟩,fun i _ b=>absurd b (bY i),fun i _ b=>absurd b (bY i),fun i b=>absurd b (bY i)⟩
theorem ylz.next {H G G2:Hp} {n:Nat} {bk dx lk dd:Nat->Addr} {kd:Nat->Fin 3} {ps:Nat->List Int} {f:Nat->List Int->Option Slt} (h:ylz K a H G n bk dx lk dd kd ps f O) (hl:zt K G (lk n) (.str (kdS (kd n))) (ps n))
  (S:yq H G) {q dq d D:Addr} {xs ys:List V} (hq:G q=none) (hd:G d=none) (S2:yq G G2) (hb:ω a G2 q dq (lk n) d (kd n) (fun _=>none) (fun b=>b=d) 0) (hD:G D=some (.lst xs)) :
  ylz K a H (upd G2 D (.lst ys)) (n+1) (upN bk n q) (upN dx n dq) lk (upN dd n d) kd ps (upN f n fun _=>none) (upN O n fun b=>b=d):=by
 obtain ⟨r,x,y,u⟩:=h;have l:∀ j c,j < n->O j c->∃ o,G c=some o:=fun j c g w=>let ⟨o,m,_⟩:=(r.b j g).own c w; ⟨o,m⟩
 have M:=(r.same S2).snoc (hl.same S2) hb (fun j c g w z=>by
  obtain ⟨o,m⟩:=l j c g w;rw [show c=d from z,hd] at m
  cases m) (fun j g w=>by
  obtain ⟨o,m⟩:=l j q g w;rw [hq] at m
  cases m) (fun j g z=>by
  have e:=(r.b j g).me;rw [show bk j=d from z,hd] at e;cases e)
 have i:=S2 _ _ hD;have v:=M.nlst i;have p:∀ c o,G2 c=some o->c≠D->upd G2 D (.lst ys) c=some o:=fun c o e s=>yf s e;exists M.frame (O2:=fun c=>c=D) (fun c o e s=>p c o e s) (fun j c g w z=>v j g (z ▸ w)) (fun j g z=>?_) (fun t xs e=>?_),fun j k g=>?_,fun j c g w=>?_,fun j g=>?_
 .have e:=(M.b j g).me;rw [z,i] at e;cases e
 .rcases e with (e | ⟨o,e⟩) | e
  .exact .inl (.inl (p _ _ e (fun z=>by rw [z,i] at e; cases e)))
  .exact .inl (.inr ⟨o,p _ _ e (fun z=>by rw [z,i] at e; cases e)⟩)
  .exact .inr e
 .by_cases z:j=n
  .rw [z,xh]
  .rw [xf (by omega)];exact x j k (by omega)
 .by_cases z:j=n
  .rw [z,xh] at w;rw [show c=d from w];exact S.free hd
  .rw [xf (by omega)] at w;exact y j c (by omega) w
 .by_cases z:j=n
  .rw [z,xh];exact S.free hq
  .rw [xf (by omega)];exact u j (by omega)
theorem ylz.ag {H G:Hp} {n:Nat} {bk dx lk dd:Nat->Addr} {kd:Nat->Fin 3} {ps:Nat->List Int} {f:Nat->List Int->Option Slt} (h:ylz K a H G n bk dx lk dd kd ps f O):ylv n kd f (fun i _=>kd0 (kd i)):=fun i b k=>by
 rw [h.2.1 i k b];rfl
def FX0 (n:Nat) (kd:Nat->Fin 3):FX:={ g:=fun i _=>kd0 (kd i),ws:=List.replicate n 1099511627776,sg:=[],nd:=0 }
theorem yjn {g:Nat->Addr} {n:Nat} {x:V} (h:x∈refs g n):∃ i,i < n/\x=.ref (g i):=by
 unfold refs at h;obtain ⟨i,a,e⟩:=bq.mp h;exists i,cj.mp a,e.symm
theorem xl.lks {H:Hp} {n:Nat} {lk:Nat->Addr} {kd:Nat->Fin 3} {ps:Nat->List Int} (h:xl H n lk kd tp ps):Lks H (refs lk n):=fun y a=>by
 obtain ⟨i,b,rfl⟩:=yjn a;exists _,_,_,h i b
theorem ux.frame {H H':Hp} {A:FA} {X:FX} {f:Nat->List Int->Option Slt} {m:Nat} (h:ux K a H p A X f O m) {O2:Addr->Prop} (B:yi7 O2 H H') (hp:¬ O2 p) (hm:¬ O2 A.mp) (hb:∀ i,i < A.n->¬ O2 (A.bk i))
  (dj:∀ i c,i < A.n->O i c->¬ O2 c) (hl:∀ l xs,(l=A.bl\/l=A.el\/l=A.ml\/l=A.pl)->H l=some (.lst xs)->H' l=some (.lst xs)) (ht:∀ t xs,SqT K H t xs->SqT K H' t xs):ux K a H' p A X f O m :=
 ⟨B _ _ h.me hp,hl _ _ (.inl rfl) h.bl,hl _ _ (.inr (.inl rfl)) h.el,⟨B _ _ h.mx.o hm,hl _ _ (.inr (.inr (.inl rfl))) h.mx.l⟩,h.wok,hl _ _ (.inr (.inr (.inr rfl))) h.pl,h.B.frame B (fun i c q w=>dj i c q w) hb ht,h.ag,fun j d=>⟨(h.at' j d).1,fun s e=>by
  obtain ⟨g,r,k,_⟩:=(h.B.b j d).tb;rw [B _ _ k (dj j _ d (h.B.b j d).dO)] at e;cases e;exact (h.at' j d).2 _ k⟩,h.np,h.nm,h.n1,h.n6⟩
theorem yo3 {G:Hp} {t c:Addr} {xs ys zs:List V} (hc:G c=some (.lst ys)) (e:SqT K G t xs):SqT K (upd G c (.lst zs)) t xs:=by
 rcases e with (e | ⟨o,e⟩) | e
 .exact .inl (.inl (yf (wu e hc (by intro z; cases z)) e))
 .exact .inl (.inr ⟨o,yf (wu e hc (by intro z; cases z)) e⟩)
 .exact .inr e
theorem ux.app {H:Hp} {R:Addr} {A:FA} {X:FX} {f:Nat->List Int->Option Slt} {m:Nat} {xs ys:List V} (h:ux K a H p A X f O m) (hR:H R=some (.lst xs)) (hq:∀ q,(q=A.bl\/q=A.el\/q=A.ml\/q=A.pl)->q≠R):ux K a (upd H R (.lst ys)) p A X f O m:=by
 refine h.frame (O2:=fun c=>c=R) (fun c o e g=>yf g e) (fun z=>?_) (fun z=>?_) (fun i d z=>?_) (fun i c d w z=>h.B.nlst hR i d (z ▸ w)) (fun l xs w e=>yf (hq l w) e) (fun t xs e=>yo3 hR e)
 .have e:=h.me;rw [z,hR] at e;cases e
 .have e:=h.mx.o;rw [z,hR] at e;cases e
 .have e:=(h.B.b i d).me;rw [z,hR] at e;cases e
theorem yz8 (n:Nat) (n1:1 <= n) (n6:n <= 6):WOk n (List.replicate n 1099511627776):=by
 refine ⟨List.length_replicate,fun w h=>?_,fun w h=>?_⟩ <;> (rw [List.eq_of_mem_replicate h]; decide)
#synth yu0 ["self","looks"] yr5
structure vc1 (K:W.Frag) (a:Ads) (H H':Hp) (p:Addr) (n:Nat) (lk:Nat->Addr) (kd:Nat->Fin 3) (ps:Nat->List Int) (A:FA) (f:Nat->List Int->Option Slt) (O:Nat->Addr->Prop):Prop where
 ft:ux K a H' p A (FX0 n kd) f O 6
 en:A.n=n
 elk:A.lk=lk
 ekd:A.kd=kd
 eps:A.ps=ps
 oO:∀ j c,j < n->O j c->H c=none
 oB:∀ j,j < n->H (A.bk j)=none
 oM:H A.mp=none
 oL:∀ l,(l=A.bl\/l=A.el\/l=A.ml\/l=A.pl)->H l=none
 lo:H' A.ll=some (.lst (refs lk n))/\A.ll≠A.el/\H A.ll=none
inductive Ŏ (K:W.Frag) (a:Ads) (vs:List V) (H:Hp) (Q:VK) (E:XK):Prop
 | mk (p dp:Addr) (x:V) (_:vs=[.ref p,x]) (_:H p=some (.ins a.A2 dp [])) (_:((vat K H x/\∀ H',yq H H'->E (.ref a.Ek) none H')\/∃ (l:Addr) (n:Nat) (lk:Nat->Addr) (kd:Nat->Fin 3) (tp:Nat->Addr) (ps:Nat->List Int),x=.ref l/\H l=some (.lst (refs lk n))/\1 <= n/\n <= 6/\xl H n lk kd tp ps /\
  ∀ A f O H',vc1 K a H H' p n lk kd ps A f O->But p H H'->Q .non H'))
theorem yyg (T:Txt K mg a):vk P w K mg base (CXe P w) 6 a.Fc a.Ja ["self","looks"] (Ŏ K a):=by
 exists T.Ea.F.okE,yu0,hr;obtain ⟨p,f,x,rfl,hp,h⟩:=h;refine yi (y6 (pv 0) (ud (yl8 T) hr.m T.Ft yz (pa1 (pv 1))) rfl) ?_;refine yi (y6 (pv 0) (vq (js:=[]) (ys:=[]) rfl (we (ym (pv 0) rfl)) (fun C s2 H2 fp=>(yb0 T.Pk (ywk T) hr.m rfl T.Pj T.E8.B .nil wv (pa1 (pv 0)))) rfl rfl (hyc:=yr) (hrel:=yr)) rfl) ?_;refine yi (y6 (pv 0) (yb0 T.Qv (yxc T) hr.m rfl T.Qu T.E9.B .nil wv (pa1 (pcB yo T.Ac (pa1 (ym (pv 0) rfl))))) rfl) ?_;refine yi (y6 (pv 0) (wx ub) rfl) ?_;refine yi (y6 (pv 0) ye rfl) ?_;refine yi (y6 (pv 0) (wx ub) rfl) ?_;exists _,(yd (yp (wc (pv 0) T.Ae T.Da.m (ym7 T) hr.m T.Da.B .nil wv))),?_;exists 2,0;rfl';rcases h with ⟨hb,k⟩ | ⟨l,n,lk,kd,tp,ps,rfl,hl,n1,n6,an,k⟩
 .rcases hb with ⟨nm,ty,hn⟩ | ⟨l,xs,bs,rfl,hl,hz,aR,no⟩
  .exact .inl ⟨x,nm,rfl,ty,hn,k _ (yq.refl _)⟩
  .exact .inr ⟨l,xs,bs,rfl,hl,hz,aR,fun z=>absurd z no,fun _ H' S=>k _ S⟩
 .refine .inr ⟨l,refs lk n,List.replicate (refs lk n).length true,rfl,hl,by rw [vv]; omega,an.lks.bs,fun _ g H1 aj aC S1=>?_,fun no=>absurd ⟨by rw [vv]; exact n1,by rw [vv]; exact n6,yhi _⟩ no⟩;have aX:=S1 _ _ hp;have aW:=an.same S1;rfl';have X:upd H1 p (HO.ins a.A2 f ([("looks",V.ref g)]:List (Str × V))) p=some (HO.ins a.A2 f ([("looks",V.ref g)]:List (Str × V))):=ya;have BA:But p H1 (upd H1 p (HO.ins a.A2 f ([("looks",V.ref g)]:List (Str × V)))):=But.upd;have a3:g≠p:=(yb hp aj).symm;have I:upd H1 p (HO.ins a.A2 f ([("looks",V.ref g)]:List (Str × V))) g=some (.lst (refs lk n)):=yf a3 aC;generalize upd H1 p (HO.ins a.A2 f ([("looks",V.ref g)]:List (Str × V)))=HA at X BA I ⊢;have ab:But p H HA:=(But.of S1).trans BA
  have aL:xl HA n lk kd tp ps:=fun i hi=>by
   obtain ⟨q,e,h1,h2,h3⟩:=an i hi;exists q,e,ab _ _ h1 (wu h1 hp (by intro z; cases z)),ab _ _ h2 (wu h2 hp (by intro z; cases z)),h3
  exists p,_,f,_,_,rfl,X,T.Ae,T.Ar,rfl,?_;exists g,rfl,⟨_,SqL.of I⟩,fun u Y=>?_;refine ε (K:=K) (xs:=refs lk n) (fun i G=>∃ (bk dx dd:Nat->Addr) (f2:Nat->List Int->Option Slt) (O2:Nat->Addr->Prop),G u=some (.lst (refs bk i))/\ylz K a HA G i bk dx lk dd kd ps f2 O2/\yq HA G)
   ⟨fun _=>0,fun _=>0,fun _=>0,fun _ _=>none,fun _ _=>False,ya,ylz.zero,yx Y⟩ (fun i G _ z=>?_) (fun i y G hy hi z=>?_) (fun G z=>?_)
  .obtain ⟨_,_,_,_,_,_,_,SG⟩:=z;exact SqL.of (SG _ _ I)
  .obtain ⟨bk,dx,dd,f2,O2,a5,gN,SG⟩:=z;obtain ⟨rfl,aS⟩:=jg hy;rfl';intro q dq nq aP b0;have SQ:yq G (upd (upd G dq (.own q)) q (.ins a.Aa dq [])):=fun b o e=>by rw [yk (yb e nq),yk (yb e aP)]; exact e
   exists q,dq,lk i,kd i,rfl,ya,fun d G2 aJ aI B2=>⟨rfl,?_⟩;have ar:yq G G2:=fun b o e=>B2 b o (SQ b o e) (yb e nq);refine u9 (n:=(refs lk n).length) (ar _ _ a5) (y8 (by rw [vv]; omega)) hi ?_;exists _,_,_,_,_,?_,gN.next ((aL i aS).same SG).at' SG nq (SQ.free aJ) ar aI a5,fun b o e=>yf (yb e Y) (ar _ _ (SG b o e));rw [ya,η,xh]
   congr 3
   exact z9 fun j r=>(xf r).symm
  obtain ⟨bk,dx,dd,f2,O2,a5,gN,SG⟩:=z;rw [vv] at a5 gN;have az:=SG _ _ X;rfl';have ay:∀ c o,HA c=some o->c≠p->upd G p (HO.ins a.A2 f ([("looks",V.ref g),("books",V.ref u)]:List (Str × V))) c=some o:=fun c o e J=>yf J (SG _ _ e);have aa:upd G p (HO.ins a.A2 f ([("looks",V.ref g),("books",V.ref u)]:List (Str × V))) p=some (HO.ins a.A2 f ([("looks",V.ref g),("books",V.ref u)]:List (Str × V))):=ya;have ac:u≠p:=(yb X Y).symm;have ah:upd G p (HO.ins a.A2 f ([("looks",V.ref g),("books",V.ref u)]:List (Str × V))) u=some (.lst (refs bk n)):=yf ac a5;have BP:∀ {fs:List (Str × V)},But p G (upd G p (HO.ins a.A2 f fs)):=But.upd
  have ad:∀ j,j < n->¬ O2 j p:=fun j r w=>by
   have e:=gN.2.2.1 j p r w;rw [X] at e;cases e
  have aD:∀ {G':Hp},But p G G'->Bks K a G' n bk dx lk dd kd ps f2 O2 0:=fun {G'} B=>gN.1.frame (O2:=fun c=>c=p) (fun c o e J=>B c o e J) (fun j c r w z=>ad j r (z ▸ w)) (fun j r z=>by
   have e:=gN.2.2.2 j r;rw [z,X] at e
   cases e) (fun t xs e=>by
   rcases e with (e | ⟨o,e⟩) | e
   .exact .inl (.inl (B _ _ e (fun z=>by rw [z,az] at e; cases e)))
   .exact .inl (.inr ⟨o,B _ _ e (fun z=>by rw [z,az] at e; cases e)⟩)
   .exact .inr e)
  have BB:But p G (upd G p (HO.ins a.A2 f ([("looks",V.ref g),("books",V.ref u)]:List (Str × V)))):=But.upd;generalize upd G p (HO.ins a.A2 f ([("looks",V.ref g),("books",V.ref u)]:List (Str × V)))=HB at ay aa ah BB ⊢;exists p,_,f,_,_,rfl,aa,T.Ae,T.Ar,rfl,?_;refine zg (SqL.of (ay _ _ I a3)) ?_;rw [vv];rfl';intro D mx a4 aQ aY;have SM:yq HB (upd (upd HB mx (.own D)) D (.ins a.Bu mx [])):=fun b o e=>by rw [yk (yb e a4),yk (yb e aQ)]; exact e
  exists D,mx,n,rfl,n1,n6,ya,fun ml HC aG MC BC=>⟨rfl,?_⟩;have SC:yq HB HC:=fun b o e=>BC b o (SM b o e) (yb e a4);have aZ:=SC _ _ aa;have aw:=SC _ _ ah;have a8:HB ml=none:=SM.free aG;have N:D≠p:=(yb aa a4).symm;have Z:ml≠p:=(yb aa a8).symm;rfl';exists by walk_at "len",fun M a1=>?_
  have U:M≠p:=fun z=>by rw [z,ya] at a1; cases a1
  have W:HC M=none:=by rw [yk U] at a1; exact a1
  have aN:upd (upd HC p (HO.ins a.A2 f ([("looks",V.ref g),("books",V.ref u),("mixer",V.ref D)]:List (Str × V)))) M (.lst []) p=some (HO.ins a.A2 f ([("looks",V.ref g),("books",V.ref u),("mixer",V.ref D)]:List (Str × V))):=yf U.symm ya;have al:upd (upd HC p (HO.ins a.A2 f ([("looks",V.ref g),("books",V.ref u),("mixer",V.ref D)]:List (Str × V)))) M (.lst []) M=some (.lst []):=ya;have BD:But p HC (upd (upd HC p (HO.ins a.A2 f ([("looks",V.ref g),("books",V.ref u),("mixer",V.ref D)]:List (Str × V)))) M (.lst [])):=fun b o e J=>yf (yb e W) (yf J e);generalize upd (upd HC p (HO.ins a.A2 f ([("looks",V.ref g),("books",V.ref u),("mixer",V.ref D)]:List (Str × V)))) M (.lst [])=HD at aN al BD ⊢;rfl';exists by walk_at "len",fun L a0=>?_
  have am:L≠p:=fun z=>by rw [z,ya] at a0; cases a0
  have aq:HD L=none:=by rw [yk am,yk am] at a0; exact a0
  have aH:upd (upd (upd HD p (HO.ins a.A2 f ([("looks",V.ref g),("books",V.ref u),("mixer",V.ref D),("ended",V.ref M)]:List (Str × V)))) p (HO.ins a.A2 f ([("looks",V.ref g),("books",V.ref u),("mixer",V.ref D),("ended",V.ref M),("place",V.int 0)]:List (Str × V)))) L (.lst []) p=some (HO.ins a.A2 f ([("looks",V.ref g),("books",V.ref u),("mixer",V.ref D),("ended",V.ref M),("place",V.int 0)]:List (Str × V))):=yf am.symm ya;have BE:But p HD (upd (upd (upd HD p (HO.ins a.A2 f ([("looks",V.ref g),("books",V.ref u),("mixer",V.ref D),("ended",V.ref M)]:List (Str × V)))) p (HO.ins a.A2 f ([("looks",V.ref g),("books",V.ref u),("mixer",V.ref D),("ended",V.ref M),("place",V.int 0)]:List (Str × V)))) L (.lst [])):=fun b o e J=>yf (yb e aq) (yf J (yf J e));generalize upd (upd (upd HD p (HO.ins a.A2 f ([("looks",V.ref g),("books",V.ref u),("mixer",V.ref D),("ended",V.ref M)]:List (Str × V)))) p (HO.ins a.A2 f ([("looks",V.ref g),("books",V.ref u),("mixer",V.ref D),("ended",V.ref M),("place",V.int 0)]:List (Str × V)))) L (.lst [])=HE at aH BE ⊢;rfl';have BF:But p HE (upd HE p (.ins a.A2 f (Õ (.ref g) (.ref u) (.ref D) (.ref M) (.int 0) (.ref L)))):=But.upd;have a9:upd HE p (.ins a.A2 f (Õ (.ref g) (.ref u) (.ref D) (.ref M) (.int 0) (.ref L))) p=some (.ins a.A2 f (Õ (.ref g) (.ref u) (.ref D) (.ref M) (.int 0) (.ref L))):=ya;generalize upd HE p (.ins a.A2 f (Õ (.ref g) (.ref u) (.ref D) (.ref M) (.int 0) (.ref L)))=HF at a9 BF ⊢;have ae:But p HC HF:=(BD.trans BE).trans BF;have a2:But p G HF:=fun b o e J=>ae b o (SC _ _ (BB b o e J)) J;have aA:=ae _ _ MC.o N;have ax:=ae _ _ MC.l Z;have as:=ae _ _ aw ac;have au:=BF _ _ (BE _ _ al U) U;exists p,f,g,u,D,M,L,0,[],n,0,bk,dx,lk,dd,kd,ps,f2,O2,fun i _=>kd0 (kd i),rfl,a9,as,au,aD a2,gN.ag,n6,by omega,ad,fun pl sl f' O' H' aT aV ak B' aM aK af F' L'=>?_
  have a6:∀ {c:Addr},c≠p->HF c=none->G c=none:=fun {c} J h=>by
   cases e:G c with
   | none=>rfl
   | some o=>rw [a2 _ _ e J] at h; cases h
  have ao:∀ j c,j < n->O2 j c->∃ o,G c=some o:=fun j c r w=>let ⟨o,ho,_⟩:=(gN.1.b j r).own c w; ⟨o,ho⟩
  have nO:∀ {c:Addr} {o:HO},HF c=some o->yn8 o=false->∀ j,j < n->¬ O2 j c:=fun {c o} e hi j r w=>by
   obtain ⟨o',aB,aF⟩:=((aD a2).b j r).own c w;rw [e] at aB;cases aB;rw [hi] at aF;cases aF
  have av:∀ j,j < n->¬ O2 j D:=fun j r w=>by
   obtain ⟨o,ho⟩:=ao j D r w;have e:=BB _ _ ho N;rw [a4] at e;cases e
  have R:∀ {c:Addr},c≠p->HA c=none->H c=none:=fun {c} J h=>by
   cases e:H c with
   | none=>rfl
   | some o=>rw [ab _ _ e J] at h; cases h
  have O:∀ {c:Addr},G c=none->HA c=none:=fun {c} h=>SG.free h
  have a7:∀ {c:Addr},c≠p->HB c=none->G c=none:=fun {c} J h=>by
   cases e:G c with
   | none=>rfl
   | some o=>rw [BB _ _ e J] at h; cases h
  have aE:∀ {c:Addr},HC c=none->HB c=none:=fun {c} h=>SC.free h;refine k ⟨f,g,u,D,mx,ml,M,pl,n,bk,dx,lk,dd,sl,kd,ps⟩ f' O' H' ⟨⟨aT,F' _ _ as ac (nO as rfl),F' _ _ au U (nO au rfl),⟨F' _ _ aA N av,F' _ _ ax Z (nO ax rfl)⟩,?_,aV,⟨B'.look,fun i hi=>(B'.b i hi).up (by omega),B'.dj,B'.nb⟩,aM,aK,fun j r w=>?_,fun j r w=>?_,n1,n6⟩,rfl,rfl,rfl,rfl,fun j c r w=>?_,fun j r=>?_,?_,fun c hc=>?_,F' _ _ (a2 _ _ (SG _ _ I) a3) a3 (nO (a2 _ _ (SG _ _ I) a3) rfl),yb (SC _ _ (BB _ _ (SG _ _ I) a3)) W,aj⟩ ?_
  .exact yz8 n n1 n6
  .rcases af j p r w with v | v
   .exact ad j r v
   .rw [a9] at v; cases v
  .rcases af j D r w with v | v
   .exact av j r v
   .rw [aA] at v; cases v
  .have ap:c≠p:=fun z=>by
    rw [z] at w;rcases af j p r w with v | v
    .exact ad j r v
    .rw [a9] at v; cases v
   rcases af j c r w with v | v
   .exact R ap (gN.2.2.1 j c r v)
   .exact R ap (O (a6 ap v))
  .have aO:bk j≠p:=fun z=>by
    have e:=gN.2.2.2 j r;rw [z,X] at e;cases e
   exact R aO (gN.2.2.2 j r)
  .exact R N (O (a7 N a4))
  .rcases hc with z | z | z | z
   .rw [z];exact R ac Y
   .rw [z];exact R U (O (a7 U (aE W)))
   .rw [z];exact R Z (O (a7 Z a8))
   .rw [z];have ai:pl≠p:=(yb a9 ak).symm;exact R ai (O (a6 ai ak))
  .intro c o e J;refine F' c o (a2 _ _ (SG _ _ (ab c o e J)) J) J fun j r w=>?_;have e2:=gN.2.2.1 j c r w;rw [ab c o e J] at e2;cases e2
theorem yb3:∀ (ts:List Int) (q j:Nat) (s:Int),ts[q]?=some s->j <= 8->(dec ts)[9 * q+j]?=(1 :: b8 s)[j]?
 | [],_,_,_,h,_=>by simp at h
 | t :: r,0,j,s,h,hj=>by
  have e:t=s:=by simpa using h
  subst e;show ((1 :: b8 t)++dec r)[9 * 0+j]?=_;rw [Nat.mul_zero,Nat.zero_add,cG (by rw [bK,yms]; omega)]
 | t :: r,q+1,j,s,h,hj=>by
  have b:r[q]?=some s:=by simpa using h
  show ((1 :: b8 t)++dec r)[9 * (q+1)+j]?=_;have a:(1 :: b8 t).length=9:=rfl;rw [cb (by rw [a]; omega),a,show 9 * (q+1)+j - 9=9 * q+j by omega];exact yb3 r q j s b hj
theorem yor (ts:List Int):(dec ts)[9 * ts.length]?=some 0:=by
 rw [yln,cb (by rw [jb]; exact bp _),jb,Nat.sub_self];rfl
def ya3 (ts:List Int) (k:Nat) (sg:List Int) (nd:Int):Prop:=∃ q j:Nat,k=9 * q+j/\j <= 8/\sg=ts.take q/\((j=0/\nd=0/\q <= ts.length)\/(1 <= j/\∃ s,ts[q]?=some s/\nd=(256+s) / 2 ^ (9 - j)))
theorem vcb {s P c:Int} (h:0 <= s/\s <= 255) (hP:2 <= P) (hc:P * (2 * c)=256) (c1:1 <= c/\c <= 64):0 < (256+s) / (2 * P)/\2 * ((256+s) / (2 * P))+s / P % 2 < 256/\2 * ((256+s) / (2 * P))+s / P % 2=(256+s) / P:=by
 have a:(256+s) / P=s / P+2 * c:=by rw [<- hc,Int.add_comm,Int.add_mul_ediv_left _ _ (by omega)]
 have b:(256+s) / (2 * P)=(s / P+2 * c) / 2:=by rw [<- a,Int.ediv_ediv_of_nonneg (show 0 <= P by omega),Int.mul_comm]
 have d:=Int.ediv_nonneg h.1 (show 0 <= P by omega);have e:=Int.ediv_lt_of_lt_mul (show 0 < P by omega) (show s < 128 * P by omega);rw [a,b];generalize s / P=y at d e;clear hc a b hP h;omega
theorem nd9 {s:Int} (h:0 <= s/\s <= 255) (h1:1 <= j) (hj:j <= 8):0 < (256+s) / 2 ^ (9 - j)/\(256+s) / 2 ^ (9 - j) < 256:=by
 have a:∀ j,j < 9->1 <= j->(2:Int) <= 2 ^ (9 - j)/\(2:Int) ^ (9 - j) <= 256:=by decide
 obtain ⟨b,c⟩:=a j (Nat.lt_succ_of_le hj) h1;generalize (2:Int) ^ (9 - j)=K at b c;exists Int.le_ediv_of_mul_le (by omega) (by omega),Int.ediv_lt_of_lt_mul (by omega) (by omega)
theorem ya3.zero (ts:List Int):ya3 ts 0 [] 0:=⟨0,0,rfl,by omega,by simp,.inl ⟨rfl,rfl,bL _⟩⟩
theorem ya3.nd {k:Nat} {sg:List Int} {nd:Int} (h:ya3 ts k sg nd) (hs:Sgs ts):0 <= nd/\nd < 256:=by
 obtain ⟨q,j,_,e,_,h⟩:=h;rcases h with ⟨_,h,_⟩ | ⟨d,s,c,h⟩
 .omega
 .obtain ⟨a,b⟩:=nd9 (hs s (bI c)) d e;rw [h];exists Int.le_of_lt a,b
theorem ya3.sg {k:Nat} {sg:List Int} {nd:Int} (h:ya3 ts k sg nd) (hs:Sgs ts):sg=ts.take ((((k:Int)+8) / 9 - (if 0 < nd then 1 else 0)).toNat):=by
 obtain ⟨q,j,g,e,b,h⟩:=h;rw [b]
 congr 1
 rcases h with ⟨i,d,_⟩ | ⟨f,s,c,d⟩
 .rw [if_neg (by omega)];omega
 .have a:0 < nd:=by rw [d]; exact (nd9 (hs s (bI c)) f e).1
  rw [if_pos a];omega
theorem ya3.len {k:Nat} {sg:List Int} {nd:Int} (h:ya3 ts k sg nd):sg.length <= ts.length:=by
 obtain ⟨q,j,_,_,a,_⟩:=h;rw [a,bX];omega
theorem ya3.next {k:Nat} {sg:List Int} {nd b:Int} (h:ya3 ts k sg nd) (hs:Sgs ts) (hb:(dec ts)[k]?=some b) :
  (k < 9 * ts.length/\ya3 ts (k+1) (sgN sg nd b) (ndN nd b))\/(k=9 * ts.length/\sgN sg nd b=[]/\ndN nd b=0):=by
 obtain ⟨q,j,p,w,g,h⟩:=h;rcases h with ⟨v,d,A⟩ | ⟨C,s,a,d⟩
 .subst v;rcases Nat.lt_or_ge q ts.length with m | m
  .refine .inl ⟨by omega,?_⟩;have e:=yb3 ts q 0 ts[q] (bo m) (by omega);rw [<- p,hb] at e;have e:b=1:=by simpa using e
   have:=hs ts[q] (cg m);unfold sgN ndN;rw [if_neg (by omega),if_pos e,if_neg (by omega),if_pos e];exists q,1,by omega,by omega,g,.inr ⟨by omega,ts[q],bo m,?_⟩
   simp only [Nat.reduceSub,Int.reducePow];omega
  .have r:q=ts.length:=by omega
   have e:=yor ts;rw [<- r,show 9 * q=k by omega,hb] at e;have e:b=0:=by simpa using e
   refine .inr ⟨by omega,?_,?_⟩
   .unfold sgN;rw [if_neg (by omega),if_neg (by omega)]
   .unfold ndN;rw [if_neg (by omega),if_neg (by omega)];exact d
 .have o:=hs s (bI a);have m:q < ts.length:=(bM.mp a).1;have e:=yb3 ts q j s a w;rw [<- p,hb] at e
  have l:some b=(b8 s)[j - 1]?:=by
   obtain ⟨i,rfl⟩:∃ i,j=i+1:=⟨j - 1,by omega⟩;simpa using e
  refine .inl ⟨by omega,?_⟩;by_cases h8:j=8
  .subst h8;have l:b=s / 1 % 2:=bF l;simp only [Nat.reduceSub,Int.reducePow] at d;have D:2 * nd+b=256+s:=by omega
   unfold sgN ndN;rw [if_pos (by omega),if_pos (by omega),if_pos (by omega),if_pos (by omega)];exists q+1,0,by omega,by omega,?_,.inl ⟨rfl,rfl,by omega⟩
   rw [g,show 2 * nd+b - 256=s by omega,Æ a]
  .have n:0 < nd/\2 * nd+b < 256/\2 * nd+b=(256+s) / 2 ^ (9 - (j+1)):=by
    have k:∀ P c:Int,2 <= P->P * (2 * c)=256->1 <= c/\c <= 64->nd=(256+s) / (2 * P)->b=s / P % 2->0 < nd/\2 * nd+b < 256/\2 * nd+b=(256+s) / P:=fun P c x y z e f=>by
     rw [e,f];exact vcb o x y z
    clear p hb e g m hs;obtain rfl | rfl | rfl | rfl | rfl | rfl | rfl:j=1\/j=2\/j=3\/j=4\/j=5\/j=6\/j=7:=by omega
    .exact k 128 1 (by decide) rfl (by decide) d (bF l)
    .exact k 64 2 (by decide) rfl (by decide) d (bF l)
    .exact k 32 4 (by decide) rfl (by decide) d (bF l)
    .exact k 16 8 (by decide) rfl (by decide) d (bF l)
    .exact k 8 16 (by decide) rfl (by decide) d (bF l)
    .exact k 4 32 (by decide) rfl (by decide) d (bF l)
    .exact k 2 64 (by decide) rfl (by decide) d (bF l)
   obtain ⟨t,B,u⟩:=n;unfold sgN ndN;rw [if_pos t,if_neg (by omega),if_pos t,if_neg (by omega)];exists q,j+1,by omega,by omega,g,.inr ⟨by omega,s,a,u⟩
theorem ux.up {H:Hp} {A:FA} {X:FX} {f:Nat->List Int->Option Slt} {m:Nat} (h:ux K a H p A X f O m) (hm:m <= m'):ux K a H p A X f O m' :=
 ⟨h.me,h.bl,h.el,h.mx,h.wok,h.pl,⟨h.B.look,fun i c=>(h.B.b i c).up hm,h.B.dj,h.B.nb⟩,h.ag,h.at',h.np,h.nm,h.n1,h.n6⟩
theorem Bks.up {H:Hp} {n m:Nat} {bk dx lk dd:Nat->Addr} {kd:Nat->Fin 3} {ps:Nat->List Int} {f:Nat->List Int->Option Slt} (h:Bks K a H n bk dx lk dd kd ps f O m) (hm:m <= m'):Bks K a H n bk dx lk dd kd ps f O m' :=
 ⟨h.look,fun i c=>(h.b i c).up hm,h.dj,h.nb⟩
def Kpt (e:Addr) (H H':Hp):Prop:=∀ c o,H c=some o->yn8 o=false->c≠e->H' c=some o
theorem Kpt.sqt {H H':Hp} (h:Kpt e H H') {xs:List V} (he:H e=some (.lst xs)) {t:Addr} {ys:List V} (ht:SqT K H t ys):SqT K H' t ys:=by
 rcases ht with (q | ⟨o,q⟩) | q
 .exact .inl (.inl (h _ _ q rfl (fun z=>by rw [z,he] at q; cases q)))
 .exact .inl (.inr ⟨o,h _ _ q rfl (fun z=>by rw [z,he] at q; cases q)⟩)
 .exact .inr q
structure Lw (K:W.Frag) (a:Ads) (H:Hp) (p:Addr) (A:FA) (X:FX) (f:Nat->List Int->Option Slt) (O:Nat->Addr->Prop) (m:Nat) (bk dx dd:Nat->Addr) (f2:Nat->List Int->Option Slt) (O2:Nat->Addr->Prop) (mp mx ml:Addr) (ws:List Int):Prop where
 ft:ux K a H p A X f O m
 bs:Bks K a H A.n bk dx A.lk dd A.kd A.ps f2 O2 m
 mx:yfg a mp mx ml ws H
 dj:∀ i j c,i < A.n->j < A.n->O i c->¬ O2 j c
 n1:∀ i j,i < A.n->j < A.n->¬ O i (bk j)
 n2:∀ i j,i < A.n->j < A.n->¬ O2 i (A.bk j)
 n3:∀ i,i < A.n->¬ O2 i p/\¬ O2 i A.mp/\¬ O2 i mp/\¬ O i mp
 n4:mp≠A.mp
 n5:ml≠A.el
section
variable {H H':Hp} {A:FA} {X:FX} {f:Nat->List Int->Option Slt} {m:Nat} {bk dx dd:Nat->Addr} {f2:Nat->List Int->Option Slt} {mp mx ml:Addr} {ws:List Int}
theorem Lw.same (h:Lw K a H p A X f O m bk dx dd f2 O2 mp mx ml ws) (S:yq H H'):Lw K a H' p A X f O m bk dx dd f2 O2 mp mx ml ws :=
 ⟨h.ft.same S,h.bs.same S,h.mx.same S,h.dj,h.n1,h.n2,h.n3,h.n4,h.n5⟩
theorem Lw.up (h:Lw K a H p A X f O m bk dx dd f2 O2 mp mx ml ws) (hm:m <= m'):Lw K a H p A X f O m' bk dx dd f2 O2 mp mx ml ws :=
 ⟨h.ft.up hm,h.bs.up hm,h.mx,h.dj,h.n1,h.n2,h.n3,h.n4,h.n5⟩
theorem ua {d:Addr} {fs gs:List (Str × V)} (hp:H p=some (.ins C d fs)) (hq:H q=some (.ins D e gs)) (hl:fs.length≠gs.length):p≠q:=fun z=>by
 rw [z,hq] at hp;injection hp with hp;injection hp with _ _ e;exact hl (congrArg List.length e).symm
end
def Due (H:Hp) (A:FA) (X:FX) (q:Int) (v:V):Prop:=(q=0/\∃ d,v=.ref d/\H d=some (.lst ((X.cs A).map V.int)))\/(q=1/\∃ d,v=.ref d/\H d=some (.lst (X.ws.map V.int)))\/(q=2/\∃ d,v=.ref d/\H d=some (.lst (X.sg.map V.int)))\/(q=3/\v=.int (ylu X.ws (X.cs A)))\/(q=4/\v=.int X.nd)
theorem Due.same {H H':Hp} {A:FA} {X:FX} {q:Int} {v:V} (h:Due H A X q v) (S:yq H H'):Due H' A X q v:=by
 rcases h with ⟨e,d,a,h⟩ | ⟨e,d,a,h⟩ | ⟨e,d,a,h⟩ | h | h
 .exact .inl ⟨e,d,a,S _ _ h⟩
 .exact .inr (.inl ⟨e,d,a,S _ _ h⟩)
 .exact .inr (.inr (.inl ⟨e,d,a,S _ _ h⟩))
 .exact .inr (.inr (.inr (.inl h)))
 .exact .inr (.inr (.inr (.inr h)))
def KpA (B G:Hp) (e0 e:Addr):Prop:=∀ c o,B c=some o->yn8 o=false->c≠e0->c≠e/\G c=some o
theorem KpA.refl {B:Hp} :KpA B B e e:=fun _ _ h _ a=>⟨a,h⟩
theorem KpA.same {B G G':Hp} (h:KpA B G e0 e) (S:yq G G'):KpA B G' e0 e:=fun c o d b a=>⟨(h c o d b a).1,S _ _ (h c o d b a).2⟩
theorem KpA.step {B G G':Hp} {e':Addr} (h:KpA B G e0 e) (k:Kpt e G G') (he:e'=e\/G e'=none):KpA B G' e0 e':=fun c o f a g=>by
 obtain ⟨b,d⟩:=h c o f a g;exists ?_,k c o d a b;rcases he with z | z
 .rw [z];exact b
 .exact yb d z
theorem KpA.trans {B G G':Hp} {e':Addr} (h:KpA B G e0 e) (k:KpA G G' e e'):KpA B G' e0 e':=fun c o d a b=>k c o (h c o d a b).2 a (h c o d a b).1
theorem KpA.lst {B G:Hp} {c:Addr} {xs:List V} (h:KpA B G e0 e) (hc:B c=some (.lst xs)) (ne:c≠e0):G c=some (.lst xs):=(h c _ hc rfl ne).2
def TxE (ts:List Int) (k:Nat) (sg:List Int) (nd:Int):Prop:=(k <= 9 * ts.length/\ya3 ts k sg nd)\/(k=9 * ts.length+1/\sg=[]/\nd=0)
theorem TxE.next {k:Nat} {sg:List Int} {nd b:Int} (h:TxE ts k sg nd) (hs:Sgs ts) (hb:(dec ts)[k]?=some b):ya3 ts k sg nd/\TxE ts (k+1) (sgN sg nd b) (ndN nd b):=by
 rcases h with ⟨c,h⟩ | ⟨c,_⟩
 .exists h,?_;rcases h.next hs hb with ⟨e,a⟩ | ⟨e,a,d⟩
  .exact .inl ⟨by omega,a⟩
  .exact .inr ⟨by omega,a,d⟩
 .rw [c,bV (by rw [ur]; exact bp _)] at hb;cases hb
#synth yw5 ["self"] ytb
inductive ybc (K:W.Frag) (a:Ads) (vs:List V) (H:Hp) (Q:VK) (E':XK):Prop
 | mk (p:Addr) (A:FA) (X:FX) (f:Nat->List Int->Option Slt) (O:Nat->Addr->Prop) (m:Nat) (_:vs=[.ref p]) (_:ux K a H p A X f O m) (_:∀ r H',H r=none->H' r=some (.lst ((X.cs A).map V.int))->yq H H'->Q (.ref r) H')
theorem ymb (T:Txt K mg a):vk P w K mg base CX0 2 a.Jd a.Je ["self"] (ybc K a):=by
 exists T.Db.F.ok,yw5,j;obtain ⟨p,d,X,f,O,m,rfl,h,k⟩:=h;have N:=h.me;have I:=h.n6;exists _,(yd (yt (vq (js:=[]) (ys:=[]) rfl (we (ym (pv 0) rfl)) (fun C L r M=>(ydy (wc (pv 0) T.Br T.Fj.m (ywj T) j.m T.Fj.B .nil wv) (ydy (wc (pv 0) T.Cd T.Fl.m (ytx T) j.m T.Fl.B .nil wv) (wc (pv 0) T.Ce T.Fn.m (yue T) j.m T.Fn.B .nil wv)))) rfl rfl (hyc:=yr) (hrel:=yr)))),?_;exists 1,0;rfl';exists d.pl,rfl,⟨_,SqL.of h.pl⟩,fun D e=>?_;refine ε (K:=K) (xs:=refs d.sl d.n) (Mp H D (fun i=>V.int (X.g i (X.key d i)).due)) (Mp.zero e) (fun _ _ _ q=>q.1.seq (SqL.of h.pl)) (fun i y r x u q=>?_) (fun r q=>?_)
 .obtain ⟨c,b⟩:=q;obtain ⟨rfl,l⟩:=jg x;obtain ⟨_,⟨J,z⟩,G,_⟩:=h.slot l;refine ygr (fun R h=>vab rfl h) (c _ _ z) G ?_;exact Mp.doneR e (y8 (by rw [vv]; omega)) u c b rfl
 .obtain ⟨c,b⟩:=q;rw [vv] at b;refine k D _ e ?_ c;rw [b];unfold FX.cs;rw [bS];rfl
#synth yw6 ["self"] yrj
inductive yed (K:W.Frag) (a:Ads) (vs:List V) (H:Hp) (Q:VK) (E':XK):Prop
 | mk (p:Addr) (A:FA) (X:FX) (f:Nat->List Int->Option Slt) (O:Nat->Addr->Prop) (m:Nat) (_:vs=[.ref p]) (_:ux K a H p A X f O m) (_:∀ H',yq H H'->Q (.int (ylu X.ws (X.cs A))) H')
theorem ym0 (T:Txt K mg a):vk P w K mg base CX0 3 a.Jf a.Jg ["self"] (yed K a):=by
 exists T.Dc.F.ok,yw6,e;obtain ⟨p,b,X,f,O,m,rfl,h,k⟩:=h;have v:=h.me;have t:=h.mx.o;exists _,(yd (yt (xo (ym (pv 0) rfl) T.Gr T.Fv.m (ywy T) e.m T.Fv.B .nil wv (pa1 (wc (pv 0) T.Ae T.Db.m (ymb T) e.m T.Db.B .nil wv))))),?_;exists 1,0;rfl';exists p,b,X,f,O,m,rfl,h,fun r x q c g=>?_;rfl';exists b.mp,b.mx,b.ml,r,X.ws,X.cs b,b.n,rfl,h.n1,h.n6,h.wok,h.cok,h.mx.same g,SqL.of c,fun u i=>k _ (g.trans i)
#synth yw8 ["self","bit"] yrz
inductive yp8 (a:Ads) (vs:List V) (H:Hp) (Q:VK) (E':XK):Prop
 | mk (p dp ll bl mp el pl:Addr) (nd b:Int) (sg:List Int) (_:vs=[.ref p,.int b]) (_:H p=some (.ins a.A2 dp (Õ (.ref ll) (.ref bl) (.ref mp) (.ref el) (.int nd) (.ref pl)))) (_:H el=some (.lst (sg.map V.int))) (_:sg.length <= 100000) (_:0 < nd) (_:∀ H',H' p=some (.ins a.A2 dp (Õ (.ref ll) (.ref bl) (.ref mp) (.ref el) (.int (ndN nd b)) (.ref pl)))->H' el=some (.lst ((sgN sg nd b).map V.int))->(∀ c o,H c=some o->c≠p->c≠el->H' c=some o)->Q .non H')
theorem yy4 (T:Txt K mg a):vk P w K mg base CX0 1 a.Jl a.Jm ["self","bit"] (yp8 a):=by
 exists T.Fz.F.ok,yw8,N;obtain ⟨p,r,m,n,q,i,l,g,b,D,rfl,J,B,O,y,k⟩:=h;exists _,(yg (y6 (pv 0) (yn vn (yn w4 ye (ym (pv 0) rfl)) (pv 1)) rfl) (yd (wz (y7 vbq (ym (pv 0) rfl) (vg rfl T.D1) (vh _)) (yg (yp (ue PySem.F.plainAttrs_list PySem.F.slot_list_append PySem.F.type_list_append v7 (ym (pv 0) rfl) (pa1 (yn zd (ym (pv 0) rfl) (vg rfl T.D1))))) (yd (y6 (pv 0) ye rfl))) ve))),?_;exists 2,0;unfold ndN sgN at k;rw [if_pos y,if_pos y] at k;have j:i≠p:=wu B J (by intro z; cases z);rfl';have f:upd H p (.ins a.A2 r (Õ (.ref m) (.ref n) (.ref q) (.ref i) (.int (2 * g+b)) (.ref l))) p=some (.ins a.A2 r (Õ (.ref m) (.ref n) (.ref q) (.ref i) (.int (2 * g+b)) (.ref l))):=ya;have d:=yf (o':=HO.ins a.A2 r (Õ (.ref m) (.ref n) (.ref q) (.ref i) (.int (2 * g+b)) (.ref l))) j B;have v:But p H (upd H p (.ins a.A2 r (Õ (.ref m) (.ref n) (.ref q) (.ref i) (.int (2 * g+b)) (.ref l)))):=But.upd;generalize upd H p (.ins a.A2 r (Õ (.ref m) (.ref n) (.ref q) (.ref i) (.int (2 * g+b)) (.ref l)))=M at f d v ⊢;rfl';refine z0 (fun t=>?_) (fun t=>?_)
 .rw [if_pos t,if_pos t] at k;rfl';refine uc d ?_;rfl';refine w9 d (y8 (by rw [bf]; omega)) ?_;have L:=yf (o':=HO.lst (List.map V.int D++[V.int (2 * g+b - 256)])) (Ne.symm j) f;rfl';refine k _ ya ?_ fun c o e u C=>yf u (yf C (v _ _ e u));rw [yk j,ya,bz];rfl
 .rw [if_neg t,if_neg t] at k;rfl';exact k _ f d fun c o e u C=>v _ _ e u
#synth yw0 ["self","bit"] yrr
inductive ykd (a:Ads) (vs:List V) (H:Hp) (Q:VK) (E':XK):Prop
 | mk (p dp ll bl mp el pl:Addr) (nd b:Int) (sg:List Int) (_:vs=[.ref p,.int b]) (_:H p=some (.ins a.A2 dp (Õ (.ref ll) (.ref bl) (.ref mp) (.ref el) (.int nd) (.ref pl)))) (_:H el=some (.lst (sg.map V.int))) (_:sg.length <= 100000) (_:0 <= nd) (_:∀ (el':Addr) H',(el'=el\/H el'=none)->H' p=some (.ins a.A2 dp (Õ (.ref ll) (.ref bl) (.ref mp) (.ref el') (.int (ndN nd b)) (.ref pl)))->H' el'=some (.lst ((sgN sg nd b).map V.int))->(∀ c o,H c=some o->c≠p->c≠el->H' c=some o)->(∃ o,H' el=some o)->Q .non H')
theorem yyo (T:Txt K mg a):vk P w K mg base CX0 2 a.Jj a.Jk ["self","bit"] (ykd a):=by
 exists T.Fx.F.ok,yw0,O;obtain ⟨p,G,y,C,D,i,u,x,b,I,rfl,l,f,U,W,k⟩:=h;exists _,(yd (wz (y7 yi5 (ym (pv 0) rfl) ye (vh _)) (yd (yp (xo (pv 0) T.Ae T.Fz.m (yy4 T) O.m T.Fz.B .nil wv (pa1 (pv 1))))) (yd (wz (y7 zy (pv 1) ye (vh _)) (yd (y6 (pv 0) ye rfl)) (yd (y6 (pv 0) (wx ub) rfl)))))),?_;exists 2,0;have d:i≠p:=wu f l (by intro z; cases z);rfl';refine z0 (fun j=>?_) (fun j=>?_)
 .rfl';exists p,G,y,C,D,i,u,x,b,I,rfl,l,f,U,j,fun L S v J=>k i L (.inl rfl) S v J ⟨_,v⟩
 .unfold ndN sgN at k;rw [if_neg j,if_neg j] at k;rfl';refine z0 (fun g=>?_) (fun g=>?_)
  .rw [if_pos g,if_pos g] at k;rfl';exact k i _ (.inl rfl) ya (yf d f) (fun c o e n _=>yf n e) ⟨_,yf d f⟩
  .rw [if_neg g,if_neg g] at k;rfl';exists by walk_at "len",fun r hr0=>?_
   exists hr0,H1,S1,e1;have M:=S1 _ _ l;rfl';have q:r≠p:=fun z=>by rw [z,l] at hr0; cases hr0
   exact k r _ (.inr hr0) ya (yf q e1) (fun c o e n _=>yf n (S1 _ _ e)) ⟨_,yf d (S1 _ _ f)⟩
abbrev FA.re (A:FA) (ml el pl:Addr) (sl:Nat->Addr):FA:={ A with ml:=ml,el:=el,pl:=pl,sl:=sl }
def FX.run (A:FA) (X:FX):List Int->FX
 | []=>X
 | b :: r=>FX.run A (X.see A b) r
theorem Ê (A:FA):∀ (bs cs:List Int) (X:FX),X.run A (bs++cs)=(X.run A bs).run A cs
 | [],_,_=>rfl
 | b :: r,cs,X=>Ê A r cs (X.see A b)
theorem yj4 (A:FA) (bs:List Int) (b:Int) (X:FX):X.run A (bs++[b])=(X.run A bs).see A b:=Ê A bs [b] X
def fa0 (n:Nat) (ps:Nat->List Int):FA:={ dp:=0,ll:=0,bl:=0,mp:=0,mx:=0,ml:=0,el:=0,pl:=0,n:=n,bk:=fun _=>0,dx:=fun _=>0,lk:=fun _=>0,dd:=fun _=>0,sl:=fun _=>0,kd:=fun _=>0,ps:=ps }
theorem yca (A:FA):∀ (bs:List Int) (X:FX),X.run A bs=X.run (fa0 A.n A.ps) bs
 | [],_=>rfl
 | b :: r,X=>yca A r (X.see A b)
def ytq (H:Hp) (A:FA):Prop:=H A.ll=some (.lst (refs A.lk A.n))/\A.ll≠A.el/\∃ tp,xl H A.n A.lk A.kd tp A.ps
theorem ytq.same {H H':Hp} {A:FA} (h:ytq H A) (S:yq H H'):ytq H' A:=⟨S _ _ h.1,h.2.1,let ⟨tp,r⟩:=h.2.2; ⟨tp,r.same S⟩⟩
def Own (p:Addr) (A:FA) (O:Nat->Addr->Prop):Addr->Prop:=fun c=>c=p\/c=A.mp\/(∃ j,j < A.n/\c=A.bk j)\/(∃ j,j < A.n/\O j c)\/c=A.el\/c=A.ml
def FW (K:W.Frag) (a:Ads) (H:Hp) (p:Addr) (n:Nat) (kd:Nat->Fin 3) (ps:Nat->List Int) (X:FX) (M:Nat) (W:Addr->Prop):Prop :=
 ∃ A f O m,ux K a H p A X f O m/\m <= M/\ytq H A/\A.n=n/\A.kd=kd/\A.ps=ps/\0 <= X.nd/\X.sg.length <= M/\∀ c,W c ↔ Own p A O c
structure Go (W:Addr->Prop) (H H':Hp) (W':Addr->Prop):Prop where
 fr:∀ c o,H c=some o->¬ W c->H' c=some o
 nw:∀ c,W' c->W c\/H c=none
 lv:∀ c o,H c=some o->∃ o',H' c=some o'
theorem Go.free {W:Addr->Prop} {H H':Hp} (h:Go W H H' W') {c:Addr} (e:H' c=none):H c=none:=by
 cases z:H c with
 | none=>rfl
 | some o =>
  obtain ⟨a,w⟩:=h.lv c o z;rw [e] at w;cases w
theorem Go.refl {W:Addr->Prop} {H:Hp}:Go W H H W:=⟨fun _ _ e _=>e,fun _ w=>.inl w,fun _ o e=>⟨o,e⟩⟩
theorem Go.trans {W W1:Addr->Prop} {H H1 H2:Hp} (h:Go W H H1 W1) (k:Go W1 H1 H2 W2):Go W H H2 W2:=by
 exists fun c o e a=>k.fr c o (h.fr c o e a) fun w=>?_,fun c w=>?_,fun c o e=>?_
 .rcases h.nw c w with v | v
  .exact a v
  .rw [e] at v;cases v
 .rcases k.nw c w with v | v
  .exact h.nw c v
  .exact .inr (h.free v)
 .obtain ⟨d,b⟩:=h.lv c o e;exact k.lv c d b
theorem Go.same {W:Addr->Prop} {H H1 H2:Hp} (h:Go W H H1 W') (S:yq H1 H2):Go W H H2 W':=⟨fun c o e a=>S _ _ (h.fr c o e a),h.nw,fun c o e=>let ⟨o',w⟩:=h.lv c o e; ⟨o',S _ _ w⟩⟩
theorem Go.ahead {W:Addr->Prop} {H H1 H2:Hp} (S:yq H H1) (h:Go W H1 H2 W'):Go W H H2 W':=⟨fun c o e=>h.fr c o (S _ _ e),fun c w=>(h.nw c w).imp id S.free,fun c o e=>h.lv c o (S _ _ e)⟩
theorem Go.apart {W:Addr->Prop} {H H':Hp} (h:Go W H H' W') (hU:∀ c,U c->∃ o,H c=some o) (dj:∀ c,U c->¬ W c):∀ c,U c->¬ W' c:=fun c u w=>by
 rcases h.nw c w with v | v
 .exact dj c u v
 .obtain ⟨o,e⟩:=hU c u;rw [v] at e;cases e
section
variable {H H':Hp} {n:Nat} {kd:Nat->Fin 3} {ps:Nat->List Int} {X:FX} {M:Nat} {W:Addr->Prop}
theorem ux.live {A:FA} {f:Nat->List Int->Option Slt} {m:Nat} (h:ux K a H p A X f O m):∀ c,Own p A O c->∃ o,H c=some o/\((yn8 o=true)\/∃ ns:List Int,o=.lst (ns.map V.int)):=fun c w=>by
 rcases w with z | z | ⟨j,d,z⟩ | ⟨j,d,z⟩ | z | z
 .exists _,by rw [z]; exact h.me,.inl rfl
 .exists _,by rw [z]; exact h.mx.o,.inl rfl
 .exists _,by rw [z]; exact (h.B.b j d).me,.inl rfl
 .obtain ⟨o,e,g⟩:=(h.B.b j d).own c z;exists o,e,.inl g
 .exists _,by rw [z]; exact h.el,.inr ⟨_,rfl⟩
 .exists _,by rw [z]; exact h.mx.l,.inr ⟨_,rfl⟩
theorem FW.live (h:FW K a H p n kd ps X M W):∀ c,W c->∃ o,H c=some o:=fun c w=>by
 obtain ⟨A,f,O,m,d,_,_,_,_,_,_,_,e⟩:=h;obtain ⟨o,b,_⟩:=d.live c ((e c).mp w);exists o,b
theorem FW.same (h:FW K a H p n kd ps X M W) (S:yq H H'):FW K a H' p n kd ps X M W:=by
 obtain ⟨A,f,O,m,d,b,c,r⟩:=h;exists A,f,O,m,d.same S,b,c.same S,r
theorem FW.up (h:FW K a H p n kd ps X M W) (hM:M <= M'):FW K a H p n kd ps X M' W:=by
 obtain ⟨A,f,O,m,e,c,g,b,i,l,k,j,d⟩:=h;exists A,f,O,m,e,bN c hM,g,b,i,l,k,bN j hM,d
theorem FW.out (h:FW K a H p n kd ps X M W) {c:Addr} {o:HO} (e:H c=some o) (hi:yn8 o=false) (hl:∀ ns:List Int,o≠.lst (ns.map V.int)):¬ W c:=fun w=>by
 obtain ⟨A,f,O,m,g,_,_,_,_,_,_,_,d⟩:=h;obtain ⟨i,b,z | ⟨ns,z⟩⟩:=g.live c ((d c).mp w)
 .rw [e] at b;cases b;rw [hi] at z;cases z
 .rw [e] at b;cases b;exact hl ns z
theorem yhb {g:Nat->Addr} (h:1 <= n):(refs g n)[0]?=some (.ref (g 0)):=by
 unfold refs;rw [br,cD h];rfl
theorem yo2 {g:Nat->Addr} {k:Nat} (h:1 <= k) (ns:List Int):HO.lst (refs g k)≠.lst (ns.map V.int):=fun z=>by
 have e:=HO.lst.inj z;have a:=yhb (g:=g) h;rw [e,br] at a
 cases q:ns[0]? with
 | none=>rw [q] at a; cases a
 | some x=>rw [q] at a; cases a
theorem FW.frame {n':Nat} {kd':Nat->Fin 3} {ps':Nat->List Int} {X':FX} (hQ:FW K a H q n' kd' ps' X' M' W') (hP:FW K a H p n kd ps X M W) (dj:∀ c,W' c->¬ W c) (h:Go W H H' U):FW K a H' q n' kd' ps' X' M' W':=by
 obtain ⟨A,f,O,m,j,E,s,J,N,P,G,L,b⟩:=hQ;have v:∀ {l:Addr} {g:Nat->Addr},H l=some (.lst (refs g A.n))->¬ W l:=fun {l g} e=>hP.out e rfl (yo2 j.n1)
 have u:∀ {t:Addr} {k:List V},H t=some (.tup k)->¬ W t:=fun {t k} e=>hP.out e rfl (fun Q z=>nomatch z)
 exists A,f,O,m,j.frame (O2:=W) (fun c o e F=>h.fr c o e F) (dj _ ((b _).mpr (.inl rfl))) (dj _ ((b _).mpr (.inr (.inl rfl)))) (fun i d=>dj _ ((b _).mpr (.inr (.inr (.inl ⟨i,d,rfl⟩))))) (fun i c d w=>dj _ ((b _).mpr (.inr (.inr (.inr (.inl ⟨i,d,w⟩)))))) (fun l k x e=>h.fr _ _ e ?_) (fun t k e=>?_),E,⟨h.fr _ _ s.1 (v s.1),s.2.1,?_⟩,J,N,P,G,L,b
 .rcases x with z | z | z | z
  .rw [z]; exact v j.bl
  .rw [z]; exact dj _ ((b _).mpr (.inr (.inr (.inr (.inr (.inl rfl))))))
  .rw [z]; exact dj _ ((b _).mpr (.inr (.inr (.inr (.inr (.inr rfl))))))
  .rw [z]; exact v j.pl
 .rcases e with (e | ⟨o,e⟩) | e
  .exact .inl (.inl (h.fr _ _ e (u e)))
  .exact .inl (.inr ⟨o,h.fr _ _ e (hP.out e rfl (fun Q z=>nomatch z))⟩)
  .exact .inr e
 .obtain ⟨I,r⟩:=s.2.2;exists I,fun i d=>?_;obtain ⟨C,z,B,y,D⟩:=r i d;exists C,z,h.fr _ _ B (u B),h.fr _ _ y (u y),D
theorem FW.lst (h:FW K a H p n kd ps X M W) {r:Addr} {xs ys:List V} (hr:H r=some (.lst xs)) (nr:¬ W r) (hbl:∀ A f O m,ux K a H p A X f O m->ytq H A->r≠A.bl/\r≠A.pl/\r≠A.ll):FW K a (upd H r (.lst ys)) p n kd ps X M W:=by
 obtain ⟨A,f,O,m,d,j,b,B,o,x,u,s,c⟩:=h;obtain ⟨k,t,e⟩:=hbl A f O m d b;exists A,f,O,m,d.app hr (fun q l z=>?_),j,⟨yf (fun z=>e z.symm) b.1,b.2.1,?_⟩,B,o,x,u,s,c
 .rcases l with y | y | y | y
  .exact k (z.symm.trans y)
  .exact nr ((c _).mpr (.inr (.inr (.inr (.inr (.inl (z.symm.trans y)))))))
  .exact nr ((c _).mpr (.inr (.inr (.inr (.inr (.inr (z.symm.trans y)))))))
  .exact t (z.symm.trans y)
 .obtain ⟨v,w⟩:=b.2.2;exists v,fun i g=>(w i g).upd hr
end
theorem ywf {nd b:Int} (h:0 <= nd) (b0:0 <= b):0 <= ndN nd b:=by
 unfold ndN
 split
 .split <;> omega
 .split <;> omega
theorem yph (sg:List Int) (nd b:Int):(sgN sg nd b).length <= sg.length+1:=by
 unfold sgN
 split
 .split
  .rw [bj]; exact bp _
  .omega
 .split
  .omega
  .exact bL _
#synth ynp ["self","bit","slot"] ["self","bit"] yrm
inductive yhc (K:W.Frag) (a:Ads) (vs:List V) (H:Hp) (Q:VK) (E':XK):Prop
 | mk (p:Addr) (A:FA) (X:FX) (f:Nat->List Int->Option Slt) (O:Nat->Addr->Prop) (m:Nat) (b:Int) (_:vs=[.ref p,.int b]) (_:ux K a H p A X f O m) (_:0 <= b) (_:b <= 1) (_:m+20 < 1000000) (_:0 <= X.nd) (_:X.sg.length <= 100000) (_:∀ (ml el pl:Addr) (sl:Nat->Addr) (f':Nat->List Int->Option Slt) (O':Nat->Addr->Prop) (H':Hp),(el=A.el\/H el=none)->ux K a H' p { A with ml:=ml,el:=el,pl:=pl,sl:=sl } (X.see A b) f' O' (m+A.n)->(∀ j c,j < A.n->O' j c->O j c\/H c=none) ->
  (∀ c o,H c=some o->c≠p->c≠A.mp->c≠A.el->(∀ j,j < A.n->¬ O j c)->H' c=some o)->(∀ c o,H c=some o->∃ o',H' c=some o')->H ml=none->Q .non H')
theorem ymt (T:Txt K mg a):vk P w K mg base CX0 6 a.Jh a.Ji ["self","bit"] (yhc K a):=by
 exists T.Dd.F.ok,ynp,hr;obtain ⟨p,d,X,f,O,m,b,rfl,h,b0,b1,hm,ax,av,k⟩:=h;have hp:=h.me;have ad:=h.mx.o;have n6:=h.n6;have I:=ytz b0 b1;refine yi (yp (ud (þ T) hr.m T.Ci ww (pa1 (pv 1)))) ?_;refine yi (yp (vw (ym (pv 0) rfl) T.Gr T.Fw.m (yvh T) hr.m T.Fw.B .nil ww (pac (wc (pv 0) T.Ae T.Db.m (ymb T) hr.m T.Db.B .nil wv) (pa1 (pv 1))))) ?_;refine yi (zr PassesOwn.never rfl (we (ym (pv 0) rfl)) (wt (i:=2) ynp.nd rfl (Or.inl rfl)) (yd (yp (ydy (vw (pv 2) T.Br T.Fk.m (yuf T) hr.m T.Fk.B .nil ww (pa1 (pv 1))) (ydy (vw (pv 2) T.Cd T.Fm.m (yyn T) hr.m T.Fm.B .nil ww (pa1 (pv 1))) (vw (pv 2) T.Ce T.Fo.m (yud T) hr.m T.Fo.B .nil ww (pa1 (pv 1)))))))) ?_;refine yi (yp (xo (pv 0) T.Ae T.Fx.m (yyo T) hr.m T.Fx.B .nil wv (pa1 (pv 1)))) ?_;exists _,(yd (yp (wc (pv 0) T.Ae T.Da.m (ym7 T) hr.m T.Da.B .nil wv))),?_;exists 2,1;rfl';exists .int b,_,rfl,.int b,fun _=>?_,fun z=>(by rw [I] at z; cases z);rfl';exists p,d,X,f,O,m,rfl,h,fun r H1 aL au S1=>?_;have N:=S1 _ _ ad;rfl';exists d.mp,d.mx,d.ml,r,X.ws,X.cs d,d.n,.int b,_,rfl,h.n1,n6,h.wok,h.cok,h.mx.same S1,SqL.of au,.int b,fun b' e _ _ ml H2 a8 M2 U=>?_,fun z=>(by rw [I] at z; cases z);cases e;have M:=h.same S1
 have ae:p≠d.mp:=fun z=>by
  have:=h.me;rw [z,ad] at this;injection this with this;injection this with _ _ e;exact absurd (congrArg List.length e) (show ¬ (1=6) by decide)
 have ap:=U _ _ M.me ae;have aa:∀ {l:Addr} {xs:List V},H1 l=some (.lst xs)->l≠d.mp:=fun {l xs} e z=>by rw [z,N] at e; cases e
 have a6:=U _ _ M.bl (aa M.bl);have a7:=U _ _ M.el (aa M.el);have a2:=U _ _ M.pl (aa M.pl)
 have W:=M.B.frame (O2:=fun c=>c=d.mp) (fun c o e ne=>U c o e ne) (fun j c q w z=>h.nm j q (z ▸ w)) (fun j q z=>by
  have:=(M.B.b j q).me;rw [z,N] at this;injection this with this;injection this with _ _ e
  exact absurd (congrArg List.length e) (show ¬ (1=2) by decide)) (fun t xs e=>by
  rcases e with (e | ⟨o,e⟩) | e
  .exact .inl (.inl (U _ _ e (fun z=>by rw [z,N] at e; cases e)))
  .exact .inl (.inr ⟨o,U _ _ e (fun z=>by rw [z,N] at e; cases e)⟩)
  .exact .inr e)
 have aw:∀ j,j < d.n->(∃ s,f j (X.key d j)=some s)/\AtS H2 (d.dd j) (X.key d j) (d.sl j):=fun j q=>⟨(M.at' j q).1,(M.at' j q).2.told (M.B.b j q) (fun z=>h.nm j q (by rw [<- z]; exact (M.B.b j q).dO)) U⟩;rfl';refine ⟨d.pl,rfl,⟨_,SqL.of a2⟩,ug (K:=K) (a:=d.pl) (xs:=refs d.sl d.n) (fun i σ2 G=>∃ (v:Option V) (f':Nat->List Int->Option Slt),σ2=[some (.ref p),some (.int b),v]/\Bks K a G d.n d.bk d.dx d.lk d.dd d.kd d.ps f' O m /\
   (∀ j,j < d.n->∀ k,(f' j k).getD (kd0 (d.kd j))=if j < i/\k=X.key d j then (X.g j k).see b else X.g j k)/\(∀ j,j < d.n->(∃ s,f' j (X.key d j)=some s)/\AtS G (d.dd j) (X.key d j) (d.sl j))/\(∀ c o,H2 c=some o->(∀ j,j < d.n->¬ O j c)->G c=some o))
  ⟨_,f,rfl,W,fun j q L=>by rw [if_neg (fun z=>absurd z.1 (bY j))]; exact h.ag j q L,aw,fun c o e _=>e⟩ (by rintro i σ2 G _ ⟨_,_,_,_,_,_,w⟩; exact SqL.of (w _ _ a2 (W.nlst a2))) ?_ ?_⟩
 .rintro i y σ2 G hy ⟨v,f',rfl,S,gA,gS,gF⟩;obtain ⟨rfl,D⟩:=jg hy;obtain ⟨⟨s',af⟩,a9⟩:=gS i D
  have es:s'=X.g i (X.key d i):=by
   have:=gA i D (X.key d i);rw [af,if_neg (fun z=>absurd z.1 (cI i))] at this;exact this
  obtain ⟨dq,hq,ok,aJ,ao⟩:=(S.b i D).slot af a9;rfl';refine yqi (x:=.int b) (fun Q' h=>?_) (fun Q' h=>?_) hq ok (.int b) (fun b' e _ _ G3 h3 B3=>?_) (fun z=>by rw [I] at z; cases z) (fun z=>by rw [I] at z; cases z) (fun z=>by rw [I] at z; cases z)
  .rfl';exact h
  .rfl';exact h
  cases e;have aA:=(S.b i D).told af a9 b0 b1 h3 B3;have BO:yi7 (O i) G G3:=fun c o e no=>B3 _ _ e fun z=>no (by rw [z]; exact ao);have M3:=S.move D (bp m) aA (fun c w=>.inl w) BO
  have eO:(fun j=>if j=i then O i else O j)=O:=by
   funext j
   by_cases z:j=i
   .rw [if_pos z,z]
   .rw [if_neg z]
  rw [eO] at M3
  have aC:d.dd i≠d.sl i:=fun z=>by
   obtain ⟨aI,aH,w1,_⟩:=(S.b i D).tb;obtain ⟨C,fs,eo⟩:=ħ a dq s';rw [z,hq,eo] at w1;cases w1
  rfl';exists _,_,rfl,M3,fun j q L=>?_,fun j q=>?_,fun c o e no=>?_
  .try dsimp only
   by_cases z:j=i
   .subst z;rw [if_pos rfl];unfold ũ;by_cases w:L=X.key d j
    .rw [if_pos w,if_pos ⟨cP j,w⟩,w,<- es];rfl
    .rw [if_neg w,if_neg (fun z=>w z.2)];have:=gA j q L;rw [if_neg (fun z=>w z.2)] at this;exact this
   .rw [if_neg z,gA j q L];have:(j < i/\L=X.key d j) ↔ (j < i+1/\L=X.key d j):=by constructor <;> (rintro ⟨u,v⟩; exact ⟨by omega,v⟩)
    by_cases w:j < i/\L=X.key d j
    .rw [if_pos w,if_pos (this.mp w)]
    .rw [if_neg w,if_neg (fun z=>w (this.mpr z))]
  .try dsimp only
   by_cases z:j=i
   .subst z;rw [if_pos rfl];exists ⟨s'.see b,?_⟩,a9.told (S.b j D) aC B3;unfold ũ;rw [if_pos rfl]
   .rw [if_neg z];exists (gS j q).1,(gS j q).2.move S q D z BO
  .exact BO _ _ (gF c o e no) (no i D)
 .rintro σ2 G ⟨v,f',rfl,S,gA,gS,gF⟩;rw [vv] at gA;have gp:=gF _ _ ap h.np;have R:=gF _ _ a7 (W.nlst a7);have ah:=gF _ _ a6 (W.nlst a6);have Y:=gF _ _ M2.o h.nm;have ai:=gF _ _ M2.l (W.nlst M2.l);rfl';exists p,d.dp,d.ll,d.bl,d.mp,d.el,d.pl,X.nd,b,X.sg,rfl,gp,R,av,ax,fun el H4 aj ab a3 F4 L4=>?_;have ak:∀ {l:Addr} {xs:List V},G l=some (.lst xs)->l≠p:=fun {l xs} e z=>by rw [z,gp] at e; cases e
  have ar:∀ j,j < d.n->¬ O j p:=h.np;have al:=S.nlst R
  have a4:=S.frame (O2:=fun c=>c=p\/c=d.el) (fun c o e ne=>F4 c o e (fun z=>ne (.inl z)) (fun z=>ne (.inr z))) (fun j c q w z=>by
   rcases z with z | z
   .exact ar j q (z ▸ w)
   .exact al j q (z ▸ w)) (fun j q z=>by
   have:=(S.b j q).me;rcases z with z | z
   .rw [z,gp] at this;injection this with this;injection this with _ _ e;exact absurd (congrArg List.length e) (show ¬ (6=2) by decide)
   .rw [z,R] at this
    cases this) (fun t xs e=>by
   rcases e with (e | ⟨o,e⟩) | e
   .exact .inl (.inl (F4 _ _ e (fun z=>by rw [z,gp] at e; cases e) (fun z=>by rw [z,R] at e; cases e)))
   .exact .inl (.inr ⟨o,F4 _ _ e (fun z=>by rw [z,gp] at e; cases e) (fun z=>by rw [z,R] at e; cases e)⟩)
   .exact .inr e)
  have as:d.bl≠d.el:=fun z=>by
   have e:=h.bl;rw [z,h.el] at e;injection e with e;injection e with e;have e0:=congrArg (fun l:List V=>l[0]?) e
   have r0:(refs d.bk d.n)[0]?=some (.ref (d.bk 0)):=by
    unfold refs;rw [br,cD h.n1];rfl
   try dsimp only at e0
   rw [r0,br] at e0
   cases hs:X.sg[0]? with
   | none=>rw [hs] at e0; cases e0
   | some c=>rw [hs] at e0; cases e0
  have an:ml≠d.el:=(yb M.el a8).symm;have a5:=F4 _ _ ah (ak ah) as;have aq:=F4 _ _ Y (Ne.symm ae) (fun z=>by rw [z,R] at Y; cases Y);have ac:=F4 _ _ ai (ak ai) an
  have a0:∀ c o,H c=some o->∃ Z,H4 c=some Z:=fun c o e=>by
   by_cases zp:c=p
   .exists _,zp ▸ ab
   by_cases ze:c=d.el
   .rw [ze];exact L4
   have gc:∃ Z,G c=some Z:=by
    by_cases zm:c=d.mp
    .exists _,zm ▸ Y
    by_cases zo:∀ j,j < d.n->¬ O j c
    .exists o,gF _ _ (U _ _ (S1 _ _ e) zm) zo
    .have:∃ j,j < d.n/\O j c:=Classical.byContradiction fun w=>zo fun j q w'=>w ⟨j,q,w'⟩;obtain ⟨j,q,w⟩:=this;obtain ⟨Z,J,_⟩:=(S.b j q).own c w;exists Z,J
   obtain ⟨Z,J⟩:=gc;exists Z,F4 _ _ J zp ze
  have aD:ylv d.n d.kd f' (X.see d b).g:=fun j q L=>by
   rw [gA j q L];show _=if L=X.key d j then (X.g j L).see b else X.g j L;by_cases w:L=X.key d j
   .rw [if_pos ⟨q,w⟩,if_pos w]
   .rw [if_neg (fun z=>w z.2),if_neg w]
  rfl';exists p,d.dp,d.ll,d.bl,d.mp,el,d.pl,ndN X.nd b,sgN X.sg X.nd b,d.n,m,d.bk,d.dx,d.lk,d.dd,d.kd,d.ps,f',O,(X.see d b).g,rfl,ab,a5,a3,a4,aD,n6,by omega,h.np,fun pl sl f2 O2 H5 am ay aG B5 aE aB az F5 L5=>?_
  have a1:∀ {l:Addr} {xs:List V},H4 l=some (.lst xs)->l≠p:=fun {l xs} e z=>by rw [z,ab] at e; cases e
  have n2:∀ j c,j < d.n->O2 j c->O j c\/H c=none:=fun j c q w=>by
   rcases az j c q w with v | v
   .exact .inl v
   .refine .inr ?_
    cases e:H c with
    | none=>rfl
    | some o =>
     obtain ⟨Z,J⟩:=a0 c o e;rw [J] at v;cases v
  refine k ml el pl sl f2 O2 H5 ?_ ⟨am,F5 _ _ a5 (a1 a5) (a4.nlst a5),F5 _ _ a3 (a1 a3) (a4.nlst a3),⟨F5 _ _ aq (Ne.symm ae) h.nm,F5 _ _ ac (a1 ac) (a4.nlst ac)⟩,ym5 h.n1 n6 h.wok h.cok,ay,B5,aE,aB,fun j q w=>?_,fun j q w=>?_,h.n1,n6⟩ n2 (fun c o e c1 c2 c3 no=>F5 _ _ (F4 _ _ (gF _ _ (U _ _ (S1 _ _ e) c2) no) c1 c3) c1 no) (fun c o e=>let ⟨Z,w⟩:=a0 c o e; L5 c Z w) (S1.free a8)
  .rcases aj with z | z
   .exact .inl z
   .refine .inr ?_
    cases e:H el with
    | none=>rfl
    | some o =>
     exfalso;by_cases zp:el=p
     .rw [zp,gp] at z; cases z
     by_cases zm:el=d.mp
     .rw [zm,Y] at z; cases z
     by_cases zo:∀ j,j < d.n->¬ O j el
     .rw [gF _ _ (U _ _ (S1 _ _ e) zm) zo] at z; cases z
     .have:∃ j,j < d.n/\O j el:=Classical.byContradiction fun w=>zo fun j q w'=>w ⟨j,q,w'⟩;obtain ⟨j,q,w⟩:=this;obtain ⟨Z,J,_⟩:=(S.b j q).own el w;rw [J] at z;cases z
  .rcases n2 j p q w with v | v
   .exact h.np j q v
   .rw [hp] at v; cases v
  .rcases n2 j d.mp q w with v | v
   .exact h.nm j q v
   .rw [ad] at v; cases v
theorem FW.see {H:Hp} {n:Nat} {kd:Nat->Fin 3} {ps:Nat->List Int} {X:FX} {M:Nat} {W:Addr->Prop} {b:Int} {Q:VK} {E:XK} (h:FW K a H p n kd ps X M W) (b0:0 <= b) (b1:b <= 1) (hM:M+20 < 100000)
  (k:∀ W' H',FW K a H' p n kd ps (X.see (fa0 n ps) b) (M+6) W'->Go W H H' W'->Q .non H'):yhc K a [.ref p,.int b] H Q E:=by
 obtain ⟨A,f,O,m,d,hm,l,rfl,rfl,rfl,N,e5,s⟩:=h;exists p,A,X,f,O,m,b,rfl,d,b0,b1,by omega,N,by omega,fun I t J R f' S H' L D G x lv u=>?_
 have n6:=d.n6;refine k (Own p (A.re I t J R) S) H' ⟨A.re I t J R,f',S,m+A.n,D,by omega,⟨?_,?_,?_⟩,rfl,rfl,rfl,ywf N b0,?_,fun c=>Iff.rfl⟩ ⟨fun c o e Z=>?_,fun c w=>?_,lv⟩
 .refine x _ _ l.1 (fun z=>?_) (fun z=>?_) l.2.1 (d.B.nlst l.1)
  .have e:=l.1; rw [z,d.me] at e; cases e
  .have e:=l.1; rw [z,d.mx.o] at e; cases e
 .rcases L with z | z
  .show A.ll≠t;rw [z];exact l.2.1
  .exact yb l.1 z
 .obtain ⟨tp,r⟩:=l.2.2
  have P:∀ {c:Addr} {C:List V},H c=some (.tup C)->H' c=some (.tup C):=fun {c C} e=>x c _ e (fun z=>by rw [z,d.me] at e; cases e) (fun z=>by rw [z,d.mx.o] at e; cases e) (fun z=>by rw [z,d.el] at e; cases e) fun j q w=>by
   obtain ⟨o,T,F⟩:=(d.B.b j q).own c w;rw [e] at T;cases T;cases F
  exists tp,fun i F=>?_;obtain ⟨U,z,h1,h2,Y⟩:=r i F;exists U,z,P h1,P h2,Y
 .have:=yph X.sg X.nd b;show (sgN X.sg X.nd b).length <= M+6;omega
 .have g:¬ Own p A O c:=fun w=>Z ((s c).mpr w);exact x c o e (fun z=>g (.inl z)) (fun z=>g (.inr (.inl z))) (fun z=>g (.inr (.inr (.inr (.inr (.inl z)))))) fun j q w=>g (.inr (.inr (.inr (.inl ⟨j,q,w⟩))))
 .rcases w with z | z | ⟨j,q,z⟩ | ⟨j,q,z⟩ | z | z
  .exact .inl ((s c).mpr (.inl z))
  .exact .inl ((s c).mpr (.inr (.inl z)))
  .exact .inl ((s c).mpr (.inr (.inr (.inl ⟨j,q,z⟩))))
  .rcases G j c q z with v | v
   .exact .inl ((s c).mpr (.inr (.inr (.inr (.inl ⟨j,q,v⟩)))))
   .exact .inr v
  .rcases L with y | y
   .exact .inl ((s c).mpr (.inr (.inr (.inr (.inr (.inl (show c=A.el from Eq.trans z y)))))))
   .exact .inr (by rw [show c=t from z]; exact y)
  .exact .inr (by rw [show c=I from z]; exact u)
theorem vc1.fw {H H':Hp} {n:Nat} {lk:Nat->Addr} {kd:Nat->Fin 3} {ps:Nat->List Int} {A:FA} {f:Nat->List Int->Option Slt} (h:vc1 K a H H' p n lk kd ps A f O) (r:xl H' n lk kd tp ps):FW K a H' p n kd ps (FX0 n kd) 6 (Own p A O)/\∀ c,Own p A O c->c=p\/H c=none:=by
 obtain ⟨b,rfl,rfl,rfl,rfl,o,k,m,i,d,e,l⟩:=h;exists ⟨A,f,O,6,b,bp _,⟨d,e,tp,r⟩,rfl,rfl,rfl,Int.le_refl _,bL _,fun c=>Iff.rfl⟩,fun c w=>?_;rcases w with z | z | ⟨j,g,z⟩ | ⟨j,g,z⟩ | z | z
 .exact .inl z
 .exact .inr (by rw [z]; exact m)
 .exact .inr (by rw [z]; exact k j g)
 .exact .inr (o j c g z)
 .exact .inr (i c (.inr (.inl z)))
 .exact .inr (i c (.inr (.inr (.inl z))))
theorem FW.new {H:Hp} {dp l:Addr} {n:Nat} {lk:Nat->Addr} {kd:Nat->Fin 3} {ps:Nat->List Int} {Q:VK} {E:XK} (np:H p=none) (ndp:H dp=none) (hl:H l=some (.lst (refs lk n))) (n1:1 <= n) (n6:n <= 6) (r:xl H n lk kd tp ps)
  (k:∀ W H',FW K a H' p n kd ps (FX0 n kd) 6 W->(∀ c,W c->H c=none)->yq H H'->Q .non H'):Ŏ K a [.ref p,.ref l] (upd (upd H dp (.own p)) p (.ins a.A2 dp [])) Q E:=by
 have d:yq H (upd (upd H dp (.own p)) p (.ins a.A2 dp [])):=fun b o e=>by rw [yk (yb e np),yk (yb e ndp)]; exact e
 exists p,dp,.ref l,rfl,ya,.inr ⟨l,n,lk,kd,tp,ps,rfl,d _ _ hl,n1,n6,r.same d,fun A f O h i j=>?_⟩;have g:yq H h:=fun b o e=>j b o (d b o e) (yb e np);obtain ⟨m,q⟩:=i.fw (r.same g);refine k _ h m (fun c w=>?_) g;rcases q c w with z | z
 .rw [z];exact np
 .exact d.free z
theorem Go.bs {W:Addr->Prop} {B H H':Hp} (g:Go W H H' W') (S:yq B H) (hW:∀ c,W c->B c=none):yq B H'/\∀ c,W' c->B c=none:=by
 exists fun c o e=>g.fr c o (S _ _ e) fun w=>?_,fun c w=>?_
 .rw [hW c w] at e;cases e
 .rcases g.nw c w with z | z
  .exact hW c z
  .exact S.free z
theorem Û {A:FA} {X:FX} {bs:List Int} {k:Nat} {b:Int} (h:bs[k]?=some b):X.run A (bs.take (k+1))=(X.run A (bs.take k)).see A b:=by
 rw [Æ h,yj4]
structure FGo (p:Addr) (A:FA) (O:Nat->Addr->Prop) (H H':Hp) (el:Addr) (O':Nat->Addr->Prop):Prop where
 he:el=A.el\/H el=none
 hO:∀ j c,j < A.n->O' j c->O j c\/H c=none
 fr:∀ c o,H c=some o->c≠p->c≠A.mp->c≠A.el->(∀ j,j < A.n->¬ O j c)->H' c=some o
 live:∀ c o,H c=some o->∃ o',H' c=some o'
theorem FGo.free {A:FA} {H H':Hp} {el c:Addr} (h:FGo p A O H H' el O') (hc:H' c=none):H c=none:=by
 cases e:H c with
 | none=>rfl
 | some o =>
  obtain ⟨a,w⟩:=h.live c o e;rw [hc] at w;cases w
theorem FGo.refl {A:FA} {H:Hp}:FGo p A O H H A.el O:=⟨.inl rfl,fun _ _ _ w=>.inl w,fun _ _ e _ _ _ _=>e,fun _ o e=>⟨o,e⟩⟩
theorem FGo.trans {A:FA} {O1:Nat->Addr->Prop} {H H1 H2:Hp} {ml el pl el2:Addr} {sl:Nat->Addr} (h:FGo p A O H H1 el O1) (k:FGo p (A.re ml el pl sl) O1 H1 H2 el2 O2):FGo p A O H H2 el2 O2:=by
 exists ?_,fun j c a w=>?_,fun c o e g f d b=>?_,fun c o e=>?_
 .rcases k.he with z | z
  .rcases h.he with y | y
   .exact .inl (z.trans y)
   .exact .inr (by rw [show el2=el from z]; exact y)
  .exact .inr (h.free z)
 .rcases k.hO j c a w with v | v
  .exact h.hO j c a v
  .exact .inr (h.free v)
 .refine k.fr c o (h.fr c o e g f d b) g f (fun z=>?_) (fun j a w=>?_)
  .rcases h.he with y | y
   .exact d (z.trans y)
   .rw [show c=el from z,y] at e;cases e
  .rcases h.hO j c a w with v | v
   .exact b j a v
   .rw [e] at v;cases v
 .obtain ⟨l,i⟩:=h.live c o e;exact k.live c l i
theorem FGo.same {A:FA} {H H1 H2:Hp} {el:Addr} (h:FGo p A O H H1 el O') (S:yq H1 H2):FGo p A O H H2 el O' :=
 ⟨h.he,h.hO,fun c o e a b d f=>S _ _ (h.fr c o e a b d f),fun c o e=>let ⟨o',w⟩:=h.live c o e; ⟨o',S _ _ w⟩⟩
theorem FGo.ahead {A:FA} {H H1 H2:Hp} {el:Addr} (S:yq H H1) (h:FGo p A O H1 H2 el O'):FGo p A O H H2 el O' :=
 ⟨h.he.imp id S.free,fun j c a w=>(h.hO j c a w).imp id S.free,fun c o e=>h.fr c o (S _ _ e),fun c o e=>h.live c o (S _ _ e)⟩
theorem FGo.kpa {A:FA} {X:FX} {f:Nat->List Int->Option Slt} {m:Nat} {H H':Hp} {el:Addr} (hf:ux K a H p A X f O m) (h:FGo p A O H H' el O'):KpA H H' A.el el:=fun c o e i k=>by
 exists ?_,h.fr c o e (fun z=>by rw [z,hf.me] at e; cases e; cases i) (fun z=>by rw [z,hf.mx.o] at e; cases e; cases i) k fun j l w=>?_
 .rcases h.he with z | z
  .rw [z];exact k
  .exact yb e z
 .obtain ⟨n,g,d⟩:=(hf.B.b j l).own c w;rw [e] at g;cases g;rw [i] at d;cases d
theorem FGo.app {R:Addr} {A:FA} {H H1:Hp} {el:Addr} {o':HO} (h:FGo p A O H H1 el O') (hR:H R=none):FGo p A O H (upd H1 R o') el O' :=
 ⟨h.he,h.hO,fun c o e a b d f=>yf (yb e hR) (h.fr c o e a b d f),fun c o e=>let ⟨o',w⟩:=h.live c o e; ⟨o',yf (yb e hR) w⟩⟩
theorem yx8 {g:Nat->Addr} {n:Nat} (h:1 <= n):(refs g n)[0]?=some (.ref (g 0)):=by
 unfold refs;rw [br,cD h];rfl
structure Ì (H:Hp) (t:Addr) (ts:List Int) (w:Nat):Prop where
 l:H t=some (.lst (ts.map V.int))
 s:Sgs ts
 z:ts.length <= w
theorem Ì.same {H H':Hp} {t:Addr} {w:Nat} (h:Ì H t ts w) (S:yq H H'):Ì H' t ts w:=⟨S _ _ h.l,h.s,h.z⟩
def fX (n:Nat) (kd:Nat->Fin 3) (ps:Nat->List Int) (pre:List Int) (ts:List Int) (k:Nat):FX:=((FX0 n kd).run (fa0 n ps) pre).run (fa0 n ps) ((dec ts).take k)
def j8 (n:Nat) (kd:Nat->Fin 3) (ps:Nat->List Int) (pre:List Int) (ts:List Int) (k:Nat):Int:=ylu (fX n kd ps pre ts k).ws ((fX n kd ps pre ts k).cs (fa0 n ps))
def wb (ts:List Int) (k:Nat):Int:=((dec ts)[k]?).getD 0
theorem yki (ts:List Int) (k:Nat) (h:k < (dec ts).length):0 <= wb ts k/\wb ts k <= 1:=by
 unfold wb;rw [bo h];exact ξ ts _ (cg h)
def yto (H:Hp) (lx:V) (N w:Nat) (lt:Nat->Addr) (tt:Nat->List Int):Prop:=((lx=.non/\N=0)\/∃ ll,lx=.ref ll/\H ll=some (.lst (refs lt N)))/\∀ i,i < N->Ì H (lt i) (tt i) w
theorem yto.same {H H':Hp} {lx:V} {N w:Nat} {lt:Nat->Addr} (h:yto H lx N w lt tt) (S:yq H H'):yto H' lx N w lt tt :=
 ⟨h.1.imp id fun ⟨a,e,z⟩=>⟨a,e,S _ _ z⟩,fun i b=>(h.2 i b).same S⟩
structure vda (H:Hp) (L tx:Addr) (lx:V) (n:Nat) (lk:Nat->Addr) (kd:Nat->Fin 3) (tp:Nat->Addr) (ps:Nat->List Int) (ts:List Int) (N w:Nat) (lt:Nat->Addr) (tt:Nat->List Int):Prop where
 l:H L=some (.lst (refs lk n))
 n1:1 <= n
 n6:n <= 6
 r:xl H n lk kd tp ps
 t:Ì H tx ts 1000
 lr:yto H lx N w lt tt
 w1:w <= 1000
 N1:N <= 1000
 b:6+6 * (N * (9 * w+1))+6 * (9 * ts.length+1)+20 < 1000000
theorem vda.same {H H':Hp} {L tx:Addr} {lx:V} {n:Nat} {lk:Nat->Addr} {kd:Nat->Fin 3} {ps:Nat->List Int} {N w:Nat} {lt:Nat->Addr} (h:vda H L tx lx n lk kd tp ps ts N w lt tt) (S:yq H H'):vda H' L tx lx n lk kd tp ps ts N w lt tt :=
 ⟨S _ _ h.l,h.n1,h.n6,h.r.same S,h.t.same S,h.lr.same S,h.w1,h.N1,h.b⟩
theorem Sds.refs {H:Hp} {k:Nat} {g:Nat->Addr} {d:Nat->PyData}:∀ (n:Nat),(∀ i,i < n->Sd K H (.ref (g i)) (d i) k)->Sds K H (refs g n) ((List.range n).map d) k:=fun n h=>by
 unfold Law.refs
 have a:∀ l:List Nat,(∀ i∈l,i < n)->Sds K H (l.map fun i=>V.ref (g i)) (l.map d) k:=by
  intro l
  induction l with
  | nil=>exact fun _=>.nil
  | cons i r ih=>exact fun b=>.cons (h i (b i (by simp))) (ih fun j c=>b j (by simp [c]))
 exact a (List.range n) fun i e=>cj.mp e
structure XOk (n:Nat) (X:FX):Prop where
 w:WOk n X.ws
 s:∀ i k,(X.g i k).ok
theorem XOk.cs {n:Nat} {X:FX} (h:XOk n X) (ps:Nat->List Int):COk n (X.cs (fa0 n ps)):=by
 exists by unfold FX.cs; rw [bf,bU]; rfl,fun c a=>?_,fun c a=>?_
 .obtain ⟨j,_,rfl⟩:=bq.mp a;exact (yd4 (h.s _ _)).1
 .obtain ⟨j,_,rfl⟩:=bq.mp a;exact (yd4 (h.s _ _)).2
theorem XOk.see {n:Nat} {X:FX} (h:XOk n X) (n1:1 <= n) (n6:n <= 6) (ps:Nat->List Int) {b:Int} (b0:0 <= b) (b1:b <= 1):XOk n (X.see (fa0 n ps) b):=by
 exists ym5 n1 n6 h.w (h.cs ps),fun i k=>?_;show (if k=X.key (fa0 n ps) i then (X.g i k).see b else X.g i k).ok
 split
 .exact Slt.see_ok (h.s i k) b0 b1
 .exact h.s i k
theorem XOk.run {n:Nat} (n1:1 <= n) (n6:n <= 6) (ps:Nat->List Int):∀ (bs:List Int) {X:FX},XOk n X->ya6 bs->XOk n (X.run (fa0 n ps) bs)
 | [],_,h,_=>h
 | b :: r,_,h,hb=>XOk.run n1 n6 ps r (h.see n1 n6 ps (hb b (by simp)).1 (hb b (by simp)).2) fun c a=>hb c (by simp [a])
theorem XOk.zero {n:Nat} (n1:1 <= n) (n6:n <= 6) (kd:Nat->Fin 3):XOk n (FX0 n kd):=⟨yz8 n n1 n6,fun i _=>ynq (kd i)⟩
theorem yg0 {bs:List Int} (h:ya6 bs) (k:Nat):ya6 (bs.take k):=fun b a=>h b (List.mem_of_mem_take a)
theorem yz2 {n:Nat} (n1:1 <= n) (n6:n <= 6) {kd:Nat->Fin 3} {ps:Nat->List Int} {pre:List Int} (hp:ya6 pre) (k:Nat):XOk n (fX n kd ps pre ts k):=by
 unfold fX;exact ((XOk.zero n1 n6 kd).run n1 n6 ps pre hp).run n1 n6 ps _ (yg0 (ξ ts) k)
theorem Ś {n:Nat} (n1:1 <= n) (n6:n <= 6) {kd:Nat->Fin 3} {ps:Nat->List Int} {pre:List Int} (hp:ya6 pre) (k:Nat):Ch (j8 n kd ps pre ts k):=yif n1 (yz2 (kd:=kd) (ps:=ps) (ts:=ts) n1 n6 hp k).w ((yz2 (kd:=kd) (ps:=ps) (ts:=ts) n1 n6 hp k).cs ps)
#synth yvg ["sign"] ytd
inductive yeu (K:W.Frag) (vs:List V) (H:Hp) (Q:VK) (E':XK):Prop
 | mk (s:Int) (_:vs=[.int s]) (_:∀ r H',H r=none->H' r=some (.lst ((b8 s).map V.int))->yq H H'->Q (.ref r) H')
theorem ywd (T:Txt K mg a):vk P w K mg base CX0 1 a.Jn a.Jo ["sign"] (yeu K):=by
 exists T.Mj.F.ok,yvg,r;obtain ⟨n,rfl,k⟩:=h;exists _,(yd (yt (vq (js:=[0]) (ys:=["sign"]) rfl (ydr (Ş rfl T.Ha)) (fun C t f u=>(yn xb (yn vi (pv 1) (pv 0)) ye)) rfl rfl (hyc:=(all_cons rfl yr)) (hrel:=(all_cons rfl yr))))),?_;exists 1,0;rfl';exists a.Bj,rfl,⟨_,T.Cs H⟩,fun D e=>?_;refine Ę (wV n) (T.Cs H) e (fun i y f l d b=>?_) (fun f d b=>?_)
 .obtain ⟨c,o,rfl,p⟩:∃ c,0 < c/\y=V.int c/\c <= 128:=by
   have j:=bI l;simp only [bB,List.not_mem_nil,or_false] at j;rcases j with rfl | rfl | rfl | rfl | rfl | rfl | rfl | rfl <;> exact ⟨_,by decide,rfl,by decide⟩
  rfl';exact Mp.done e (by show 8 < sizeLine; decide) l d b rfl
 .exact k D f e b d
#synth yh4 ["text","bits","sign"] ["text"] yr0
inductive yv7 (K:W.Frag) (vs:List V) (H:Hp) (Q:VK) (E':XK):Prop
 | mk (t:Addr) (ns:List Int) (_:vs=[.ref t]) (_:H t=some (.lst (ns.map V.int))) (_:Sgs ns) (_:ns.length <= 1000) (_:∀ r H',H r=none->H' r=some (.lst ((dec ns).map V.int))->yq H H'->Q (.ref r) H')
theorem ywm (T:Txt K mg a):vk P w K mg base CX0 5 a.Jp a.Jq ["text"] (yv7 K):=by
 exists T.Ml.F.ok,yh4,O;obtain ⟨t,f,rfl,S,Y,hz,k⟩:=h;exists _,(yg (yv (i:=1) yh4.nd rfl (Or.inl rfl) (wx ub)) (yg (zr PassesOwn.never rfl (we (ud (vaa T) O.m T.Nn ww (pa1 (pv 0)))) (wt (i:=2) yh4.nd rfl (Or.inl rfl)) (yg (yp (ue PySem.F.plainAttrs_list PySem.F.slot_list_append PySem.F.type_list_append v7 (pv 1) (pa1 ye))) (yd (yp (ue PySem.F.plainAttrs_list PySem.F.slot_list_extend PySem.F.type_list_extend ι (pv 1) (pa1 (xv (ywd T) O.m T.Mj (pa1 (pv 2))))))))) (yg (yp (ue PySem.F.plainAttrs_list PySem.F.slot_list_append PySem.F.type_list_append v7 (pv 1) (pa1 ye))) (yd (yt (pv 1)))))),?_;exists 1,2;rfl';exists by walk_at "len",fun r hr0=>?_
 exists hr0,H1,S1,hr1;rfl';exists .ref t,_,rfl,.lst (S1 _ _ S),.inr ⟨f.map V.int,ycm (S1 _ _ S) Y hz,fun c H2 j x R=>?_⟩;have C:=S1.trans R;refine ⟨c,rfl,⟨_,SqL.of x⟩,ug (K:=K) (a:=c) (xs:=f.map V.int) (fun i σ2 G=>∃ v,σ2=[some (.ref t),some (.ref r),v]/\G r=some (.lst ((ya7 (f.take i)).map V.int))/\G c=some (.lst (f.map V.int))/\yq H G)
  ⟨_,rfl,R _ _ hr1,x,C⟩ (by rintro i σ2 G _ ⟨_,_,_,z,_⟩; exact SqL.of z) ?_ ?_⟩
 .rintro i y σ2 G W ⟨v,rfl,d,l,J⟩;obtain ⟨z,rfl,a0,L,a1⟩:=jm W;have n:c≠r:=fun e=>by rw [e,hr1] at j; cases j
  have u:(List.map V.int (ya7 (f.take i))).length <= 9000:=by rw [bf,jb,bX]; omega
  rfl';refine uc d ?_;rfl';refine w9 d (y8 (by omega)) ?_;have p:yq H (upd G r (.lst (List.map V.int (ya7 (f.take i))++[V.int 1]))):=fun b o e=>yf (yb e hr0) (J b o e);have B:upd G r (.lst (List.map V.int (ya7 (f.take i))++[V.int 1])) c=some (.lst (f.map V.int)):=yf n l;have g:upd G r (.lst (List.map V.int (ya7 (f.take i))++[V.int 1])) r=some (.lst (List.map V.int (ya7 (f.take i)++[1]))):=by rw [ya,bz]; rfl
  generalize upd G r (.lst (List.map V.int (ya7 (f.take i))++[V.int 1]))=G1 at p B g ⊢;rfl';refine uc g ?_;rfl';exists z,rfl,fun q G2 Z D N=>?_;rfl';have I:=N _ _ g;exists r,q,_,_,rfl,rfl,I,D,xa (by rw [bf,bf,bj,yms]; rw [bf] at u; show _+1+8 <= _; omega),?_;rfl';exists _,rfl,?_,?_,fun b o e=>yf (yb e hr0) (N _ _ (p b o e))
  .rw [ya,Æ L,yam,yj9,bR];rfl
  .exact yf n (N _ _ B)
 .rintro σ2 G ⟨v,rfl,d,l,J⟩;rw [bf,cy] at d;rfl';refine uc d ?_;rfl';refine w9 d (y8 (by rw [bf,jb]; omega)) ?_;rfl';refine k r _ hr0 ?_ fun b o e=>yf (yb e hr0) (J b o e);rw [ya,yln,bz];rfl
#synth yv2 ["self","place"] ysy
inductive ye4 (C:Addr) (vs:List V) (H:Hp) (Q:VK) (E':XK):Prop
 | mk (p dx pd:Addr) (v1 v2 v3:V) (d:List Int) (k:Nat) (_:vs=[.ref p,.int k]) (_:H p=some (.ins C dx (yfd (.ref pd) v1 v2 v3))) (_:H pd=some (.lst (d.map V.int))) (_:Q (.int ((d[k]?).getD 0)) H)
theorem yuy (T:Txt K mg a):vk P w K mg base CX0 1 a.Ju a.Jv ["self","place"] (ye4 a.Ab):=by
 exists T.G9.F.ok,yv2,r;obtain ⟨p,j,g,f,o,q,d,l,rfl,t,e,k⟩:=h;exists _,(yd (yt (jf (y7 ych (pv 1) (pcB yo T.Ac (pa1 (ym (pv 0) rfl))) (vh _)) (ut j4 (ym (pv 0) rfl) (pv 1) (fun _ _=>rfl)) ye))),?_;exists 2,0;rfl';refine zg (SqL.of e) ?_;rw [bf];rfl';refine z0 (fun n=>?_) (fun n=>?_)
 .have c:l < d.length:=by omega
  rw [bo c] at k;rfl';exact yci (SqL.of e) (xr (by rw [br,bo c]; rfl)) k
 .rw [bV (by omega)] at k;rfl';exact k
#synth yv8 ["self"] ys6
inductive yfu (C D:Addr) (vs:List V) (H:Hp) (Q:VK) (E':XK):Prop
 | mk (p dx pd ps ds:Addr) (d:List Int) (x:Sn) (r:Nat) (_:vs=[.ref p]) (_:H p=some (.ins C dx (yfd (.ref pd) (.ref ps) (.int (rn d r)) (.int r)))) (_:H pd=some (.lst (d.map V.int))) (_:H ps=some (.ins D ds (z8 x))) (_:p≠ps) (_:OkS x) (_:r <= sz x) (_:∀ H',H' p=some (.ins C dx (yfd (.ref pd) (.ref ps) (.int (rn d (sz x))) (.int x.2.2)))->But p H H'->Q .non H')
theorem yma (T:Txt K mg a):vk P w K mg base CX0 2 a.Js a.Jt ["self"] (yfu a.Ab a.A4):=by
 exists T.De.F.ok,yv8,z;obtain ⟨p,l,e,f,q,d,x,r,rfl,t,v,M,j,L,i,k⟩:=h;exists _,(yd (ji PassesOwn.never (y7 ych (ym (pv 0) rfl) (ym (ym (pv 0) rfl) rfl) (vh _)) (yg (y6 (pv 0) (yn vn (yn w4 (ym (pv 0) rfl) ye) (xo (pv 0) T.Bc T.G9.m (yuy T) z.m T.G9.B .nil wv (pa1 (ym (pv 0) rfl)))) rfl) (yd (y6 (pv 0) (yn vn (ym (pv 0) rfl) ye) rfl))))),?_;exists 1,0;have N:=L.sz;exists fun m σ' o=>∃ r:Nat,σ'=[some (.ref p)]/\o p=some (.ins a.Ab l (yfd (.ref e) (.ref f) (.int (rn d r)) (.int r)))/\r <= sz x/\But p H o/\m=sz x - r,⟨_,r,rfl,t,i,But.refl,rfl⟩,?_;rintro m σ2 y ⟨r,rfl,b,I,c,rfl⟩;have D:y f=some (.ins a.A4 q (z8 x)):=c _ _ M j.symm;have g:=c.lst t v;rfl';refine z0 (fun G=>?_) (fun G=>?_)
 .refine yat ?_;rfl';exists p,l,e,_,_,_,d,r,rfl,b,g,?_;rfl';exists _,?_,r+1,rfl,?_,by omega,(c.trans But.upd).trans But.upd,rfl
  .omega
  .rw [ya];rfl
 .have C:r=sz x:=by omega
  subst C;rfl';refine k _ ?_ c;rw [<- N];exact b
#synth yzh ["self","data"] ys3
inductive yf9 (K:W.Frag) (a:Ads) (vs:List V) (H:Hp) (Q:VK) (E:XK):Prop
 | mk (p dx:Addr) (v:V) (n:String) (_:vs=[.ref p,v]) (_:H p=some (.ins a.Ab dx [])) (_:xp K H v (.type n)) (_:((Bad K H v n 12000/\∀ H',yq H H'->E (.ref a.Ej) none H')\/∃ d:List Int,Good K H v (d.map V.int) 12000/\∀ pd ps ds H',H pd=none->H ps=none->ya4 a H' p dx pd ps ds d s0->But p H H'->Q .non H'))
theorem yvj (T:Txt K mg a):vk P w K mg base (CXe P w) 5 a.Fd a.Jr ["self","data"] (yf9 K a):=by
 exists T.Eb.F.okE,yzh,I;obtain ⟨p,l,v,n,rfl,W,X,h⟩:=h;exists _,(yg (y6 (pv 0) (ud (vck T) I.m T.Ow yz (pa1 (pv 1))) rfl) (yg (y6 (pv 0) (τ T.Np (ynj T) I.m rfl T.No T.D6.B .nil wv) rfl) (yg (y6 (pv 0) ye rfl) (yg (y6 (pv 0) ye rfl) (yd (yp (wc (pv 0) T.Bc T.De.m (yma T) I.m T.De.B .nil wv))))))),?_;exists 2,0;rfl';exists v,n,rfl,X,?_;rcases h with ⟨hb,k⟩ | ⟨d,hg,k⟩
 .exact .inl ⟨hb,k⟩
 .refine .inr ⟨d.map V.int,hg,fun g C j G U=>?_⟩;have Y:=U _ _ W;have f:g≠p:=fun z=>by rw [z,W] at j; cases j
  rfl';have L:But p H (upd C p (.ins a.Ab l ([("data",V.ref g)]:List (Str × V)))):=(But.of U).trans But.upd;have r:upd C p (.ins a.Ab l ([("data",V.ref g)]:List (Str × V))) p=some (.ins a.Ab l ([("data",V.ref g)]:List (Str × V))):=ya;have u:upd C p (.ins a.Ab l ([("data",V.ref g)]:List (Str × V))) g=some (.lst (d.map V.int)):=yf f G;generalize upd C p (.ins a.Ab l ([("data",V.ref g)]:List (Str × V)))=H2 at L r u ⊢;intro t D i nds ne;exists t,D,rfl,ya,fun S y B3=>⟨rfl,?_⟩;have M:yq H2 S:=fun b o e=>B3 b o (by rw [yk (yb e i),yk (yb e nds)]; exact e) (yb e i);have a0:=M _ _ r;have x:=M _ _ u;have c:p≠t:=yb r i
  have N:H t=none:=by
   cases e:H t with
   | none=>rfl
   | some o=>exact absurd (L _ _ e c.symm) (by rw [i]; exact fun z=>nomatch z)
  rfl';exists p,l,g,t,D,d,s0,0,rfl,ya,?_,?_,c,vc2,bL _,fun R J B4=>?_
  .exact yf f (yf f (yf f x))
  .exact yf c.symm (yf c.symm (yf c.symm y))
  .rfl';have q:But p S R:=((But.upd.trans But.upd).trans But.upd).trans B4;exact k g t D R j N ⟨J,q _ _ x f,q _ _ y c.symm,c⟩ ((L.trans (But.of M)).trans q)
#synth ymc ["self","chance","bit"] ["self","chance"] ysf
inductive yjr (K:W.Frag) (a:Ads) (vs:List V) (H:Hp) (Q:VK) (E:XK):Prop
 | mk (p dx pd ps ds:Addr) (d:List Int) (x:Sn) (v:V) (n:String) (_:vs=[.ref p,v]) (_:ya4 a H p dx pd ps ds d x) (_:OkS x) (_:xp K H v (.type n)) (_:(chV v=false->E (.ref a.D5) none H)) (_:∀ c:Int,v=.int c->Ch c->∀ H',ya4 a H' p dx pd ps ds d (nar x c (Á d x c))->ya5 p ps H H'->Q (.int (Á d x c)) H')
theorem ywv {x:Sn} {c b:Int} (h:Ok x) (hc:Ch c):sz x <= sz (nar x c b):=by
 obtain ⟨r,e⟩:=vak (if b=1 then x.1 else x.1+cut x.2.1 c) (if b=1 then cut x.2.1 c else x.2.1 - cut x.2.1 c) x.2.2
 have a:nar x c b=ren (if b=1 then x.1 else x.1+cut x.2.1 c) (if b=1 then cut x.2.1 c else x.2.1 - cut x.2.1 c) x.2.2:=by
  unfold nar
  split <;> rfl
 rw [a,e];unfold sz;dsimp only;omega
theorem yvw (T:Txt K mg a):vk P w K mg base (CXe P w) 5 a.Jw a.Jx ["self","chance"] (yjr K a):=by
 exists T.Ga.F.okE,ymc,u;obtain ⟨p,I,D,l,q,d,x,v,n,rfl,j,C,S,k1,k⟩:=h;exists _,(yg (yp (ud (ys4 T) u.m T.N7 yz (pa1 (pv 1)))) (yg (Ģ (yv (i:=2) ymc.nd rfl (Or.inl rfl) (jf (y7 ych (ym (pv 0) rfl) (yn vn (ym (ym (pv 0) rfl) rfl) (xo (ym (pv 0) rfl) T.Ag T.D7.m (yl6 T) u.m T.D7.B .nil wv (pa1 (pv 1)))) (vh _)) ye ye))) (yg (yp (vw (ym (pv 0) rfl) T.Ag T.D8.m (ynm T) u.m T.D8.B .nil yz (pac (pv 1) (pa1 (pv 2))))) (yg (yp (wc (pv 0) T.Bc T.De.m (yma T) u.m T.De.B .nil wv)) (yd (yt (pv 2))))))),?_;exists 2,1;rfl';exists v,n,rfl,S,fun W=>?_,k1;obtain ⟨c,rfl,c1,c2⟩:=yb2 W;have r:Ch c:=⟨c1,c2⟩;have k:=k c rfl r;have L:=j.me;have e:=j.sp;rfl';refine ylp (fun σ' R=>σ'=[some (.ref p),some (.int c),some (.int (Á d x c))]/\H=R) ?_ ?_
 .rfl';exists l,q,_,rfl,e,lkN _ (by right) (by right) (by right),?_;rfl';exists l,q,x,c,rfl,e,r,?_;rfl';unfold Á;refine z0 (fun y=>?_) (fun y=>?_)
  .rw [if_pos y];rfl';exists rfl,rfl
  .rw [if_neg y];rfl';exists rfl,rfl
 .rintro σ' R ⟨rfl,rfl⟩;have G:=ŕ d x c;generalize y:Á d x c=b at G k ⊢;rfl';exists l,q,_,rfl,e,lkN _ (by right) (by right) (by right),?_;rfl';exists l,q,x,.int c,.int b,_,_,rfl,e,C.ok,.int c,.int b,(fun z=>by rw [ydp r] at z; cases z),(fun _ z=>by rw [ycb (by omega) (by omega)] at z; cases z),fun c' b' Z eb _ _ _ Y t M=>?_;obtain rfl:c=c':=V.int.inj Z;obtain rfl:b=b':=V.int.inj eb;have g:=M _ _ L j.ne;have f:=M.lst e j.dt;rfl';have o:Y p=some (.ins a.Ab I (yfd (.ref D) (.ref l) (.int (rn d (sz x))) (.int ((sz x:Nat):Int)))):=by rw [C.sz]; exact g
  exists p,I,D,l,q,d,nar x c b,sz x,rfl,o,f,t,j.ne,j5 C r,ywv C.ok r,fun X O J=>?_;rfl';exact k X ⟨O,J.lst g f,J _ _ t j.ne.symm,j.ne⟩ (M.two'.trans J.two)
#synth yxs ["self"] ysv
inductive yfl (a:Ads) (vs:List V) (H:Hp) (Q:VK) (E':XK):Prop
 | mk (p dx pd ps ds:Addr) (d:List Int) (x:Sn) (_:vs=[.ref p]) (_:ya4 a H p dx pd ps ds d x) (_:OkS x) (_:sz x <= tMx) (_:∀ t H',H t=none->H' t=some (.lst ((tL x).map V.int))->yq H H'->Q (.ref t) H')
theorem yyy (T:Txt K mg a):vk P w K mg base CX0 4 a.Jy a.Jz ["self"] (yfl a):=by
 exists T.Gb.F.ok,yxs,j;obtain ⟨p,t,i,c,f,d,x,rfl,g,o,r,k⟩:=h;have n:=g.me;have b:=g.sp;exists _,(yd (yt (wc (ym (pv 0) rfl) T.Ag T.D9.m (yn1 T) j.m T.D9.B .nil wv))),?_;exists 1,0;rfl';exists c,f,_,rfl,b,lkN _ (by right) (by right) (by right),?_;rfl';exists c,f,x,rfl,b,o,r,k
def snK (mx bt:Nat->Int):Nat->Sn
 | 0=>s0
 | k+1=>nar (snK mx bt k) (mx k) (bt k)
theorem υ {mx:Nat->Int}:∀ m,(∀ j,j < m->Ch (mx j))->OkS (snK mx bt m)/\(snK mx bt m).2.2 <= 5+2 * (m:Int)
 | 0,_=>⟨vc2,by show (5:Int) <= 5+2 * ((0:Nat):Int); decide⟩
 | m+1,h=>by
  obtain ⟨a,d⟩:=υ m fun j e=>h j (by omega);exists j5 a (h m (by omega)),?_;have:=yul (c:=mx m) (b:=bt m) a.ok;show (nar (snK mx bt m) (mx m) (bt m)).2.2 <= _;omega
theorem yab {mx my bu:Nat->Int}:∀ m,(∀ j,j < m->mx j=my j/\bt j=bu j)->snK mx bt m=snK my bu m
 | 0,_=>rfl
 | m+1,h=>by
  show nar (snK mx bt m) (mx m) (bt m)=nar (snK my bu m) (my m) (bu m);rw [yab m fun j a=>h j (by omega),(h m (by omega)).1,(h m (by omega)).2]
theorem FGo.but {A:FA} {H H1 H2:Hp} {el:Addr} {o':HO} (h:FGo p A O H H1 el O') (hq:H q=none) (B:But q H1 H2) (hq2:H2 q=some o'):FGo p A O H H2 el O' :=
 ⟨h.he,h.hO,fun c o e a b d f=>B _ _ (h.fr c o e a b d f) (yb e hq),fun c o e=>let ⟨o1,w⟩:=h.live c o e; ⟨o1,B _ _ w (yb e hq)⟩⟩
theorem ux.but {H H':Hp} {A:FA} {X:FX} {f:Nat->List Int->Option Slt} {m:Nat} {fs:List (Str × V)} (h:ux K a H p A X f O m) (hq:H q=some (.ins C dq fs)) (hl:fs.length=3) (nO:∀ i,i < A.n->¬ O i q) (B:But q H H'):ux K a H' p A X f O m:=by
 refine h.frame (O2:=fun c=>c=q) (fun c o e j=>B c o e j) (fun z=>ua h.me hq (by rw [hl]; show ¬ (6=3); decide) z) (fun z=>ua h.mx.o hq (by rw [hl]; show ¬ (1=3); decide) z) (fun i d z=>ua (h.B.b i d).me hq (by rw [hl]; show ¬ (2=3); decide) z) (fun i c d w z=>nO i d (z ▸ w)) (fun l g _ e=>B.lst hq e) (fun t g e=>?_);rcases e with (e | ⟨o,e⟩) | e
 .exact .inl (.inl (B _ _ e (fun z=>by rw [z,hq] at e; cases e)))
 .exact .inl (.inr ⟨o,B _ _ e (fun z=>by rw [z,hq] at e; cases e)⟩)
 .exact .inr e
def yfk (A:FA) (X:FX) (ts:List Int) (k:Nat):Int:=ylu (X.run A ((dec ts).take k)).ws ((X.run A ((dec ts).take k)).cs A)
#synth yh9 ["foreteller","text","span","bit"] ["foreteller","text"] yrn
inductive yc2 (K:W.Frag) (a:Ads) (vs:List V) (H:Hp) (Q:VK) (E':XK):Prop
 | mk (p:Addr) (A:FA) (X:FX) (f:Nat->List Int->Option Slt) (O:Nat->Addr->Prop) (m:Nat) (tx:Addr) (ts:List Int) (_:vs=[.ref p,.ref tx]) (_:ux K a H p A X f O m) (_:X.sg=[]) (_:X.nd=0) (_:Ì H tx ts 1000) (_:tx≠A.el) (_:m+6 * (dec ts).length+20 < 1000000) (_:∀ (r ml el pl:Addr) (sl:Nat->Addr) (f':Nat->List Int->Option Slt) (O':Nat->Addr->Prop) (m':Nat) (H':Hp),H r=none->H' r=some (.lst ((tL (snK (yfk A X ts) (wb ts) (dec ts).length)).map V.int))->ux K a H' p (A.re ml el pl sl) (X.run A (dec ts)) f' O' m'->m' <= m+6 * (dec ts).length->FGo p A O H H' el O'->Q (.ref r) H')
theorem yup (T:Txt K mg a):vk P w K mg base CX0 7 a.K1 a.K2 ["foreteller","text"] (yc2 K a):=by
 exists T.Mm.F.ok,yh9,hr;obtain ⟨p,c,X,f,O,m,tx,d,rfl,hF,an,aq,Z,aE,hm,k⟩:=h;have aH:=ur d;have hz:=Z.z;have a0:=Z.s;refine yi (yv (i:=2) yh9.nd rfl (Or.inl rfl) (τ T.Np (ynj T) hr.m rfl T.No T.D6.B .nil wv)) ?_;refine yi (zr PassesOwn.never rfl (we (xv (ywm T) hr.m T.Ml (pa1 (pv 1)))) (wt (i:=3) yh9.nd rfl (Or.inl rfl)) (yg (yp (vw (pv 2) T.Ag T.D8.m (ynm T) hr.m T.D8.B .nil ww (pac (wc (pv 0) T.Ae T.Dc.m (ym0 T) hr.m T.Dc.B .nil wv) (pa1 (pv 3))))) (yd (yp (xo (pv 0) T.Ae T.Dd.m (ymt T) hr.m T.Dd.B .nil wv (pa1 (pv 3))))))) ?_;exists _,(yd (yt (wc (pv 2) T.Ag T.D9.m (yn1 T) hr.m T.D9.B .nil wv))),?_;exists 2,2;rfl';intro q S nq av aF;have SQ:yq H (upd (upd H S (.own q)) q (.ins a.A4 S [])):=fun b o e=>by rw [yk (yb e nq),yk (yb e av)]; exact e
 exists q,S,rfl,ya,fun H1 ag B1=>⟨rfl,?_⟩;have S1:yq H H1:=fun b o e=>B1 b o (SQ b o e) (yb e nq);rfl';exists tx,d,rfl,S1 _ _ Z.l,a0,by omega,fun bt H2 a6 W S2=>?_
 have ab:=S1.trans S2;have ad:=hF.same ab;have as:bt≠c.el:=(yb (hF.same S1).el a6).symm
 have aj:∀ i,i < c.n->¬ O i q:=fun i Y w=>by
  obtain ⟨o,ho,_⟩:=(hF.B.b i Y).own q w;rw [nq] at ho;cases ho
 refine ⟨bt,rfl,⟨_,SqL.of W⟩,ug (K:=K) (a:=bt) (xs:=(dec d).map V.int) (fun j σ2 G=>∃ (v:Option V) (ml el pl:Addr) (sl:Nat->Addr) (f':Nat->List Int->Option Slt) (O':Nat->Addr->Prop),σ2=[some (.ref p),some (.ref tx),some (.ref q),v]/\ux K a G p (c.re ml el pl sl) (X.run c ((dec d).take j)) f' O' (m+6 * j)/\FGo p c O H G el O'/\TxE d j (X.run c ((dec d).take j)).sg (X.run c ((dec d).take j)).nd/\G q=some (.ins a.A4 S (z8 (snK (yfk c X d) (wb d) j)))/\(∀ i,i < c.n->¬ O' i q)/\(G bt=some (.lst ((dec d).map V.int))/\bt≠el)/\(∀ i,i < j->Ch (yfk c X d i)))
  ⟨_,c.ml,c.el,c.pl,c.sl,f,O,rfl,ad,FGo.refl.same ab,.inl ⟨bL _,by show ya3 _ _ X.sg X.nd; rw [an,aq]; exact ya3.zero _⟩,S2 _ _ ag,aj,⟨W,as⟩,fun i Y=>absurd Y (bY i)⟩ (by rintro j σ2 G _ ⟨_,_,_,_,_,_,_,_,_,_,_,_,_,z,_⟩; exact SqL.of z.1) ?_ ?_⟩
 .rintro j y σ2 G hy ⟨v,I,x,D,M,f1,O1,rfl,g,go,hT,u,R,⟨aa,U⟩,L⟩;obtain ⟨b,rfl,ai,hb,hj⟩:=jm hy;obtain ⟨b0,b1⟩:=ξ _ b ai;obtain ⟨a3,al⟩:=hT.next a0 hb;obtain ⟨af,aI⟩:=a3.nd a0;have aD:=a3.len;have a7:wb d j=b:=by unfold wb; rw [hb]; rfl
  have aC:=g.me;have a4:Ch (yfk c X d j):=yif g.n1 g.wok g.cok;have aw:=ydp a4;have ao:=ycb b0 b1;obtain ⟨a1,ak⟩:=υ (mx:=yfk c X d) (bt:=wb d) j L;rfl';exists q,S,_,rfl,u,lkN _ (by right) (by right) (by right),?_;rfl';exists p,c.re I x D M,_,f1,O1,_,rfl,g,fun G1 N=>?_;rfl';exists q,S,_,.int (yfk c X d j),.int b,_,_,rfl,N _ _ u,a1.ok,.int _,.int _,fun z=>(by rw [aw] at z; cases z),fun _ z=>(by rw [ao] at z; cases z),fun c' b' ec eb _ _ _ G2 C B2=>?_;cases ec;cases eb;have t:=(g.same N).but (N _ _ u) rfl R B2;have ah:FGo p c O H G2 x O1:=(go.same N).but nq B2 C;have J:G2 bt=some (.lst ((dec d).map V.int)):=B2.lst (N _ _ u) (N _ _ aa);have aB:=t.me;have n6:=g.n6;rfl';exists p,c.re I x D M,_,f1,O1,m+6 * j,b,rfl,t,b0,b1,by omega,af,by omega,fun au a8 ae az f3 O3 G3 ap ax a9 a2 ar _=>?_
  have a5:FGo p (c.re I x D M) O1 G2 G3 a8 O3:=⟨ap,a9,a2,ar⟩;have ac:=a5.kpa t;rfl';exists _,au,a8,ae,az,f3,O3,rfl,?_,ah.trans a5,?_,?_,fun i Y w=>?_,⟨(ac _ _ J rfl U).2,(ac _ _ J rfl U).1⟩,fun i Y=>?_
  .rw [Û hb];exact ax.up (by show m+6 * j+c.n <= _; have:c.n <= 6:=n6; omega)
  .rw [Û hb];exact al
  .have e:snK (yfk c X d) (wb d) (j+1)=nar (snK (yfk c X d) (wb d) j) (yfk c X d j) b:=by show nar _ _ (wb d j)=_; rw [a7]
   rw [e];exact a2 _ _ C (ua C t.me (show ¬ (3=6) by decide)) (ua C t.mx.o (show ¬ (3=1) by decide)) (fun z=>by have e:=t.el; rw [<- z,C] at e; cases e) R
  .rcases a9 i q Y w with v | v
   .exact R i Y v
   .rw [C] at v;cases v
  .by_cases z:i=j
   .rw [z];exact a4
   .exact L i (by omega)
 .rintro σ2 G ⟨v,I,x,D,M,f1,O1,rfl,g,go,hT,u,R,_,L⟩;rw [bf] at g u L;rw [cy] at g;obtain ⟨a1,ak⟩:=υ (mx:=yfk c X d) (bt:=wb d) (dec d).length L;rfl';exists q,S,_,rfl,u,lkN _ (by right) (by right) (by right),?_;rfl';exists q,S,_,rfl,u,a1,by show Int.toNat _ <= 100000; omega,fun r G1 aA am N=>?_
  exact k r I x D M f1 O1 _ G1 (go.free aA) am (g.same N) (bp _) (go.same N)
structure RGo (p q s:Addr) (A:FA) (O:Nat->Addr->Prop) (H H':Hp) (ml el:Addr) (O':Nat->Addr->Prop):Prop where
 hm:ml=A.ml\/H ml=none
 he:el=A.el\/H el=none
 hO:∀ j c,j < A.n->O' j c->O j c\/H c=none
 fr:∀ c o,H c=some o->c≠p->c≠A.mp->c≠A.el->c≠q->c≠s->(∀ j,j < A.n->¬ O j c)->H' c=some o
 live:∀ c o,H c=some o->∃ o',H' c=some o'
theorem RGo.free {s:Addr} {A:FA} {H H':Hp} {ml el c:Addr} (h:RGo p q s A O H H' ml el O') (hc:H' c=none):H c=none:=by
 cases e:H c with
 | none=>rfl
 | some o =>
  obtain ⟨a,w⟩:=h.live c o e;rw [hc] at w;cases w
theorem RGo.refl {s:Addr} {A:FA} {H:Hp}:RGo p q s A O H H A.ml A.el O:=⟨.inl rfl,.inl rfl,fun _ _ _ w=>.inl w,fun _ _ e _ _ _ _ _ _=>e,fun _ o e=>⟨o,e⟩⟩
theorem RGo.trans {s:Addr} {A:FA} {O1:Nat->Addr->Prop} {H H1 H2:Hp} {ml el pl ml2 el2:Addr} {sl:Nat->Addr} (h:RGo p q s A O H H1 ml el O1) (k:RGo p q s (A.re ml el pl sl) O1 H1 H2 ml2 el2 O2):RGo p q s A O H H2 ml2 el2 O2:=by
 exists ?_,?_,fun j c a w=>?_,fun c o e f i g d l b=>?_,fun c o e=>?_
 .rcases k.hm with z | z
  .rcases h.hm with y | y
   .exact .inl (z.trans y)
   .exact .inr (by rw [show ml2=ml from z]; exact y)
  .exact .inr (h.free z)
 .rcases k.he with z | z
  .rcases h.he with y | y
   .exact .inl (z.trans y)
   .exact .inr (by rw [show el2=el from z]; exact y)
  .exact .inr (h.free z)
 .rcases k.hO j c a w with v | v
  .exact h.hO j c a v
  .exact .inr (h.free v)
 .refine k.fr c o (h.fr c o e f i g d l b) f i (fun z=>?_) d l (fun j a w=>?_)
  .rcases h.he with y | y
   .exact g (z.trans y)
   .rw [show c=el from z,y] at e;cases e
  .rcases h.hO j c a w with v | v
   .exact b j a v
   .rw [e] at v;cases v
 .obtain ⟨n,m⟩:=h.live c o e;exact k.live c n m
theorem RGo.same {s:Addr} {A:FA} {H H1 H2:Hp} {ml el:Addr} (h:RGo p q s A O H H1 ml el O') (S:yq H1 H2):RGo p q s A O H H2 ml el O' :=
 ⟨h.hm,h.he,h.hO,fun c o e g f i d a b=>S _ _ (h.fr c o e g f i d a b),fun c o e=>let ⟨o',w⟩:=h.live c o e; ⟨o',S _ _ w⟩⟩
structure j9 (K:W.Frag) (a:Ads) (H:Hp) (p:Addr) (A:FA) (X:FX) (f:Nat->List Int->Option Slt) (O:Nat->Addr->Prop) (m:Nat) (q dx pd s ds:Addr) (d:List Int) (x:Sn):Prop where
 ft:ux K a H p A X f O m
 sk:ya4 a H q dx pd s ds d x
 ok:OkS x
 nO:∀ i,i < A.n->¬ O i q/\¬ O i s
 nd:pd≠A.el
theorem j9.same {H H':Hp} {A:FA} {X:FX} {f:Nat->List Int->Option Slt} {m:Nat} {dx pd s:Addr} {d:List Int} {x:Sn} (h:j9 K a H p A X f O m q dx pd s ds d x) (S:yq H H'):j9 K a H' p A X f O m q dx pd s ds d x:=⟨h.ft.same S,h.sk.same S,h.ok,h.nO,h.nd⟩
def chX (A:FA) (X:FX):Int:=ylu X.ws (X.cs A)
theorem ux.but2 {H H':Hp} {A:FA} {X:FX} {f:Nat->List Int->Option Slt} {m:Nat} {dx pd s:Addr} {d:List Int} {x:Sn} (h:j9 K a H p A X f O m q dx pd s ds d x) (B:ya5 q s H H'):ux K a H' p A X f O m:=by
 have k:=h.sk.me;have j:=h.sk.sp;refine h.ft.frame (O2:=fun c=>c=q\/c=s) (fun c o e n=>B c o e (fun z=>n (.inl z)) (fun z=>n (.inr z))) (fun z=>?_) (fun z=>?_) (fun i g z=>?_) (fun i c g w z=>?_) (fun l r _ e=>h.sk.lst B e) (fun t r e=>?_)
 .rcases z with z | z
  .exact ua h.ft.me k (show ¬ (6=4) by decide) z
  .exact ua h.ft.me j (show ¬ (6=3) by decide) z
 .rcases z with z | z
  .exact ua h.ft.mx.o k (show ¬ (1=4) by decide) z
  .exact ua h.ft.mx.o j (show ¬ (1=3) by decide) z
 .rcases z with z | z
  .exact ua (h.ft.B.b i g).me k (show ¬ (2=4) by decide) z
  .exact ua (h.ft.B.b i g).me j (show ¬ (2=3) by decide) z
 .rcases z with z | z
  .exact (h.nO i g).1 (z ▸ w)
  .exact (h.nO i g).2 (z ▸ w)
 .rcases e with (e | ⟨o,e⟩) | e
  .exact .inl (.inl (h.sk.tup B e))
  .exact .inl (.inr ⟨o,B _ _ e (wu e k (by intro z; cases z)) (wu e j (by intro z; cases z))⟩)
  .exact .inr e
#synth ynd ["foreteller","seeker","bit"] ["foreteller","seeker"] ysw
inductive yco (K:W.Frag) (a:Ads) (vs:List V) (H:Hp) (Q:VK) (E':XK):Prop
 | mk (p:Addr) (A:FA) (X:FX) (f:Nat->List Int->Option Slt) (O:Nat->Addr->Prop) (m:Nat) (q dx pd s ds:Addr) (d:List Int) (x:Sn) (_:vs=[.ref p,.ref q]) (_:j9 K a H p A X f O m q dx pd s ds d x) (_:m+20 < 1000000) (_:0 <= X.nd) (_:X.sg.length <= 100000) (_:∀ (ml el pl:Addr) (sl:Nat->Addr) (f':Nat->List Int->Option Slt) (O':Nat->Addr->Prop) (H':Hp),j9 K a H' p (A.re ml el pl sl) (X.see A (Á d x (chX A X))) f' O' (m+A.n) q dx pd s ds d (nar x (chX A X) (Á d x (chX A X)))->RGo p q s A O H H' ml el O'->Q (.int (Á d x (chX A X))) H')
theorem ym3 (T:Txt K mg a):vk P w K mg base CX0 7 a.K3 a.K4 ["foreteller","seeker"] (yco K a):=by
 exists T.Gc.F.ok,ynd,Z;obtain ⟨p,t,X,f,O,m,q,dx,W,u,ds,d,x,rfl,n,hm,a5,Y,k⟩:=h;have hp:=n.ft.me;have hq:=n.sk.me;have J:Ch (chX t X):=yif n.ft.n1 n.ft.wok n.ft.cok;have a0:=ydp J;exists _,(yg (yv (i:=2) ynd.nd rfl (Or.inl rfl) (vw (pv 1) T.Bc T.Ga.m (yvw T) Z.m T.Ga.B .nil ww (pa1 (wc (pv 0) T.Ae T.Dc.m (ym0 T) Z.m T.Dc.B .nil wv)))) (yg (yp (xo (pv 0) T.Ae T.Dd.m (ymt T) Z.m T.Dd.B .nil wv (pa1 (pv 2)))) (yd (yt (pv 2))))),?_;exists 2,1;rfl';exists p,t,X,f,O,m,rfl,n.ft,fun H1 G=>?_;have I:=n.same G;rfl';exists q,dx,W,u,ds,d,x,.int (chX t X),_,rfl,I.sk,n.ok,.int _,fun z=>(by rw [a0] at z; cases z),fun c' ec _ H2 g D=>?_;cases ec;have l:=ux.but2 I D;have aa:=l.me
 obtain ⟨b0,b1⟩:0 <= Á d x (chX t X)/\Á d x (chX t X) <= 1:=by
  rcases ŕ d x (chX t X) with e | e <;> (rw [e]; decide)
 generalize hb:Á d x (chX t X)=b at b0 b1 g k;rfl';exists p,t,X,f,O,m,b,rfl,l,b0,b1,hm,a5,Y,fun S R pl sl f' O' H3 he a6 hO U lv r=>?_;have a4:q≠p:=ua g.me l.me (show ¬ (4=6) by decide);have a1:q≠t.mp:=ua g.me l.mx.o (show ¬ (4=1) by decide);have a7:u≠p:=ua g.sp l.me (show ¬ (3=6) by decide);have a3:u≠t.mp:=ua g.sp l.mx.o (show ¬ (3=1) by decide)
 have M:∀ {c C dc:Addr} {fs:List (Str × V)},H2 c=some (.ins C dc fs)->c≠t.el:=fun e z=>by
  have e2:=l.el;rw [<- z,e] at e2;cases e2
 have N:=U _ _ g.me a4 a1 (M g.me) fun i y=>(n.nO i y).1;have L:=U _ _ g.sp a7 a3 (M g.sp) fun i y=>(n.nO i y).2;have a2:H3 W=some (.lst (d.map V.int)):=U _ _ g.dt (fun z=>by have e:=g.dt; rw [z,l.me] at e; cases e) (fun z=>by have e:=g.dt; rw [z,l.mx.o] at e; cases e) n.nd (l.B.nlst g.dt);rfl';refine k S R pl sl f' O' H3 ⟨a6,⟨N,a2,L,g.ne⟩,j5 n.ok J,fun i y=>⟨fun w=>?_,fun w=>?_⟩,?_⟩ ⟨.inr ?_,?_,fun j c hj w=>?_,fun c o e c1 c2 c3 c4 c5 no=>?_,fun c o e=>?_⟩
 .rcases hO i q y w with v | v
  .exact (n.nO i y).1 v
  .rw [g.me] at v;cases v
 .rcases hO i u y w with v | v
  .exact (n.nO i y).2 v
  .rw [g.sp] at v;cases v
 .rcases he with z | z
  .rw [show (t.re S R pl sl).el=t.el from z];exact n.nd
  .exact yb g.dt z
 .cases e:H S with
  | none=>rfl
  | some o =>
   by_cases z1:S=q
   .rw [z1,g.me] at r;cases r
   by_cases z2:S=u
   .rw [z2,g.sp] at r;cases r
   rw [D _ _ (G _ _ e) z1 z2] at r;cases r
 .rcases he with z | z
  .exact .inl z
  .refine .inr ?_
   cases e:H R with
   | none=>rfl
   | some o =>
    by_cases z1:R=q
    .rw [z1,g.me] at z;cases z
    by_cases z2:R=u
    .rw [z2,g.sp] at z;cases z
    rw [D _ _ (G _ _ e) z1 z2] at z;cases z
 .rcases hO j c hj w with v | v
  .exact .inl v
  .refine .inr ?_
   cases e:H c with
   | none=>rfl
   | some o =>
    by_cases z1:c=q
    .rw [z1,g.me] at v;cases v
    by_cases z2:c=u
    .rw [z2,g.sp] at v;cases v
    rw [D _ _ (G _ _ e) z1 z2] at v;cases v
 .exact U c o (D _ _ (G _ _ e) c4 c5) c1 c2 c3 no
 .by_cases z1:c=q
  .exists _,z1 ▸ N
  by_cases z2:c=u
  .exists _,z2 ▸ L
  exact lv c o (D _ _ (G _ _ e) z1 z2)
def rnx (A:FA) (d:List Int) (S:FX × Sn):FX × Sn:=(S.1.see A (Á d S.2 (chX A S.1)),nar S.2 (chX A S.1) (Á d S.2 (chX A S.1)))
def rst (A:FA) (d:List Int) (S:FX × Sn):Nat->FX × Sn
 | 0=>S
 | n+1=>rnx A d (rst A d S n)
def À (A:FA) (d:List Int) (S:FX × Sn) (n:Nat):Int:=Á d (rst A d S n).2 (chX A (rst A d S n).1)
theorem ymy (A:FA) (d:List Int) (S:FX × Sn) (n:Nat):À A d S n=0\/À A d S n=1:=ŕ _ _ _
theorem yb1 (A:FA) (d:List Int) (S:FX × Sn) (k:Nat):∀ n,rst A d (rst A d S k) n=rst A d S (k+n)
 | 0=>rfl
 | n+1=>congrArg (rnx A d) (yb1 A d S k n)
theorem yiq (A:FA) (d:List Int) (S:FX × Sn) (ml el pl:Addr) (sl:Nat->Addr):∀ n,rst (A.re ml el pl sl) d S n=rst A d S n
 | 0=>rfl
 | n+1=>by
  show rnx (A.re ml el pl sl) d (rst (A.re ml el pl sl) d S n)=_;rw [yiq A d S ml el pl sl n];rfl
theorem yxh (A:FA) (X:FX) (b:Int) (h:0 <= X.nd) (hb:0 <= b):0 <= (X.see A b).nd:=by
 show 0 <= ndN X.nd b;unfold ndN
 split
 .split <;> omega
 .split <;> omega
theorem yvb (A:FA) (X:FX) (b:Int):(X.see A b).sg.length <= X.sg.length+1:=by
 show (sgN X.sg X.nd b).length <= _;unfold sgN
 split
 .split
  .rw [bj]; exact bp _
  .omega
 .split
  .omega
  .exact bL _
theorem ydv (A:FA) (d:List Int) (S:FX × Sn) (h:0 <= S.1.nd):∀ n,0 <= (rst A d S n).1.nd
 | 0=>h
 | n+1=>yxh A _ _ (ydv A d S h n) (by rcases ymy A d S n with e | e <;> (unfold À at e; rw [e]; decide))
theorem yd0 (A:FA) (d:List Int) (S:FX × Sn):∀ n,(rst A d S n).1.sg.length <= S.1.sg.length+n
 | 0=>bp _
 | n+1=>bN (yvb A _ _) (Nat.succ_le_succ (yd0 A d S n))
theorem j9.app {H:Hp} {R:Addr} {A:FA} {X:FX} {f:Nat->List Int->Option Slt} {m:Nat} {dx pd s:Addr} {d:List Int} {x:Sn} {xs ys:List V} (h:j9 K a H p A X f O m q dx pd s ds d x) (hR:H R=some (.lst xs)) (hq:∀ q,(q=A.bl\/q=A.el\/q=A.ml\/q=A.pl)->q≠R) (np:pd≠R):j9 K a (upd H R (.lst ys)) p A X f O m q dx pd s ds d x:=by
 exists h.ft.app hR hq,⟨yf (fun z=>?_) h.sk.me,yf np h.sk.dt,yf (fun z=>?_) h.sk.sp,h.sk.ne⟩,h.ok,h.nO,h.nd
 .have e:=h.sk.me;rw [z,hR] at e;cases e
 .have e:=h.sk.sp;rw [z,hR] at e;cases e
theorem j9.notN {H:Hp} {R:Addr} {A:FA} {X:FX} {f:Nat->List Int->Option Slt} {m:Nat} {dx pd s:Addr} {d:List Int} {x:Sn} (h:j9 K a H p A X f O m q dx pd s ds d x) (hR:H R=some (.lst (xs.map V.int))) (nm:R≠A.ml) (ne:R≠A.el):∀ q,(q=A.bl\/q=A.el\/q=A.ml\/q=A.pl)->q≠R:=fun q i z=>by
 have j:=h.ft.n1
 have b:∀ (g:Nat->Addr),xs.map V.int=refs g A.n->False:=fun g e=>by
  have c:(refs g A.n)[0]?=some (V.ref (g 0)):=yx8 j;rw [<- e,br] at c
  cases w:xs[0]? with
  | none=>rw [w] at c; cases c
  | some y=>rw [w] at c; cases c
 rcases i with y | y | y | y
 .have e:=h.ft.bl;rw [<- y,z,hR] at e;exact b _ (HO.lst.inj (bF e))
 .exact ne (z.symm.trans y)
 .exact nm (z.symm.trans y)
 .have e:=h.ft.pl;rw [<- y,z,hR] at e;exact b _ (HO.lst.inj (bF e))
theorem RGo.app {s R:Addr} {A:FA} {H H1:Hp} {ml el:Addr} {o':HO} (h:RGo p q s A O H H1 ml el O') (hR:H R=none):RGo p q s A O H (upd H1 R o') ml el O' :=
 ⟨h.hm,h.he,h.hO,fun c o e g f i d a b=>yf (yb e hR) (h.fr c o e g f i d a b),fun c o e=>let ⟨o1,w⟩:=h.live c o e; ⟨o1,yf (yb e hR) w⟩⟩
theorem RGo.ahead {s:Addr} {A:FA} {H H1 H2:Hp} {ml el:Addr} (S:yq H H1) (h:RGo p q s A O H1 H2 ml el O'):RGo p q s A O H H2 ml el O' :=
 ⟨h.hm.imp id S.free,h.he.imp id S.free,fun j c a w=>(h.hO j c a w).imp id S.free,fun c o e=>h.fr c o (S _ _ e),fun c o e=>h.live c o (S _ _ e)⟩
def wB (i:Nat):Int:=([128,64,32,16,8,4,2,1]:List Int)[i]?.getD 0
theorem va9 (i:Nat):0 <= wB i/\wB i <= 128:=by
 rcases i with _ | _ | _ | _ | _ | _ | _ | _ | i
 .exists by decide,by decide
 .exists by decide,by decide
 .exists by decide,by decide
 .exists by decide,by decide
 .exists by decide,by decide
 .exists by decide,by decide
 .exists by decide,by decide
 .exists by decide,by decide
 .exists by show (0:Int) <= 0; decide,by show (0:Int) <= 128; decide
def sgB (A:FA) (d:List Int) (S:FX × Sn) (i:Nat):List Int:=(List.range i).map fun j=>wB j * À A d S j
theorem yji (A:FA) (d:List Int) (S:FX × Sn) (i:Nat):sgB A d S (i+1)=sgB A d S i++[wB i * À A d S i]:=by
 unfold sgB;rw [List.range_succ,bz];rfl
#synth ywq ["foreteller","seeker"] yta
inductive yaj (K:W.Frag) (a:Ads) (vs:List V) (H:Hp) (Q:VK) (E':XK):Prop
 | mk (p:Addr) (A:FA) (S:FX × Sn) (f:Nat->List Int->Option Slt) (O:Nat->Addr->Prop) (m:Nat) (q dx pd s ds:Addr) (d:List Int) (_:vs=[.ref p,.ref q]) (_:j9 K a H p A S.1 f O m q dx pd s ds d S.2) (_:m+80 < 1000000) (_:0 <= S.1.nd) (_:S.1.sg.length <= 90000) (_:∀ (ml el pl:Addr) (sl:Nat->Addr) (f':Nat->List Int->Option Slt) (O':Nat->Addr->Prop) (H':Hp),j9 K a H' p (A.re ml el pl sl) (rst A d S 8).1 f' O' (m+8 * A.n) q dx pd s ds d (rst A d S 8).2->RGo p q s A O H H' ml el O'->Q (.int (sgB A d S 8).sum) H')
theorem yt8 (T:Txt K mg a):vk P w K mg base CX0 8 a.K5 a.K6 ["foreteller","seeker"] (yaj K a):=by
 exists T.Mn.F.ok,ywq,hr;obtain ⟨p,b,S,f,O,m,q,dx,pd,Z,ds,d,rfl,R,hm,a2,a6,k⟩:=h;have n6:=R.ft.n6;exists _,(yd (yt (pcB (π rfl) T.Dl (pa1 (vq (js:=[1,0]) (ys:=["seeker","foreteller"]) rfl (ydr (Ş rfl T.Ha)) (fun C s2 H2 fp=>(yn w4 (pv 0) (xv (ym3 T) hr.m T.Gc (pac (pv 2) (pa1 (pv 1)))))) rfl rfl (hyc:=(all_cons rfl (all_cons rfl yr))) (hrel:=(all_cons rfl (all_cons rfl yr)))))))),?_;exists 2,0;rfl';exists a.Bj,rfl,⟨_,T.Cs H⟩,fun D I=>?_;refine yag (xs:=[.int 128,.int 64,.int 32,.int 16,.int 8,.int 4,.int 2,.int 1]) (fun i G=>∃ (r x J:Addr) (W:Nat->Addr) (f':Nat->List Int->Option Slt) (O':Nat->Addr->Prop),j9 K a G p (b.re r x J W) (rst b d S i).1 f' O' (m+i * b.n) q dx pd Z ds d (rst b d S i).2/\RGo p q Z b O H G r x O'/\G D=some (.lst ((sgB b d S i).map V.int))/\D≠r/\D≠x) ?_ (fun i G _ _=>T.Cs G) ?_ ?_
 .have S1:yq H (upd H D (.lst [])):=yx I;exists b.ml,b.el,b.pl,b.sl,f,O,?_,RGo.refl.same S1,ya,(yb R.ft.mx.l I).symm,(yb R.ft.el I).symm;rw [Nat.zero_mul];exact R.same S1
 .rintro i y G j a4 ⟨r,x,J,W,f1,O1,e,u,c,L,t⟩;have hi:i < 8:=a4
  obtain rfl:y=V.int (wB i):=by
   rcases i with _ | _ | _ | _ | _ | _ | _ | _ | i
   .exact (bF j).symm
   .exact (bF j).symm
   .exact (bF j).symm
   .exact (bF j).symm
   .exact (bF j).symm
   .exact (bF j).symm
   .exact (bF j).symm
   .exact (bF j).symm
   .omega
  have a8:i * b.n <= 8 * b.n:=Nat.mul_le_mul_right _ (by omega);obtain ⟨aa,a7⟩:=va9 i;have a0:=ydv b d S a2 i;have ab:=yd0 b d S i;rfl';exists p,b.re r x J W,(rst b d S i).1,f1,O1,m+i * b.n,q,dx,pd,Z,ds,d,(rst b d S i).2,rfl,e,by omega,a0,by omega,fun U M a3 a1 f2 O2 G2 Y g=>?_
  have v:G2 D=some (.lst ((sgB b d S i).map V.int)):=g.fr _ _ c (wu c e.ft.me (by intro z; cases z)) (wu c e.ft.mx.o (by intro z; cases z)) t (wu c e.sk.me (by intro z; cases z)) (wu c e.sk.sp (by intro z; cases z)) (e.ft.B.nlst c)
  have N:D≠U:=by
   rcases g.hm with z | z
   .rw [z]; exact L
   .exact yb c z
  have X:D≠M:=by
   rcases g.he with z | z
   .rw [z]; exact t
   .exact yb c z
  exists wB i,_,rfl,rfl,.inl ⟨by omega,by omega⟩,?_;exists _,v,?_,8 - (i+1),by show 8 - (i+1) < 8 - i; omega,rfl,hi,U,M,a3,a1,f2,O2,?_,?_,?_,N,X
  .unfold sgB;rw [bf,bf,bU];exact Nat.lt_trans hi (by decide)
  .rw [show m+(i+1) * b.n=m+i * b.n+b.n by rw [Nat.succ_mul,Nat.add_assoc]];exact j9.app Y v (Y.notN v N X) (yb R.sk.dt I)
  .exact (u.trans g).app I
  .rw [yji,bz];exact ya
 .rintro G ⟨r,x,J,W,f1,O1,e,u,c,L,t⟩;rfl';exists D,sgB b d S 8,rfl,SqL.of c,?_;rfl';exact k r x J W f1 O1 G e u
theorem j9.up {H:Hp} {A:FA} {X:FX} {f:Nat->List Int->Option Slt} {m:Nat} {dx pd s:Addr} {d:List Int} {x:Sn} (h:j9 K a H p A X f O m q dx pd s ds d x) (hm:m <= m'):j9 K a H p A X f O m' q dx pd s ds d x:=⟨h.ft.up hm,h.sk,h.ok,h.nO,h.nd⟩
theorem yof (A:FA) (d:List Int) (S:FX × Sn) (ml el pl:Addr) (sl:Nat->Addr) (n:Nat):À (A.re ml el pl sl) d S n=À A d S n:=by
 unfold À;rw [yiq];rfl
theorem yx3 (A:FA) (d:List Int) (S:FX × Sn) (ml el pl:Addr) (sl:Nat->Addr) (n:Nat):sgB (A.re ml el pl sl) d S n=sgB A d S n:=by
 unfold sgB;exact List.map_congr_left fun j _=>by rw [yof]
def rsg (A:FA) (d:List Int) (S:FX × Sn) (k:Nat):Int:=(sgB A d (rst A d S (9 * k+1)) 8).sum
def rtx (A:FA) (d:List Int) (S:FX × Sn) (k:Nat):List Int:=(List.range k).map (rsg A d S)
theorem yj1 (A:FA) (d:List Int) (S:FX × Sn) (k:Nat):rtx A d S (k+1)=rtx A d S k++[rsg A d S k]:=by
 unfold rtx;rw [List.range_succ,bz];rfl
theorem yhe (A:FA) (d:List Int) (S:FX × Sn) (k:Nat):(rtx A d S k).length=k:=by
 unfold rtx;rw [bf,bU]
section
variable {G:Hp} {A:FA} {S:FX × Sn} {f:Nat->List Int->Option Slt} {m n:Nat} {dx pd s ml el pl:Addr} {sl:Nat->Addr} {d:List Int} {Q:VK} {E:XK}
theorem yxi (hR:j9 K a G p (A.re ml el pl sl) (rst A d S n).1 f O m q dx pd s ds d (rst A d S n).2) (hm:m+20 < 1000000) (nd0:0 <= S.1.nd) (hsg:S.1.sg.length+n <= 100000)
  (k:∀ (ml2 el2 pl2:Addr) (sl2:Nat->Addr) (f':Nat->List Int->Option Slt) (O':Nat->Addr->Prop) (H':Hp),j9 K a H' p (A.re ml2 el2 pl2 sl2) (rst A d S (n+1)).1 f' O' (m+6) q dx pd s ds d (rst A d S (n+1)).2->RGo p q s (A.re ml el pl sl) O G H' ml2 el2 O'->Q (.int (À A d S n)) H'):yco K a [.ref p,.ref q] G Q E :=
 ⟨p,A.re ml el pl sl,(rst A d S n).1,f,O,m,q,dx,pd,s,ds,d,(rst A d S n).2,rfl,hR,hm,ydv A d S nd0 n,bN (yd0 A d S n) hsg,fun ml2 el2 pl2 sl2 f' O' H' c b=>k ml2 el2 pl2 sl2 f' O' H' (j9.up c (Nat.add_le_add_left hR.ft.n6 m)) b⟩
theorem yon (hR:j9 K a G p (A.re ml el pl sl) (rst A d S n).1 f O m q dx pd s ds d (rst A d S n).2) (hm:m+80 < 1000000) (nd0:0 <= S.1.nd) (hsg:S.1.sg.length+n <= 90000)
  (k:∀ (ml2 el2 pl2:Addr) (sl2:Nat->Addr) (f':Nat->List Int->Option Slt) (O':Nat->Addr->Prop) (H':Hp),j9 K a H' p (A.re ml2 el2 pl2 sl2) (rst A d S (n+8)).1 f' O' (m+48) q dx pd s ds d (rst A d S (n+8)).2->RGo p q s (A.re ml el pl sl) O G H' ml2 el2 O'->Q (.int (sgB A d (rst A d S n) 8).sum) H'):yaj K a [.ref p,.ref q] G Q E:=by
 exists p,A.re ml el pl sl,rst A d S n,f,O,m,q,dx,pd,s,ds,d,rfl,hR,hm,ydv A d S nd0 n,bN (yd0 A d S n) hsg,fun ml2 el2 pl2 sl2 f' O' H' b c=>?_;have e:A.n <= 6:=hR.ft.n6;have b:=j9.up b (show m+8 * A.n <= m+48 by omega);rw [yiq,yb1] at b;rw [yx3];exact k ml2 el2 pl2 sl2 f' O' H' b c
end
#synth yl9 ["foreteller","seeker","most","text"] ["foreteller","seeker","most"] ysg
inductive yf3 (K:W.Frag) (a:Ads) (vs:List V) (H:Hp) (Q:VK) (E:XK):Prop
 | mk (p:Addr) (A:FA) (S:FX × Sn) (f:Nat->List Int->Option Slt) (O:Nat->Addr->Prop) (m:Nat) (q dx pd s ds:Addr) (d:List Int) (mo:Nat) (_:vs=[.ref p,.ref q,.int mo]) (_:j9 K a H p A S.1 f O m q dx pd s ds d S.2) (_:mo <= 1000) (_:m+54 * mo+200 < 1000000) (_:0 <= S.1.nd) (_:S.1.sg.length <= 10000) (_:(∀ (N:Nat) (r ml el pl:Addr) (sl:Nat->Addr) (f':Nat->List Int->Option Slt) (O':Nat->Addr->Prop) (H':Hp),N <= mo->(∀ j,j < N->À A d S (9 * j)=1)->À A d S (9 * N)=0->H r=none->H' r=some (.lst ((rtx A d S N).map V.int))->r≠el->j9 K a H' p (A.re ml el pl sl) (rst A d S (9 * N+1)).1 f' O' (m+54 * N+6) q dx pd s ds d (rst A d S (9 * N+1)).2->RGo p q s A O H H' ml el O'->Q (.ref r) H')) (_:((∀ j,j <= mo->À A d S (9 * j)=1)->∀ (ml el:Addr) (O':Nat->Addr->Prop) (H':Hp),RGo p q s A O H H' ml el O'->E (.ref a.El) none H'))
theorem yvo (T:Txt K mg a):vk P w K mg base (CXe P w) 9 a.K7 a.K8 ["foreteller","seeker","most"] (yf3 K a):=by
 exists T.Mo.F.okE,yl9,hr;obtain ⟨p,g,S,f,O,m,q,dx,pd,R,ds,d,mo,rfl,hR,an,hm,a5,ak,kQ,kE⟩:=h;exists _,(yg (yv (i:=3) yl9.nd rfl (Or.inl rfl) (wx ub)) (yg (ji PassesOwn.leaving (y7 zy (xv (ym3 T) hr.m T.Gc (pac (pv 0) (pa1 (pv 1)))) ye (vh _)) (yg (wz (y7 zy (pcB yo T.Ac (pa1 (pv 3))) (pv 2) (vh _)) (yd (w5 rfl T.Q2 T.P8 (pa1 wy))) ve) (yd (yp (ue PySem.F.plainAttrs_list PySem.F.slot_list_append PySem.F.type_list_append v7 (pv 3) (pa1 (xv (yt8 T) hr.m T.Mn (pac (pv 0) (pa1 (pv 1)))))))))) (yd (yt (pv 3))))),?_;exists 3,1;rfl';exists by walk_at "len",fun r hr0=>?_
 exists hr0,H1,S1,hr1;have ad:pd≠r:=yb hR.sk.dt hr0;rfl'
 refine ⟨fun w σ' G=>∃ (N:Nat) (I D U:Addr) (sl:Nat->Addr) (f':Nat->List Int->Option Slt) (O':Nat->Addr->Prop),σ'=[some (.ref p),some (.ref q),some (.int mo),some (.ref r)]/\N <= mo/\(∀ j,j < N->À g d S (9 * j)=1)/\j9 K a G p (g.re I D U sl) (rst g d S (9 * N)).1 f' O' (m+54 * N) q dx pd R ds d (rst g d S (9 * N)).2/\RGo p q R g O H G I D O'/\G r=some (.lst ((rtx g d S N).map V.int))/\r≠I/\r≠D/\w=mo - N,
  ⟨_,0,g.ml,g.el,g.pl,g.sl,f,O,rfl,bL _,fun j hj=>absurd hj (bY j),hR.same S1,RGo.refl.same S1,hr1,(yb hR.ft.mx.l hr0).symm,(yb hR.ft.el hr0).symm,rfl⟩,?_⟩
 rintro w σ2 G ⟨N,I,D,U,sl,f1,O1,rfl,hN,a2,e,ae,a8,J,y,rfl⟩;rfl';refine yxi e (by omega) a5 (by omega) fun v n ag aa f2 O2 G2 M k=>?_
 have t:∀ {G G2:Hp} {I D U v n:Addr} {sl:Nat->Addr} {X:FX} {f1:Nat->List Int->Option Slt} {O1 O2:Nat->Addr->Prop} {m x} {xs:List V},j9 K a G p (g.re I D U sl) X f1 O1 m q dx pd R ds d x->RGo p q R (g.re I D U sl) O1 G G2 v n O2->G r=some (.lst xs)->r≠I->r≠D->G2 r=some (.lst xs)/\r≠v/\r≠n:=fun e k c J y=>by
  exists k.fr _ _ c (wu c e.ft.me (by intro z; cases z)) (wu c e.ft.mx.o (by intro z; cases z)) y (wu c e.sk.me (by intro z; cases z)) (wu c e.sk.sp (by intro z; cases z)) (e.ft.B.nlst c),?_,?_
  .rcases k.hm with z | z
   .rw [z]; exact J
   .exact yb c z
  .rcases k.he with z | z
   .rw [z]; exact y
   .exact yb c z
 obtain ⟨C,ac,a6⟩:=t e k a8 J y;have u:=ae.trans k;have a3:=ymy g d S (9 * N);generalize a7:À g d S (9 * N)=b at a3;rfl';refine z0 (fun hb=>?_) (fun hb=>?_)
 .subst hb
  have Z:∀ j,j < N+1->À g d S (9 * j)=1:=fun j hj=>by
   by_cases z:j=N
   .rw [z]; exact a7
   .exact a2 j (by omega)
  refine yat ?_;rfl';refine zg (SqL.of C) ?_;rw [bf,yhe];rfl';refine z0 (fun hc=>?_) (fun hc=>?_)
  .have al:N=mo:=by omega
   rfl';exists by walk_at "len",kE (fun j hj=>Z j (by omega)) v n O2 G2 u
  .rfl';refine uc C ?_;rfl';refine yon M (by omega) a5 (by omega) fun ai af a9 aj f3 O3 G3 a4 a1=>?_;obtain ⟨L,a0,Y⟩:=t M a1 C ac a6;have W:=u.trans a1;rfl';refine w9 L (y8 (by rw [bf,yhe]; omega)) ?_;rfl';exists _,?_,N+1,ai,af,a9,aj,f3,O3,rfl,by omega,Z,?_,W.app hr0,?_,a0,Y,rfl
   .omega
   .exact j9.app a4 L (a4.notN L a0 Y) ad
   .rw [ya,yj1,bz];rfl
 .have ab:À g d S (9 * N)=0:=by omega
  rfl';exact kQ N r v n ag aa f2 O2 G2 hN a2 ab hr0 C a6 M u
theorem yp7 (x:Sn) (c b:Int):(nar x c b).2.2 <= x.2.2+2:=by
 unfold nar ren
 (repeat' split) <;> (dsimp only; omega)
theorem yl3 (A:FA) (d:List Int) (S:FX × Sn):∀ n:Nat,(rst A d S n).2.2.2 <= S.2.2.2+2 * (n:Int)
 | 0=>by show S.2.2.2 <= S.2.2.2+2 * ((0:Nat):Int); omega
 | n+1=>by
  have b:=yl3 A d S n;have a:=yp7 (rst A d S n).2 (chX A (rst A d S n).1) (Á d (rst A d S n).2 (chX A (rst A d S n).1));show (nar (rst A d S n).2 (chX A (rst A d S n).1) (Á d (rst A d S n).2 (chX A (rst A d S n).1))).2.2 <= _;omega
structure ROk (A:FA) (d:List Int) (S:FX × Sn) (N:Nat):Prop where
 b1:∀ j,j < N->À A d S (9 * j)=1
 b0:À A d S (9 * N)=0
 tk:d.take (tL (rst A d S (9 * N+1)).2).length=tL (rst A d S (9 * N+1)).2
theorem ROk.uniq {A:FA} {d:List Int} {S:FX × Sn} {N M:Nat} (h:ROk A d S N) (b1:∀ j,j < M->À A d S (9 * j)=1) (b0:À A d S (9 * M)=0):M=N:=by
 rcases Nat.lt_trichotomy M N with z | z | z
 .have e:=h.b1 M z;rw [b0] at e;cases e
 .exact z
 .have e:=b1 N z;rw [h.b0] at e;cases e
def rTL (A:FA) (d:List Int) (S:FX × Sn) (N:Nat):Nat:=(tL (rst A d S (9 * N+1)).2).length
theorem RGo.fgo {s:Addr} {A:FA} {H0 H H':Hp} {ml el:Addr} (S:yq H0 H) (hq:H0 q=none) (hs:H0 s=none) (h:RGo p q s A O H H' ml el O'):FGo p A O H0 H' el O' :=
 ⟨h.he.imp id S.free,fun j c b w=>(h.hO j c b w).imp id S.free,fun c o e f d g a=>h.fr c o (S _ _ e) f d g (yb e hq) (yb e hs) a,fun c o e=>h.live c o (S _ _ e)⟩
#synth yd3 ["foreteller","data","most","seeker","text","own"] ["foreteller","data","most"] yse
inductive yae (K:W.Frag) (a:Ads) (vs:List V) (H:Hp) (Q:VK) (E:XK):Prop
 | mk (p:Addr) (A:FA) (X:FX) (f:Nat->List Int->Option Slt) (O:Nat->Addr->Prop) (m:Nat) (dt:Addr) (d:List Int) (mo:Nat) (_:vs=[.ref p,.ref dt,.int mo]) (_:ux K a H p A X f O m) (_:H dt=some (.lst (d.map V.int))) (_:dt≠A.el) (_:Byt d) (_:d.length <= 12000) (_:mo <= 1000) (_:m+54 * mo+200 < 1000000) (_:0 <= X.nd) (_:X.sg.length <= 10000) (_:(∀ (N:Nat) (t r el:Addr) (O':Nat->Addr->Prop) (H':Hp),N <= mo->ROk A d (X,s0) N->H t=none->H r=none->H' t=some (.tup [.ref r,.int (rTL A d (X,s0) N)])->H' r=some (.lst ((rtx A d (X,s0) N).map V.int))->FGo p A O H H' el O'->(r≠el/\∃ ml pl sl f',ux K a H' p (A.re ml el pl sl) (rst A d (X,s0) (9 * N+1)).1 f' O' (m+54 * N+6))->Q (.ref t) H')) (_:((∀ N,N <= mo->¬ ROk A d (X,s0) N)->∀ (el:Addr) (O':Nat->Addr->Prop) (H':Hp),FGo p A O H H' el O'->E (.ref a.El) none H'))
theorem yuo (T:Txt K mg a):vk P w K mg base (CXe P w) 10 a.K9 a.Ka ["foreteller","data","most"] (yae K a):=by
 exists T.Mq.F.okE,yd3,hr;obtain ⟨p,l,X,f,O,m,dt,d,mo,rfl,hF,C,a0,ab,a1,aa,hm,a9,a3,kQ,kE⟩:=h;refine yi (yv (i:=3) yd3.nd rfl (Or.inl rfl) (je T.Qx (yvj T) hr.m rfl T.Qw T.Eb.B .nil yz (pa1 (pv 1)))) ?_;refine yi (yv (i:=4) yd3.nd rfl (Or.inl rfl) (ud (yvo T) hr.m T.Mo yz (pac (pv 0) (pac (pv 3) (pa1 (pv 2)))))) ?_;refine yi (yv (i:=5) yd3.nd rfl (Or.inl rfl) (wc (pv 3) T.Bc T.Gb.m (yyy T) hr.m T.Gb.B .nil wv)) ?_;refine yi (wz (y7 (yik hr.units) (zj ť (pv 1) jz (jw (pcB yo T.Ac (pa1 (pv 5))))) (pv 5) (vh _)) (yd (w5 rfl T.Q2 T.P8 (pa1 wy))) ve) ?_;exists _,(yd (yt (χ (pac (pv 4) (pa1 (pcB yo T.Ac (pa1 (pv 5)))))))),?_;exists 3,3;rfl';intro q G R a5 af;have U:yq H (upd (upd H G (.own q)) q (.ins a.Ab G [])):=fun b o e=>by rw [yk (yb e R),yk (yb e a5)]; exact e
 exists q,G,.ref dt,_,rfl,ya,.lst (U _ _ C),.inr ⟨d,yk8 (U _ _ C) ab a1,fun pd Z ds H1 L Y ae B1=>⟨rfl,?_⟩⟩;have S1:yq H H1:=fun b o e=>B1 b o (U b o e) (yb e R);have y:H Z=none:=U.free Y;have a4:H pd=none:=U.free L
 have nO:∀ {c:Addr},H c=none->∀ i,i < l.n->¬ O i c:=fun D i hi w=>by
  obtain ⟨o,ho,_⟩:=(hF.B.b i hi).own _ w;rw [D] at ho;cases ho
 have hR:j9 K a H1 p l X f O m q G pd Z ds d s0:=⟨hF.same S1,ae,vc2,fun i hi=>⟨nO R i hi,nO y i hi⟩,(yb hF.el a4).symm⟩;rfl';exists p,l,(X,s0),f,O,m,q,G,pd,Z,ds,d,mo,rfl,hR,aa,hm,a9,a3,fun N r ml el pl sl f2 O2 H2 hN I J ad a7 a2 k v=>?_,fun W ml el O2 H2 v=>?_
 .have a8:=yl3 l d (X,s0) (9 * N+1);have a6:((X,s0):FX × Sn).2.2.2=5:=rfl;rw [a6] at a8;have go:=v.fgo S1 R y;have ag:=k.sk.me;have S:H2 dt=some (.lst (d.map V.int)):=(go.kpa hF).lst C a0;rfl';exists q,G,pd,Z,ds,d,_,rfl,k.sk,k.ok,by show Int.toNat _ <= 100000; omega,fun w H3 ai z S3=>?_
  rfl';refine zg (SqL.of z) ?_;rw [bf];rfl';refine yll (SqL.of (S3 _ _ S)) fun u hu=>?_;have ec:yd7 (d.map V.int) none (some (((tL (rst l d (X,s0) (9 * N+1)).2).length:Nat):Int))=(d.take (tL (rst l d (X,s0) (9 * N+1)).2).length).map V.int:=by rw [List.map_take]; exact ydg _
  rw [ec];exists hu,H4,S4,hu4;have x:=go.same (S3.trans S4);rfl';refine vag _ _ (SqL.of hu4) (SqL.of (S4 _ _ z)) ?_;by_cases D:d.take (tL (rst l d (X,s0) (9 * N+1)).2).length=tL (rst l d (X,s0) (9 * N+1)).2
  .rw [bx D];rfl';refine zg (SqL.of (S4 _ _ z)) ?_;rw [bf];rfl';exists by walk_at "len",fun t g=>?_
   refine kQ N t r el O2 _ hN ⟨I,J,D⟩ (x.free g) (S1.free ad) ya (uq g ((S3.trans S4) _ _ a7)) (x.same (yx g)) ⟨a2,ml,pl,sl,f2,((k.ft.same (S3.trans S4)).same (yx g))⟩
  .rw [bA D];rfl';exists by walk_at "len",kE (fun M hM j=>D (by rw [j.uniq I J]; exact j.tk)) el O2 _ x
 .exact kE (fun M hM j=>by have e:=W M hM; rw [j.b0] at e; cases e) el O2 H2 (v.fgo S1 R y)
structure vcz (H:Hp) (L dt:Addr) (lx:V) (n:Nat) (lk:Nat->Addr) (kd:Nat->Fin 3) (tp:Nat->Addr) (ps:Nat->List Int) (d:List Int) (mo N w:Nat) (lt:Nat->Addr) (tt:Nat->List Int):Prop where
 l:H L=some (.lst (refs lk n))
 n1:1 <= n
 n6:n <= 6
 r:xl H n lk kd tp ps
 dat:H dt=some (.lst (d.map V.int))
 by':Byt d
 dl:d.length <= 12000
 mo1:mo <= 1000
 lr:yto H lx N w lt tt
 w1:w <= 1000
 N1:N <= 1000
 b:6+6 * (N * (9 * w+1))+54 * mo+200 < 1000000
theorem yto.of {H:Hp} {ll:Addr} {N w:Nat} {lt:Nat->Addr} (h:H ll=some (.lst (refs lt N))) (t:∀ i,i < N->Ì H (lt i) (tt i) w):yto H (.ref ll) N w lt tt:=⟨.inr ⟨ll,rfl,h⟩,t⟩
theorem vcz.same {H H':Hp} {L dt:Addr} {lx:V} {n:Nat} {lk:Nat->Addr} {kd:Nat->Fin 3} {ps:Nat->List Int} {d:List Int} {mo N w:Nat} {lt:Nat->Addr} (h:vcz H L dt lx n lk kd tp ps d mo N w lt tt) (S:yq H H'):vcz H' L dt lx n lk kd tp ps d mo N w lt tt :=
 ⟨S _ _ h.l,h.n1,h.n6,h.r.same S,S _ _ h.dat,h.by',h.dl,h.mo1,h.lr.same S,h.w1,h.N1,h.b⟩
def rS (n:Nat) (kd:Nat->Fin 3) (ps:Nat->List Int) (pre:List Int):FX × Sn:=((FX0 n kd).run (fa0 n ps) pre,s0)
theorem jy (A:FA) (d:List Int) (S:FX × Sn):∀ k,rst A d S k=rst (fa0 A.n A.ps) d S k
 | 0=>rfl
 | k+1=>by
  show rnx A d (rst A d S k)=rnx (fa0 A.n A.ps) d (rst (fa0 A.n A.ps) d S k);rw [jy A d S k];rfl
theorem μ (A:FA) (d:List Int) (S:FX × Sn) (k:Nat):À A d S k=À (fa0 A.n A.ps) d S k:=by
 unfold À;rw [jy];rfl
theorem ypq (A:FA) (d:List Int) (S:FX × Sn) (k:Nat):rsg A d S k=rsg (fa0 A.n A.ps) d S k:=by
 unfold rsg sgB;rw [jy];exact congrArg List.sum (List.map_congr_left fun j _=>by rw [μ])
theorem yqs (A:FA) (d:List Int) (S:FX × Sn) (k:Nat):rtx A d S k=rtx (fa0 A.n A.ps) d S k:=by
 unfold rtx;exact List.map_congr_left fun j _=>ypq A d S j
theorem yoo (A:FA) (d:List Int) (S:FX × Sn) (k:Nat):rTL A d S k=rTL (fa0 A.n A.ps) d S k:=by
 unfold rTL;rw [jy]
theorem ROk.fa0 {A:FA} {d:List Int} {S:FX × Sn} {N:Nat}:ROk A d S N ↔ ROk (fa0 A.n A.ps) d S N:=by
 constructor
 .intro h;exists fun j a=>by rw [<- μ]; exact h.b1 j a,by rw [<- μ]; exact h.b0,by rw [<- jy]; exact h.tk
 .intro h;exists fun j a=>by rw [μ]; exact h.b1 j a,by rw [μ]; exact h.b0,by rw [jy]; exact h.tk
theorem ymd {mx:Nat->Int} {d:List Int} (hd:Byt d) {m:Nat} (hc:∀ j,j < m->Ch (mx j)) (hb:∀ j,j < m->bt j=0\/bt j=1) (i:InS d (snK mx bt m)):∀ k,k < m->bt k=Á d (snK mx bt k) (mx k)/\InS d (snK mx bt k):=by
 induction m with
 | zero=>exact fun k a=>absurd a (bY k)
 | succ m ih =>
  have f:=(υ (mx:=mx) (bt:=bt) m fun j c=>hc j (by omega)).1;obtain ⟨b,e⟩:=yb7 hd f (hc m (by omega)) (hb m (by omega)) i;intro k a;by_cases z:k=m
  .rw [z];exists e,b
  .exact ih (fun j c=>hc j (by omega)) (fun j c=>hb j (by omega)) b k (by omega)
theorem yz6 {k:Nat} (h:k < (dec ts).length):wb ts k=0\/wb ts k=1:=by
 obtain ⟨a,b⟩:=yki ts k h;omega
theorem ydm (x:Sn):Byt (tL x):=fun b a=>yo1 _ _ b a
theorem Ù {n:Nat} {kd:Nat->Fin 3} {ps:Nat->List Int} {pre d:List Int} (hd:Byt d) (hc:∀ j,j < (dec ts).length->Ch (j8 n kd ps pre ts j)) (hi:InS d (snK (j8 n kd ps pre ts) (wb ts) (dec ts).length)):∀ k,k <= (dec ts).length->rst (fa0 n ps) d (rS n kd ps pre) k=(fX n kd ps pre ts k,snK (j8 n kd ps pre ts) (wb ts) k)
 | 0,_=>rfl
 | k+1,hk=>by
  have a:=(ymd hd hc (fun j c=>yz6 c) hi k (by omega)).1;have b:(dec ts)[k]?=some (wb ts k):=by unfold wb; rw [bo (by omega)]; rfl
  show rnx (fa0 n ps) d (rst (fa0 n ps) d (rS n kd ps pre) k)=_;rw [Ù hd hc hi k (by omega)];show ((fX n kd ps pre ts k).see (fa0 n ps) (Á d (snK (j8 n kd ps pre ts) (wb ts) k) (j8 n kd ps pre ts k)),nar (snK (j8 n kd ps pre ts) (wb ts) k) (j8 n kd ps pre ts k) (Á d (snK (j8 n kd ps pre ts) (wb ts) k) (j8 n kd ps pre ts k)))=(fX n kd ps pre ts (k+1),nar (snK (j8 n kd ps pre ts) (wb ts) k) (j8 n kd ps pre ts k) (wb ts k));rw [<- a]
  have e:fX n kd ps pre ts (k+1)=(fX n kd ps pre ts k).see (fa0 n ps) (wb ts k):=by
   unfold fX;rw [Û b]
  rw [e]
theorem yga {n:Nat} {kd:Nat->Fin 3} {ps:Nat->List Int} {pre d:List Int} (hd:Byt d) (hc:∀ j,j < (dec ts).length->Ch (j8 n kd ps pre ts j)) (hi:InS d (snK (j8 n kd ps pre ts) (wb ts) (dec ts).length)) (k:Nat) (hk:k < (dec ts).length):À (fa0 n ps) d (rS n kd ps pre) k=wb ts k:=by
 have a:=(ymd hd hc (fun j b=>yz6 b) hi k hk).1;unfold À;rw [Ù hd hc hi k (by omega)];exact a.symm
theorem Å (t:Int) (r:List Int) (k:Nat):wb (t :: r) (k+9)=wb r k:=rfl
theorem ye2 (t:Int) (r:List Int):∀ i,i < 8->wb (t :: r) (1+i)=t / wB i % 2:=fun i a=>by
 rcases i with _ | _ | _ | _ | _ | _ | _ | _ | i
 .rfl
 .rfl
 .rfl
 .rfl
 .rfl
 .rfl
 .rfl
 .rfl
 .omega
theorem ì:∀ (ts:List Int) (j:Nat) (hj:j < ts.length),wb ts (9 * j)=1/\∀ i,i < 8->wb ts (9 * j+1+i)=ts[j] / wB i % 2
 | [],j,hj=>absurd hj (bY j)
 | t :: r,0,_=>⟨rfl,fun i a=>by rw [show 9 * 0+1+i=1+i by omega]; exact ye2 t r i a⟩
 | t :: r,j+1,hj=>by
  obtain ⟨b,c⟩:=ì r j (by simpa using hj);exists ?_,fun i a=>?_
  .rw [show 9 * (j+1)=9 * j+9 by omega,Å];exact b
  .rw [show 9 * (j+1)+1+i=9 * j+1+i+9 by omega,Å];exact c i a
theorem ycy:∀ ts:List Int,wb ts (9 * ts.length)=0
 | []=>rfl
 | t :: r=>by
  rw [show 9 * (t :: r).length=9 * r.length+9 by rw [bK]; omega,Å];exact ycy r
theorem ykf (A:FA) (d:List Int) (S:FX × Sn) (c i:Nat):À A d (rst A d S c) i=À A d S (c+i):=by
 unfold À;rw [yb1]
theorem yf2 {n:Nat} {kd:Nat->Fin 3} {ps:Nat->List Int} {pre d:List Int} (hts:Sgs ts) (hd:Byt d) (hc:∀ j,j < (dec ts).length->Ch (j8 n kd ps pre ts j)) (hl:(tL (snK (j8 n kd ps pre ts) (wb ts) (dec ts).length)).length <= d.length) (h:d.take (tL (snK (j8 n kd ps pre ts) (wb ts) (dec ts).length)).length=tL (snK (j8 n kd ps pre ts) (wb ts) (dec ts).length)) :
  ROk (fa0 n ps) d (rS n kd ps pre) ts.length/\rtx (fa0 n ps) d (rS n kd ps pre) ts.length=ts/\rTL (fa0 n ps) d (rS n kd ps pre) ts.length=(tL (snK (j8 n kd ps pre ts) (wb ts) (dec ts).length)).length:=by
 have p:=(υ (bt:=wb ts) _ hc).1;have a:=yh1 hd p hl h;have b:=ur ts
 have f:rst (fa0 n ps) d (rS n kd ps pre) (9 * ts.length+1)=(fX n kd ps pre ts (dec ts).length,snK (j8 n kd ps pre ts) (wb ts) (dec ts).length):=by
  rw [<- b];exact Ù hd hc a _ (bp _)
 have c:=yga hd hc a;exists ⟨fun j l=>?_,?_,?_⟩,?_,?_
 .rw [c _ (by omega)];exact (ì ts j l).1
 .rw [c _ (by omega)];exact ycy ts
 .rw [f];exact h
 .show (List.range ts.length).map (rsg (fa0 n ps) d (rS n kd ps pre))=ts;refine List.ext_getElem (by rw [bf,bU]) fun j q k=>?_;rw [cK,List.getElem_range];have g:=hts ts[j] (cg k);have o:=(ì ts j k).2
  have e:∀ i,i < 8->wB i * À (fa0 n ps) d (rst (fa0 n ps) d (rS n kd ps pre) (9 * j+1)) i=wB i * (ts[j] / wB i % 2):=fun i a=>by
   rw [ykf,c _ (by omega),o i a]
  have m:sgB (fa0 n ps) d (rst (fa0 n ps) d (rS n kd ps pre) (9 * j+1)) 8=(List.range 8).map fun i=>wB i * (ts[j] / wB i % 2):=by
   unfold sgB;exact List.map_congr_left fun i a=>e i (cj.mp a)
  unfold rsg;rw [m];exact va2 g.1 g.2
 .unfold rTL;rw [f]
theorem Ŕ {ys:List Int} (h1:Byt xs) (h2:Byt ys):Byt (xs++ys):=fun b a=>by
 rcases bP.mp a with h | h
 .exact h1 b h
 .exact h2 b h
def Ô (n:Nat) (kd:Nat->Fin 3) (ps:Nat->List Int) (pre ts:List Int):List Int:=tL (snK (j8 n kd ps pre ts) (wb ts) (dec ts).length)
theorem yc9 {n:Nat} {kd:Nat->Fin 3} {ps:Nat->List Int} {pre:List Int} (n1:1 <= n) (n6:n <= 6) (hp:ya6 pre) (hz:ts.length <= 300):(Ô n kd ps pre ts).length <= 5500:=by
 have a:=ur ts;obtain ⟨c,b⟩:=υ (mx:=j8 n kd ps pre ts) (bt:=wb ts) (dec ts).length fun j _=>Ś n1 n6 hp j;unfold Ô;rw [yie];have:sz (snK (j8 n kd ps pre ts) (wb ts) (dec ts).length) <= 5500:=by show Int.toNat _ <= 5500; omega
 omega
theorem yjz {n:Nat} {kd:Nat->Fin 3} {ps:Nat->List Int} {pre bs:List Int} (n1:1 <= n) (n6:n <= 6) (hp:ya6 pre) (hts:Sgs ts) (hb:Byt bs) :
  ROk (fa0 n ps) (Ô n kd ps pre ts++bs) (rS n kd ps pre) ts.length/\rtx (fa0 n ps) (Ô n kd ps pre ts++bs) (rS n kd ps pre) ts.length=ts/\rTL (fa0 n ps) (Ô n kd ps pre ts++bs) (rS n kd ps pre) ts.length=(Ô n kd ps pre ts).length :=
 yf2 hts (Ŕ (ydm _) hb) (fun j _=>Ś n1 n6 hp j) (by rw [bj]; exact Nat.le_add_right _ _) List.take_left
theorem yol {n:Nat} {kd:Nat->Fin 3} {ps:Nat->List Int} {pre bs:List Int} (n1:1 <= n) (n6:n <= 6) (hp:ya6 pre) (hb:Byt bs):(rst (fa0 n ps) (Ô n kd ps pre ts++bs) (rS n kd ps pre) (9 * ts.length+1)).1=((FX0 n kd).run (fa0 n ps) pre).run (fa0 n ps) (dec ts):=by
 have b:∀ j,j < (dec ts).length->Ch (j8 n kd ps pre ts j):=fun j _=>Ś n1 n6 hp j;have a:Byt (Ô n kd ps pre ts++bs):=Ŕ (ydm _) hb;have c:=yh1 a (υ (bt:=wb ts) _ b).1 (by rw [bj]; exact Nat.le_add_right _ _) List.take_left;rw [<- ur ts,Ù a b c _ (bp _)];unfold fX;rw [cy]
theorem vcm {x:Sn} {c b:Int} (h:Ok x) (hc:Ch c):(nar x c b).2.1 < 1099511627776:=by
 obtain ⟨a,e,d⟩:=yaz h.w0 h.w1 hc;have f:=h.w1;unfold nar ren
 (repeat' split) <;> (dsimp only at *; omega)
theorem ykm {n:Nat} {kd:Nat->Fin 3} {ps:Nat->List Int} {pre:List Int} (n1:1 <= n) (n6:n <= 6) (hp:ya6 pre):1 <= (Ô n kd ps pre ts).length:=by
 have e:=ur ts;obtain ⟨m,d⟩:∃ m,(dec ts).length=m+1:=⟨9 * ts.length,by omega⟩;unfold Ô;rw [yie,d];have a:∀ j,j < m+1->Ch (j8 n kd ps pre ts j):=fun j _=>Ś n1 n6 hp j;have g:=(υ (bt:=wb ts) m fun j k=>a j (by omega)).1;have c:=(υ (bt:=wb ts) (m+1) a).1;have i:(snK (j8 n kd ps pre ts) (wb ts) (m+1)).2.1 < 1099511627776:=vcm (x:=snK (j8 n kd ps pre ts) (wb ts) m) (b:=wb ts m) g.ok (a m (by omega));have h:=yho (Š c.ok);have l:=c.sz5;have f:pw (tK (snK (j8 n kd ps pre ts) (wb ts) (m+1))) < pw 5:=by rw [pw5]; omega
 have:=yzv f;omega
def ā (L:List (List Int)):List Int:=(L.map dec).flatten
theorem yak (L:List (List Int)) (t:List Int):ā (L++[t])=ā L++dec t:=by
 unfold ā;rw [bz,List.flatten_append];simp
theorem θ (L:List (List Int)):ya6 (ā L):=fun b a=>by
 unfold ā at a;obtain ⟨l,c,a⟩:=List.mem_flatten.mp a;obtain ⟨t,_,rfl⟩:=bq.mp c;exact ξ t b a
theorem yjd {A:FA} {X:FX} (hts:Sgs ts) (h1:X.sg=[]) (h2:X.nd=0):(X.run A (dec ts)).sg=[]/\(X.run A (dec ts)).nd=0:=by
 have a:∀ k,k <= (dec ts).length->TxE ts k (X.run A ((dec ts).take k)).sg (X.run A ((dec ts).take k)).nd:=by
  intro k
  induction k with
  | zero =>
   intro _;exact .inl ⟨bL _,by show ya3 _ _ X.sg X.nd; rw [h1,h2]; exact ya3.zero _⟩
  | succ k ih =>
   intro d;have b:(dec ts)[k]?=some ((dec ts)[k]'(by omega)):=bo _;rw [Û b];exact ((ih (by omega)).next hts b).2
 have e:=a _ (bp _);rw [cy] at e;have c:=ur ts;rcases e with ⟨h,_⟩ | ⟨_,h⟩
 .omega
 .exact h
def ytv (p:Addr) (A:FA) (O:Nat->Addr->Prop):Addr->Prop:=fun c=>c=p\/c=A.mp\/(∃ j,j < A.n/\c=A.bk j)\/(∃ j,j < A.n/\O j c)\/c=A.el
def FZ (K:W.Frag) (a:Ads) (H:Hp) (p:Addr) (n:Nat) (kd:Nat->Fin 3) (ps:Nat->List Int) (pre:List Int) (M:Nat) (W:Addr->Prop):Prop :=
 ∃ A f O m,ux K a H p A ((FX0 n kd).run (fa0 n ps) pre) f O m/\m <= M/\ytq H A/\A.n=n/\A.kd=kd/\A.ps=ps/\((FX0 n kd).run (fa0 n ps) pre).sg=[]/\((FX0 n kd).run (fa0 n ps) pre).nd=0/\∀ c,W c ↔ ytv p A O c
def vaw:HO->Bool
 | .ins _ _ _=>true
 | .dT _=>true
 | .dK _=>true
 | .frz _ (.dK _)=>true
 | _=>false
def vdr (o:Option HO):Prop:=(∃ ys,o=some (.lst ys))\/∃ ys,o=some (.tup ys)/\ys.length≠2
def WSh (H:Hp) (W:Addr->Prop):Prop:=∀ c,W c->∃ o,H c=some o/\(vaw o=true\/∃ xs,o=.lst xs/\∀ x∈xs,(∃ s,x=V.str s)\/x=V.non\/∃ q,x=V.ref q/\vdr (H q))
theorem yp5 {o:HO} (h:yn8 o=true):vaw o=true:=by
 cases o <;> first | rfl | cases h
section
variable {H H':Hp} {n:Nat} {kd:Nat->Fin 3} {ps:Nat->List Int} {pre:List Int} {M:Nat} {W:Addr->Prop}
theorem FZ.sh (h:FZ K a H p n kd ps pre M W):WSh H W:=fun c w=>by
 obtain ⟨A,f,O,m,d,_,_,_,_,_,r,_,e⟩:=h;rcases (e c).mp w with z | z | ⟨j,g,z⟩ | ⟨j,g,z⟩ | z
 .exists _,by rw [z]; exact d.me,.inl rfl
 .exists _,by rw [z]; exact d.mx.o,.inl rfl
 .exists _,by rw [z]; exact (d.B.b j g).me,.inl rfl
 .obtain ⟨o,q,k⟩:=(d.B.b j g).own c z;exists o,q,.inl (yp5 k)
 .have i:=d.el;rw [r] at i;exists _,by rw [z]; exact i,.inr ⟨_,rfl,fun x l=>by cases l⟩
theorem FZ.live (h:FZ K a H p n kd ps pre M W):∀ c,W c->∃ o,H c=some o:=fun c w=>let ⟨o,e,_⟩:=h.sh c w; ⟨o,e⟩
theorem FZ.same (h:FZ K a H p n kd ps pre M W) (S:yq H H'):FZ K a H' p n kd ps pre M W:=by
 obtain ⟨A,f,O,m,d,b,c,r⟩:=h;exists A,f,O,m,d.same S,b,c.same S,r
theorem FZ.up (h:FZ K a H p n kd ps pre M W) (hM:M <= M'):FZ K a H p n kd ps pre M' W:=by
 obtain ⟨A,f,O,m,c,b,r⟩:=h;exists A,f,O,m,c,bN b hM,r
theorem WSh.tup (h:WSh H W) {c:Addr} {xs:List V} (e:H c=some (.tup xs)):¬ W c:=fun w=>by
 obtain ⟨o,a,z | ⟨b,z,_⟩⟩:=h c w
 .rw [e] at a; cases a; cases z
 .rw [e,z] at a; cases a
theorem WSh.ints (h:WSh H W) {c:Addr} {ns:List Int} (e:H c=some (.lst (ns.map V.int))) (hn:1 <= ns.length):¬ W c:=fun w=>by
 obtain ⟨o,a,z | ⟨b,z,q⟩⟩:=h c w
 .rw [e] at a; cases a; cases z
 .rw [e,z] at a;cases a
  cases ns with
  | nil=>cases hn
  | cons x r=>rcases q (.int x) cu with ⟨_,z⟩ | z | ⟨_,z,_⟩ <;> cases z
theorem WSh.refs (h:WSh H W) {c:Addr} {g:Nat->Addr} {k:Nat} (e:H c=some (.lst (Law.refs g k))) (hk:1 <= k) (hg:¬ vdr (H (g 0))):¬ W c:=fun w=>by
 obtain ⟨o,a,z | ⟨f,z,q⟩⟩:=h c w
 .rw [e] at a; cases a; cases z
 .rw [e,z] at a;cases a;rcases q (.ref (g 0)) (bI (yhb hk)) with ⟨_,z⟩ | z | ⟨d,z,b⟩
  .cases z
  .cases z
  .cases z; exact hg b
theorem FZ.frame (h:FZ K a H p n kd ps pre M W) (sh:WSh H W2) (dj:∀ c,W c->¬ W2 c) (fr:∀ c o,H c=some o->¬ W2 c->H' c=some o):FZ K a H' p n kd ps pre M W:=by
 obtain ⟨A,f,O,m,d,L,s,T,Z,e3,Q,X,q⟩:=h;have k:=d.n1;obtain ⟨R,j⟩:=s.2.2
 have x:¬ W2 A.ll:=sh.refs s.1 k fun z=>by
  obtain ⟨G,e,u,_⟩:=j 0 k;cases e;rw [u] at z;rcases z with ⟨_,z⟩ | ⟨_,z,P⟩
  .cases z
  .cases z; exact P rfl
 have F:¬ W2 A.bl:=sh.refs d.bl k fun z=>by rw [(d.B.b 0 k).me] at z; rcases z with ⟨_,z⟩ | ⟨_,z,_⟩ <;> cases z
 have D:¬ W2 A.pl:=sh.refs d.pl k fun z=>by
  obtain ⟨_,⟨Y,hs⟩,_,_⟩:=d.slot k;obtain ⟨C,fs,U⟩:=ħ a Y (((FX0 n kd).run (fa0 n ps) pre).g 0 (((FX0 n kd).run (fa0 n ps) pre).key A 0));rw [hs,U] at z;rcases z with ⟨_,z⟩ | ⟨_,z,_⟩ <;> cases z
 have E:¬ W2 A.ml:=sh.ints d.mx.l (by rw [d.wok.len]; exact k);exists A,f,O,m,d.frame (O2:=W2) (fun c o e N=>fr c o e N) (dj _ ((q _).mpr (.inl rfl))) (dj _ ((q _).mpr (.inr (.inl rfl)))) (fun i r=>dj _ ((q _).mpr (.inr (.inr (.inl ⟨i,r,rfl⟩))))) (fun i c r w=>dj _ ((q _).mpr (.inr (.inr (.inr (.inl ⟨i,r,w⟩)))))) (fun l S y e=>fr _ _ e ?_) (fun t S e=>?_),L,⟨fr _ _ s.1 x,s.2.1,R,fun i r=>?_⟩,T,Z,e3,Q,X,q
 .rcases y with z | z | z | z
  .rw [z]; exact F
  .rw [z]; exact dj _ ((q _).mpr (.inr (.inr (.inr (.inr rfl)))))
  .rw [z]; exact E
  .rw [z]; exact D
 .rcases e with (e | ⟨o,e⟩) | e
  .exact .inl (.inl (fr _ _ e (sh.tup e)))
  .refine .inl (.inr ⟨o,fr _ _ e fun w=>?_⟩);obtain ⟨o',v,z | ⟨ys,z,_⟩⟩:=sh t w
   .rw [e] at v; cases v; cases z
   .rw [e,z] at v; cases v
  .exact .inr e
 .obtain ⟨G,z,u,I,J⟩:=j i r;exists G,z,fr _ _ u (sh.tup u),fr _ _ I (sh.tup I),J
theorem FZ.went {A:FA} {f f':Nat->List Int->Option Slt} {m:Nat} {X:FX} {ml el pl:Addr} {sl:Nat->Addr} (hF:ux K a H p A ((FX0 A.n A.kd).run (fa0 A.n A.ps) pre) f O m) (hl:ytq H A) (hX:X=(FX0 A.n A.kd).run (fa0 A.n A.ps) (pre++dec ts)) (hts:Sgs ts) (h4:((FX0 A.n A.kd).run (fa0 A.n A.ps) pre).sg=[]) (h5:((FX0 A.n A.kd).run (fa0 A.n A.ps) pre).nd=0)
  (hF':ux K a H' p (A.re ml el pl sl) X f' O' m') (go:FGo p A O H H' el O') (e6:∀ c,W c ↔ ytv p A O c):FZ K a H' p A.n A.kd A.ps (pre++dec ts) m' (ytv p (A.re ml el pl sl) O')/\Go W H H' (ytv p (A.re ml el pl sl) O'):=by
 subst hX;have h:=go.kpa hF;have d:=yjd (A:=fa0 A.n A.ps) hts h4 h5;exists ⟨_,f',O',m',hF',bp _,⟨(h _ _ hl.1 rfl hl.2.1).2,(h _ _ hl.1 rfl hl.2.1).1,?_⟩,rfl,rfl,rfl,by rw [Ê]; exact d.1,by rw [Ê]; exact d.2,fun c=>Iff.rfl⟩,⟨fun c o e x=>?_,fun c w=>?_,go.live⟩
 .obtain ⟨B,r⟩:=hl.2.2;exists B,fun i u=>?_;obtain ⟨s,z,l,k,t⟩:=r i u;have q:∀ {c:Addr} {xs:List V},H c=some (.tup xs)->c≠A.el:=fun e z=>by rw [z,hF.el] at e; cases e
  exists s,z,(h _ _ l rfl (q l)).2,(h _ _ k rfl (q k)).2,t
 .have b:¬ ytv p A O c:=fun w=>x ((e6 c).mpr w);exact go.fr c o e (fun z=>b (.inl z)) (fun z=>b (.inr (.inl z))) (fun z=>b (.inr (.inr (.inr (.inr z))))) fun j g w=>b (.inr (.inr (.inr (.inl ⟨j,g,w⟩))))
 .rcases w with z | z | ⟨j,g,z⟩ | ⟨j,g,z⟩ | z
  .exact .inl ((e6 c).mpr (.inl z))
  .exact .inl ((e6 c).mpr (.inr (.inl z)))
  .exact .inl ((e6 c).mpr (.inr (.inr (.inl ⟨j,g,z⟩))))
  .rcases go.hO j c g z with v | v
   .exact .inl ((e6 c).mpr (.inr (.inr (.inr (.inl ⟨j,g,v⟩)))))
   .exact .inr v
  .rcases go.he with y | y
   .exact .inl ((e6 c).mpr (.inr (.inr (.inr (.inr (show c=A.el from Eq.trans z y))))))
   .exact .inr (by rw [show c=el from z]; exact y)
theorem FZ.read {Q:VK} {E:XK} {dt:Addr} {bs:List Int} {mo:Nat} (h:FZ K a H p n kd ps pre M W) (hb:ya6 pre) (hts:Sgs ts) (hdt:H dt=some (.lst ((Ô n kd ps pre ts++bs).map V.int))) (ndt:¬ W dt) (hbs:Byt bs) (hdl:(Ô n kd ps pre ts++bs).length <= 12000) (hz:ts.length <= mo) (hmo:mo <= 1000) (hM:M+54 * mo+200 < 1000000)
  (k:∀ t r W' H',H t=none->H r=none->H' t=some (.tup [.ref r,.int ((Ô n kd ps pre ts).length:Nat)])->H' r=some (.lst (ts.map V.int))->FZ K a H' p n kd ps (pre++dec ts) (M+6 * (dec ts).length) W'->Go W H H' W'->¬ W' r->Q (.ref t) H'):yae K a [.ref p,.ref dt,.int mo] H Q E:=by
 obtain ⟨A,f,O,m,l,hm,hl,rfl,rfl,rfl,P,R,U⟩:=h;obtain ⟨q,C,G⟩:=yjz (kd:=A.kd) (ps:=A.ps) (pre:=pre) (bs:=bs) l.n1 l.n6 hb hts hbs;have D:Byt (Ô A.n A.kd A.ps pre ts++bs):=Ŕ (ydm _) hbs;exists p,A,_,f,O,m,dt,_,mo,rfl,l,hdt,fun z=>ndt ((U _).mpr (.inr (.inr (.inr (.inr z))))),D,hdl,hmo,by omega,by rw [R]; decide,by rw [P]; exact bL _,fun N t r F O' H' hN i v J s d S c=>?_,fun x F O' H' S=>?_
 .rw [ROk.fa0] at i;obtain rfl:N=ts.length:=q.uniq i.b1 i.b0;rw [yoo] at s;rw [yqs] at d;have s:H' t=some (.tup [.ref r,.int (rTL (fa0 A.n A.ps) (Ô A.n A.kd A.ps pre ts++bs) (rS A.n A.kd A.ps pre) ts.length)]):=s;have d:H' r=some (.lst ((rtx (fa0 A.n A.ps) (Ô A.n A.kd A.ps pre ts++bs) (rS A.n A.kd A.ps pre) ts.length).map V.int)):=d;rw [G] at s;rw [C] at d;obtain ⟨u,Y,L,T,f',c⟩:=c;have I:=ur ts
  have Z:(rst A (Ô A.n A.kd A.ps pre ts++bs) ((FX0 A.n A.kd).run (fa0 A.n A.ps) pre,s0) (9 * ts.length+1)).1=(FX0 A.n A.kd).run (fa0 A.n A.ps) (pre++dec ts):=by
   rw [jy,Ê];exact yol l.n1 l.n6 hb hbs
  obtain ⟨z,g⟩:=FZ.went l hl Z hts P R c S U;refine k t r _ H' v J s d (z.up (by omega)) g fun w=>?_;rcases w with w | w | ⟨j,y,w⟩ | ⟨j,y,w⟩ | w
  .have e:=c.me;rw [<- w,d] at e;cases e
  .have e:=c.mx.o;rw [show r=(A.re Y F L T).mp from w] at d;rw [d] at e;cases e
  .have e:=(c.B.b j y).me;rw [show r=(A.re Y F L T).bk j from w] at d;rw [d] at e;cases e
  .obtain ⟨o,X,hi⟩:=(c.B.b j y).own _ w;rw [d] at X;cases X;cases hi
  .exact u w
 .exact (x ts.length hz (by rw [ROk.fa0]; exact q)).elim
theorem FZ.press {Q:VK} {E:XK} {tx:Addr} (h:FZ K a H p n kd ps pre M W) (htx:Ì H tx ts 1000) (ntx:¬ W tx) (hM:M+6 * (dec ts).length+20 < 1000000)
  (k:∀ r W' H',H r=none->H' r=some (.lst ((Ô n kd ps pre ts).map V.int))->FZ K a H' p n kd ps (pre++dec ts) (M+6 * (dec ts).length) W'->Go W H H' W'->Q (.ref r) H'):yc2 K a [.ref p,.ref tx] H Q E:=by
 obtain ⟨A,f,O,m,d,x,w,rfl,rfl,rfl,i,l,o⟩:=h;exists p,A,_,f,O,m,tx,ts,rfl,d,i,l,htx,fun z=>ntx ((o _).mpr (.inr (.inr (.inr (.inr z))))),by omega,fun r I C y D G F B H' c t b q v=>?_
 have u:((FX0 A.n A.kd).run (fa0 A.n A.ps) pre).run A (dec ts)=(FX0 A.n A.kd).run (fa0 A.n A.ps) (pre++dec ts):=by rw [Ê]; exact yca A _ _
 obtain ⟨z,g⟩:=FZ.went d w u htx.s i l b v o;refine k r _ H' c ?_ (z.up (by omega)) g;rw [t];have e:snK (yfk A ((FX0 A.n A.kd).run (fa0 A.n A.ps) pre) ts) (wb ts) (dec ts).length=snK (j8 A.n A.kd A.ps pre ts) (wb ts) (dec ts).length:=yab _ fun j _=>⟨by unfold j8 yfk fX; rw [yca A]; rfl,rfl⟩;rw [e];rfl
end
def nmL (L:List (Str × List Int)):List V:=L.map fun x=>V.str x.1
def yck (H:Hp) (U:Addr->Prop):List (Str × List Int)->List V->Prop
 | [],ks=>ks=[]
 | x :: r,ks=>∃ k ks',ks=k :: ks'/\(k=.non\/∃ q,k=.ref q/\H q=some (.lst (x.2.map V.int))/\¬ U q)/\yck H U r ks'
theorem yck.len {H:Hp} :∀ {L:List (Str × List Int)} {ks:List V},yck H U L ks->ks.length=L.length
 | [],_,h=>by rw [show _=_ from h]; rfl
 | _ :: r,_,⟨_,_,e,_,h⟩=>by rw [e,bK,bK,h.len]
theorem yck.mono {H H':Hp} (f:∀ q xs,H q=some (.lst xs)->¬ U q->H' q=some (.lst xs)/\¬ U' q):∀ {L:List (Str × List Int)} {ks:List V},yck H U L ks->yck H' U' L ks
 | [],_,h=>h
 | _ :: _,_,⟨k,ks',e,z,h⟩=>⟨k,ks',e,z.imp id fun ⟨q,e,b,a⟩=>⟨q,e,f q _ b a⟩,h.mono f⟩
theorem yck.snoc {H:Hp} {nm:Str} {t:List Int} {k:V} (hk:k=.non\/∃ q,k=.ref q/\H q=some (.lst (t.map V.int))/\¬ U q):∀ {L:List (Str × List Int)} {ks:List V},yck H U L ks->yck H U (L++[(nm,t)]) (ks++[k])
 | [],_,h=>by rw [show _=_ from h]; exists k,[],rfl,hk,rfl
 | _ :: _,_,⟨k',ks',e,z,h⟩=>⟨k',ks'++[k],by rw [e]; rfl,z,h.snoc hk⟩
theorem yck.mem {H:Hp} :∀ {L:List (Str × List Int)} {ks:List V},yck H U L ks->∀ x∈ks,x=.non\/∃ q ys,x=.ref q/\H q=some (.lst ys)/\¬ U q
 | [],_,h,x,hx=>by rw [show _=_ from h] at hx; cases hx
 | _ :: _,_,⟨k,ks',e,z,h⟩,x,hx=>by
  rw [e] at hx;rcases bB.mp hx with y | y
  .rw [y];exact z.imp id fun ⟨q,e,b,a⟩=>⟨q,_,e,b,a⟩
  .exact h.mem x y
def ChW (ll tl:Addr) (W:Addr->Prop):Addr->Prop:=fun c=>c=ll\/c=tl\/W c
structure Â (K:W.Frag) (a:Ads) (H:Hp) (c dc p ll tl:Addr) (n:Nat) (kd:Nat->Fin 3) (ps:Nat->List Int) (L:List (Str × List Int)) (ks:List V) (M:Nat) (W:Addr->Prop):Prop where
 me:H c=some (.ins a.A1 dc (x8 (.ref p) (.ref ll) (.ref tl)))
 fz:FZ K a H p n kd ps (ā (L.map (·.2))) M W
 hl:H ll=some (.lst (nmL L))
 ht:H tl=some (.lst ks)
 tx:yck H (ChW ll tl W) L ks
 nc:¬ W c
 nll:¬ W ll
 ntl:¬ W tl
 ne:ll≠tl
theorem FZ.new {H:Hp} {dp l:Addr} {n:Nat} {lk:Nat->Addr} {kd:Nat->Fin 3} {ps:Nat->List Int} {Q:VK} {E:XK} (np:H p=none) (ndp:H dp=none) (hl:H l=some (.lst (refs lk n))) (n1:1 <= n) (n6:n <= 6) (r:xl H n lk kd tp ps)
  (k:∀ W H',FZ K a H' p n kd ps [] 6 W->(∀ c,W c->H c=none)->yq H H'->(∀ y xs H'',H y=some (.lst xs)->But y H' H''->FZ K a H'' p n kd ps [] 6 W)->Q .non H'):Ŏ K a [.ref p,.ref l] (upd (upd H dp (.own p)) p (.ins a.A2 dp [])) Q E:=by
 have d:yq H (upd (upd H dp (.own p)) p (.ins a.A2 dp [])):=fun b o e=>by rw [yk (yb e np),yk (yb e ndp)]; exact e
 exists p,dp,.ref l,rfl,ya,.inr ⟨l,n,lk,kd,tp,ps,rfl,d _ _ hl,n1,n6,r.same d,fun A f O F Y Z=>?_⟩;have v:yq H F:=fun b o e=>Z b o (d b o e) (yb e np);obtain ⟨u,rfl,rfl,rfl,rfl,N,L,T,P,q,h,G⟩:=Y;refine k (ytv p A O) F ⟨A,f,O,6,u,bp _,⟨q,h,tp,r.same v⟩,rfl,rfl,rfl,rfl,rfl,fun c=>Iff.rfl⟩ (fun c w=>?_) v (fun y xs H2 R b=>?_)
 .rcases w with z | z | ⟨j,J,z⟩ | ⟨j,J,z⟩ | z
  .rw [z]; exact np
  .rw [z]; exact d.free T
  .rw [z]; exact d.free (L j J)
  .exact d.free (N j c J z)
  .exact d.free (P c (.inr (.inl z)))
 .have g:∀ {x:Addr},H x=none->x≠y:=fun {x} e z=>by rw [z,R] at e; cases e
  have s:=v _ _ R;have D:∀ {x:Addr} {B:List V},F x=some (.tup B)->x≠y:=fun {x B} e z=>by rw [z,s] at e; cases e
  exists A,f,O,6,u.frame (O2:=fun c=>c=y) (fun c o e X=>b c o e X) (g np) (g (d.free T)) (fun i m=>g (d.free (L i m))) (fun i c m w=>g (d.free (N i c m w))) (fun l B I e=>b _ _ e (g (d.free (P l I)))) (fun t B e=>?_),bp _,⟨b _ _ q (g (d.free G)),h,tp,fun i m=>?_⟩,rfl,rfl,rfl,rfl,rfl,fun c=>Iff.rfl
  .rcases e with (e | ⟨o,e⟩) | e
   .exact .inl (.inl (b _ _ e (D e)))
   .exact .inl (.inr ⟨o,b _ _ e (fun z=>by rw [z,s] at e; cases e)⟩)
   .exact .inr e
  .obtain ⟨C,e,S,M,U⟩:=r.same v i m;exists C,e,b _ _ S (D S),b _ _ M (D M),U
@[irreducible] def yly (c:Nat):Bool:=!(Builtin.Str.occurrences "abcdefghijklmnopqrstuvwxyz" ⟨#[c]⟩ 0 (Str.length "abcdefghijklmnopqrstuvwxyz") 1).isEmpty
def nmS (x:Str):Bool:=decide (1 <= (x.length:Int)) && (decide ((x.length:Int) <= 8) && x.cps.toList.all yly)
def nmV:V->Bool
 | .str x=>nmS x
 | _=>false
theorem ypm (x:Str):(List.range x.cps.size).map (fun i=>V.bl (yly (x.cps.toList.getD i 0)))=(x.cps.toList.map yly).map V.bl:=by
 rw [bS];refine List.ext_getElem? fun i=>?_;rw [br,br];by_cases hi:i < x.cps.size
 .rw [cD hi,bo (by rw [cC]; exact hi),cB,cB,cL,bo (by rw [cC]; exact hi),Option.getD_some,Function.comp_apply]
 .rw [bV (by rw [bU]; omega),bV (by rw [cC]; omega),Option.map_none,Option.map_none]
theorem yzk {x:Str} (h1:(1:Int) <= (x.length:Int)) (h8:(x.length:Int) <= 8):nmV (.str x)=(x.cps.toList.map yly).all id:=by
 have e:nmV (.str x)=nmS x:=by unfold nmV; rfl
 rw [e];unfold nmS;rw [bx h1,bx h8,List.all_map,Function.id_comp,Bool.true_and,Bool.true_and]
theorem yt1 {x:Str} (h8:¬ (x.length:Int) <= 8):nmV (.str x)=false:=by
 have e:nmV (.str x)=nmS x:=by unfold nmV; rfl
 rw [e];unfold nmS;rw [bA h8,Bool.false_and,Bool.and_false]
theorem yua {x:Str} (h1:¬ (1:Int) <= (x.length:Int)):nmV (.str x)=false:=by
 have e:nmV (.str x)=nmS x:=by unfold nmV; rfl
 rw [e];unfold nmS;rw [bA h1,Bool.false_and]
theorem yvf {x:V} (h:nmV x=true):∃ b,x=.str b/\nmS b=true:=by
 cases x with
 | str b=>exact ⟨b,rfl,h⟩
 | _=>cases h
theorem zn {x:Str} (h:nmS x=true):x.length <= 8:=by
 unfold nmS at h;simp only [bO,decide_eq_true_eq] at h;have:=h.2.1;omega
def smS:Str:=Str.ofString "abcdefghijklmnopqrstuvwxyz"
theorem yay:smS.length=26:=by right
theorem yxf:∀ i,i < 26->smS.cps[i]?=some (97+i):=by right
theorem yi4 {i:Int} (h0:0 <= i) (h1:i < 26):smS.cps[i.toNat]?=some (97+i.toNat):=yxf _ (by omega)
theorem yy2:∀ i,i < 26->yly (97+i)=true:=by right
def ĭ (l:List Nat):Prop:=∀ c,c∈l->97 <= c/\c < 123
theorem ĭ.app {l m:List Nat} (h:ĭ l) (g:ĭ m):ĭ (l++m):=fun c a=>(bP.mp a).elim (h c) (g c)
theorem ĭ.one {c:Nat} (h:97 <= c/\c < 123):ĭ [c]:=fun d a=>by rw [bJ.mp a]; exact h
theorem ĭ.take {l:List Nat} (h:ĭ l) (k:Nat):ĭ (l.take k):=fun c a=>h c (List.mem_of_mem_take a)
theorem ĭ.drop {l:List Nat} (h:ĭ l) (k:Nat):ĭ (l.drop k):=fun c a=>h c (List.mem_of_mem_drop a)
theorem yz1 {x:Str} (h:ĭ x.cps.toList) (h1:1 <= x.cps.toList.length) (h8:x.cps.toList.length <= 8):nmS x=true/\PyData.strOk x=true:=by
 have e:x.length=x.cps.toList.length:=by simp [Str.length]
 exists ?_,?_
 .unfold nmS;rw [bx (by omega),bx (by omega),Bool.true_and,Bool.true_and,List.all_eq_true];intro c a;obtain ⟨d,b⟩:=h c a;have:=yy2 (c - 97) (by omega)
  rwa [show 97+(c - 97)=c by omega] at this
 .unfold PyData.strOk;rw [<- Array.all_toList,List.all_eq_true];intro c a;obtain ⟨d,b⟩:=h c a;exact bx (by omega)
theorem zk (x y:Str):(x++y).cps.toList=x.cps.toList++y.cps.toList:=by rw [PySem.Str.cps_append,Array.toList_append]
theorem É (x:Str):x.length=x.cps.toList.length:=by simp [Str.length]
def ylt (z:Str) (j:Nat) (c:Nat):Str:=Txt.slice z none (some (j:Int))++⟨#[c]⟩++Txt.slice z (some (j:Int)) none
theorem ν {z:Str} {c:Nat} (hj:j <= z.length):(ylt z j c).cps.toList=z.cps.toList.take j++[c]++z.cps.toList.drop j:=by
 unfold ylt;rw [zk,zk,yk5 hj,yei hj]
theorem yop {z:Str} {c:Nat} (hj:j <= z.length) (hz:ĭ z.cps.toList) (hc:97 <= c/\c < 123) (h7:z.length <= 7):nmS (ylt z j c)=true/\PyData.strOk (ylt z j c)=true:=by
 have e:=É z;refine yz1 ?_ ?_ ?_
 .rw [ν hj];exact ((hz.take j).app (.one hc)).app (hz.drop j)
 .rw [ν hj]; simp; omega
 .rw [ν hj,bj,bj,bX,cM,cF]; omega
theorem ykc {z:Str} {c d:Nat} (hj:j <= z.length) (e:ylt z j c=ylt z j d):c=d:=by
 have h:=congrArg (fun x:Str=>x.cps.toList) e;simp only [ν hj] at h;rw [bR,bR] at h;have a:=List.append_cancel_left h;simp at a;exact a
theorem yfs {z:Str} (hj:j <= z.length) (o m:Nat):((List.range m).map fun i=>ylt z j (97+o+i)).Nodup :=
 List.Pairwise.map (R:=fun a b=>a≠b) _ (fun a b h e=>h (by have:=ykc hj e; omega)) List.nodup_range
theorem ð {H:Hp}:∀ ns:List Str,yfe K H (ns.map V.str) (ns.map PyData.str)
 | []=>.nil
 | n :: r=>.cons (.str n) (ð r)
theorem ç:∀ ns:List Str,(∀ x,x∈ns->PyData.strOk x=true)->PyData.canLayAll0 (ns.map PyData.str)=true
 | [],_=>rfl
 | x :: r,h=>by simp [PyData.canLayAll0,PyData.canLay0,h x cu,ç r fun y a=>h y (cc _ a)]
theorem Ĕ:∀ ns:List Str,PyData.depthAll (ns.map PyData.str)=0
 | []=>rfl
 | _ :: r=>by simp [PyData.depthAll,PyData.depth,Ĕ r]
theorem å (ns:List Str) (h:∀ x,x∈ns->PyData.strOk x=true):SeqAt.shaped (.list (ns.map PyData.str))=true:=by
 simp [SeqAt.shaped,PyData.canLay0,PyData.depth,ç ns h,Ĕ]
theorem é:∀ ns ms:List Str,PyData.eqvAll (ns.map PyData.str) (ms.map PyData.str)=decide (ns=ms)
 | [],[]=>by simp [PyData.eqvAll]
 | [],_ :: _=>by simp [PyData.eqvAll]
 | _ :: _,[]=>by simp [PyData.eqvAll]
 | a :: r,b :: t=>by
  simp only [bW,PyData.eqvAll,PyData.eqv,é r t];by_cases h:a=b <;> by_cases h':r=t <;> simp [h,h']
theorem ymo {g:Bool->Bool} {H:Hp} {Q:VK} {a b:Addr} (ns ms:List Str) (hn:∀ x,x∈ns->PyData.strOk x=true) (hm:∀ x,x∈ms->PyData.strOk x=true) (ha:SqL K H a (ns.map V.str)) (hb:SqL K H b (ms.map V.str)) (h:Q (.bl (g (decide (ns=ms)))) H):vax K g (.ref a) (.ref b) H Q :=
 ⟨_,_,.lst ha (ð ns),.lst hb (ð ms),å ns hn,å ms hm,by rw [PyData.eqv,é]; exact h⟩
structure Pc where
 nm:Str
 bs:Option Str
 path:List (Str × List Int)
 tx:List Int
 ob:Addr
 od:Addr
 dl:Addr
def baV:Option Str->V
 | none=>.non
 | some b=>.str b
def Pc.by (n:Nat) (kd:Nat->Fin 3) (ps:Nat->List Int) (q:Pc):List Int:=Ô n kd ps (ā (q.path.map (·.2))) q.tx
def pcs (P:List Pc):List (Key × V):=P.map fun q=>(.inr q.nm,.ref q.ob)
def To (P:List Pc):Option Str->List (Str × List Int)->Prop
 | none,L=>L=[]
 | some b,L=>∃ r,r∈P/\r.nm=b/\L=r.path++[(b,r.tx)]
structure Į (a:Ads) (H:Hp) (d:Addr) (n:Nat) (kd:Nat->Fin 3) (ps:Nat->List Int) (w:Nat) (P:List Pc):Prop where
 dk:H d=some (.dK (pcs P))
 ob:∀ q,q∈P->H q.ob=some (.ins a.A6 q.od (z6 (baV q.bs) (.ref q.dl)))/\H q.dl=some (.lst ((q.by n kd ps).map V.int))
 nd:(P.map (·.nm)).Nodup
 wf:∀ q,q∈P->To P q.bs q.path
 sz:∀ q,q∈P->Sgs q.tx/\q.tx.length <= w/\q.path.length <= 60/\(∀ x,x∈q.path->Sgs x.2/\x.2.length <= w)
 z:P.length <= 60
 nm:∀ q,q∈P->nmS q.nm=true/\PyData.strOk q.nm=true
theorem yim:∀ {P:List Pc} {r:Pc},(P.map (·.nm)).Nodup->r∈P->zz (pcs P) (.inr r.nm)=some (.ref r.ob)
 | q :: P,r,hn,hr=>by
  have a:=cA.mp hn;by_cases e:q.nm=r.nm
  .rcases bB.mp hr with z | z
   .subst z;unfold zz pcs;rw [bW,List.find?_cons_of_pos (by simp)];rfl
   .exact absurd (bq.mpr ⟨r,z,e.symm⟩) a.1
  .rcases bB.mp hr with z | z
   .exact absurd (by rw [z]) e
   .unfold zz pcs;rw [bW,List.find?_cons_of_neg (by simpa using e)];exact yim a.2 z
theorem yn2 {P:List Pc} {x:Str} (h:∀ q,q∈P->q.nm≠x):zz (pcs P) (.inr x)=none:=by
 unfold zz pcs;rw [List.find?_eq_none.mpr fun y b=>?_]
 .rfl
 .obtain ⟨q,a,e⟩:=bq.mp b;rw [<- e];simpa using h q a
theorem Į.same {H H':Hp} {d:Addr} {n:Nat} {kd:Nat->Fin 3} {ps:Nat->List Int} {w:Nat} {P:List Pc} (h:Į a H d n kd ps w P) (S:yq H H'):Į a H' d n kd ps w P :=
 ⟨S _ _ h.dk,fun q b=>⟨S _ _ (h.ob q b).1,S _ _ (h.ob q b).2⟩,h.nd,h.wf,h.sz,h.z,h.nm⟩
theorem ype (x:Str) (t:List Int) (S:List (Str × List Int)):(nmL ((x,t) :: S)).reverse=(nmL S).reverse++[.str x]:=by
 unfold nmL;rw [bW,List.reverse_cons]
theorem To.len {H:Hp} {d:Addr} {n:Nat} {kd:Nat->Fin 3} {ps:Nat->List Int} {w:Nat} {P:List Pc} (h:Į a H d n kd ps w P) (t:To P x L):L.length <= 61:=by
 cases x with
 | none=>rw [show L=[] from t]; exact bL _
 | some b =>
  obtain ⟨r,c,_,e⟩:=t;have:=(h.sz r c).2.2.1;rw [e,bj,cF];omega
theorem Į.get {H:Hp} {d:Addr} {n:Nat} {kd:Nat->Fin 3} {ps:Nat->List Int} {w:Nat} {P:List Pc} {r:Pc} (h:Į a H d n kd ps w P) (hr:r∈P):Ó H d (.str r.nm) (some (.ref r.ob)):=by
 rw [<- yim h.nd hr];exact Ó.k (k:=.inr r.nm) h.dk
theorem vae:∀ {P:List Pc} {q r:Pc},(P.map (·.nm)).Nodup->q∈P->r∈P->q.nm=r.nm->q=r
 | x :: P,q,r,hn,hq,hr,e=>by
  have a:=cA.mp hn;rcases bB.mp hq with z | z <;> rcases bB.mp hr with y | y
  .rw [z,y]
  .exact absurd (bq.mpr ⟨r,y,by rw [<- e,z]⟩) a.1
  .exact absurd (bq.mpr ⟨q,z,by rw [e,y]⟩) a.1
  .exact vae a.2 z y e
theorem To.uniq {P:List Pc} (hn:(P.map (·.nm)).Nodup) (h:To P x L) (g:To P x M):L=M:=by
 cases x with
 | none=>rw [show L=[] from h,show M=[] from g]
 | some b =>
  obtain ⟨r,c,i,e⟩:=h;obtain ⟨q,d,a,f⟩:=g;obtain rfl:=vae hn c d (i.trans a.symm);rw [e,f]
theorem To.pre {P:List Pc} (wf:∀ q,q∈P->To P q.bs q.path) {b:Str} {t:List Int} {A:List (Str × List Int)}:∀ (m:Nat) {x:Option Str} {B:List (Str × List Int)},B.length <= m->To P x (A++[(b,t)]++B)->To P (some b) (A++[(b,t)])
 | m,none,B,_,h=>by
  have e:=congrArg List.length (show A++[(b,t)]++B=[] from h);rw [bj,bj] at e;simp at e
 | m,some c,B,hm,⟨r,hr,e1,e2⟩=>by
  rcases List.eq_nil_or_concat B with z | ⟨i,y,z⟩
  .subst z;rw [List.append_nil] at e2;have a:=List.append_inj' e2 rfl;obtain ⟨f,g⟩:=a;cases g;exists r,hr,e1,by rw [f]
  .subst z;rw [List.concat_eq_append] at e2 hm;rw [<- bR] at e2;have a:=(List.append_inj' e2 rfl).1
   cases m with
   | zero=>rw [bj] at hm; simp at hm
   | succ m =>
    have d:=wf r hr;rw [<- a] at d;exact To.pre wf m (by rw [bj,cF] at hm; omega) d
theorem To.ahead {P:List Pc} (hn:(P.map (·.nm)).Nodup) (wf:∀ q,q∈P->To P q.bs q.path) {y:Option Str} (h:To P x L) (g:To P y M) (e:nmL L=(nmL M).take L.length):L=M.take L.length:=by
 cases x with
 | none=>rw [show L=[] from h]; rfl
 | some b =>
  obtain ⟨r,m,o,d⟩:=id h;have n:L.length=r.path.length+1:=by rw [d,bj,cF]
  have c:=congrArg List.length e;unfold nmL at c;rw [bX,bf,bf] at c;have a:r.path.length < M.length:=by omega
  have j:M=M.take r.path.length++[M[r.path.length]]++M.drop (r.path.length+1):=by
   rw [bR,List.singleton_append,<- List.drop_eq_getElem_cons a,List.take_append_drop]
  have i:(M[r.path.length]).1=b:=by
   have z:=congrArg (fun l=>l[r.path.length]?) e;unfold nmL at z;simp only [br,List.getElem?_take] at z;rw [if_pos (by omega),d,cb (bp _),Nat.sub_self,bo a] at z;simp at z;exact z.symm
  have g2:=g;rw [j] at g2;have f:M[r.path.length]=(b,(M[r.path.length]).2):=by rw [<- i]
  rw [f] at g2;have g3:=To.pre wf _ (bp _) g2;have k:=To.uniq hn h g3;rw [k,<- f,<- bZ a]
  congr 1
  rw [bX];omega
theorem Į.getNo {H:Hp} {d:Addr} {n:Nat} {kd:Nat->Fin 3} {ps:Nat->List Int} {w:Nat} {P:List Pc} {x:Str} (h:Į a H d n kd ps w P) (hx:∀ q,q∈P->q.nm≠x):Ó H d (.str x) none:=by
 rw [<- yn2 hx];exact Ó.k (k:=.inr x) h.dk
theorem yz4 (P:List Pc) (b:Str):(∃ r,r∈P/\r.nm=b)\/∀ q,q∈P->q.nm≠b:=by
 by_cases h:∃ r,r∈P/\r.nm=b
 .exact .inl h
 .exact .inr fun q a e=>h ⟨q,a,e⟩
theorem To.sz {H:Hp} {d:Addr} {n:Nat} {kd:Nat->Fin 3} {ps:Nat->List Int} {w:Nat} {P:List Pc} (h:Į a H d n kd ps w P) (t:To P x L):∀ y,y∈L->Sgs y.2/\y.2.length <= w:=by
 cases x with
 | none=>intro y c; rw [show L=[] from t] at c; cases c
 | some b =>
  obtain ⟨r,f,_,e⟩:=t;obtain ⟨g,j,_,i⟩:=h.sz r f;intro y c;rw [e] at c;rcases bP.mp c with z | z
  .exact i y z
  .rw [bJ.mp z];exists g,j
theorem To.at' {P:List Pc} (wf:∀ q,q∈P->To P q.bs q.path) (t:To P x L) (hj:j < L.length):∃ r,r∈P/\L[j]=(r.nm,r.tx)/\r.path=L.take j/\To P (some r.nm) (L.take (j+1)):=by
 have f:L=L.take j++[(L[j].1,L[j].2)]++L.drop (j+1):=by
  rw [bR,List.singleton_append,<- List.drop_eq_getElem_cons hj,List.take_append_drop]
 rw [f] at t;have a:=To.pre wf _ (bp _) t;obtain ⟨r,e,b,g⟩:=id a;obtain ⟨d,c⟩:=List.append_inj' g rfl
 cases r with | mk nm bs path tx ob od dl =>
 simp only at b d c;subst b;have h:L[j].2=tx:=by cases c; rfl
 exists _,e,?_,d.symm,?_
 .show L[j]=(L[j].1,tx); rw [<- h]
 .rw [bZ hj]; exact a
theorem To.nms {P:List Pc} (wf:∀ q,q∈P->To P q.bs q.path) (t:To P x L) {y:Str × List Int} (hy:y∈L):∃ r,r∈P/\r.nm=y.1:=by
 obtain ⟨j,b,e⟩:=List.mem_iff_getElem.mp hy;obtain ⟨r,c,a,_⟩:=t.at' wf b;exists r,c,by rw [<- e,a]
theorem To.ok {H:Hp} {d:Addr} {n:Nat} {kd:Nat->Fin 3} {ps:Nat->List Int} {w:Nat} {P:List Pc} (h:Į a H d n kd ps w P) (t:To P x L):∀ y,y∈L.map (·.1)->PyData.strOk y=true:=fun y c=>by
 obtain ⟨u,b,rfl⟩:=bq.mp c;obtain ⟨r,f,e⟩:=t.nms h.wf b;rw [<- e];exact (h.nm r f).2
theorem ö (L:List (Str × List Int)):nmL L=(L.map (·.1)).map V.str:=by
 unfold nmL;rw [bS];rfl
theorem ycp (L:List (Str × List Int)) (k:Nat):(nmL L).take k=nmL (L.take k):=by
 unfold nmL;rw [List.map_take]
theorem ŝ (L:List (Str × List Int)):(nmL L).length=L.length:=bf _
theorem yui (h:L.map (·.1)=M.map (·.1)):nmL L=nmL M:=by rw [ö,ö,h]
theorem ydc {w:Nat}:∀ L:List (List Int),(∀ x,x∈L->x.length <= w)->(ā L).length <= L.length * (9 * w+1)
 | [],_=>bL _
 | t :: L,h=>by
  have e:ā (t :: L)=dec t++ā L:=rfl;have d:=h t cu;have c:=ydc L fun x a=>h x (cc _ a);have b:=ur t;rw [e,bj,bK,Nat.succ_mul];omega
def mOf (L:List (Str × List Int)):Nat:=6+6 * (ā (L.map (·.2))).length
def NK (H:Hp) (ks ks':List V):Prop:=∀ q,V.ref q∈ks'->V.ref q∈ks\/H q=none
theorem NK.refl {H:Hp} {ks:List V}:NK H ks ks:=fun _ h=>.inl h
theorem NK.nil {H:Hp} {ks:List V}:NK H ks []:=fun _ h=>nomatch h
theorem NK.trans {H H1:Hp} {k1 k2 k3:List V} (h:NK H k1 k2) (g:NK H1 k2 k3) (f:∀ q,H1 q=none->H q=none):NK H k1 k3:=fun q a=>(g q a).elim (h q) fun z=>.inr (f q z)
theorem NK.app {H:Hp} {ks ks':List V} {v:V} (h:NK H ks ks') (g:∀ q,v=.ref q->H q=none):NK H ks (ks'++[v]):=fun q a=>(bP.mp a).elim (h q) fun z=>.inr (g q (bJ.mp z).symm)
def StW (c cl ct:Addr) (U:Addr->Prop):Addr->Prop:=fun x=>x=c\/ChW cl ct U x
structure j7 (K:W.Frag) (a:Ads) (H:Hp) (st ds ll d c dc p cl ct:Addr) (lk tp:Nat->Addr) (n:Nat) (kd:Nat->Fin 3) (ps:Nat->List Int) (mo w:Nat) (P:List Pc) (L:List (Str × List Int)) (ks:List V) (U:Addr->Prop):Prop where
 me:H st=some (.ins a.A0 ds (wg (.ref ll) (.int mo) (.ref d) (.ref c)))
 n1:1 <= n
 n6:n <= 6
 lo:H ll=some (.lst (refs lk n))
 row:xl H n lk kd tp ps
 pz:Į a H d n kd ps w P
 ch:Â K a H c dc p cl ct n kd ps L ks (mOf L) U
 nw:∀ x,(x=st\/x=ll\/x=d\/∃ q,q∈P/\(x=q.ob\/x=q.dl))->¬ StW c cl ct U x
 mo1:mo <= 1000
 wm:w <= mo/\w <= 200
 way:∃ x,To P x L
theorem Â.but {H H':Hp} {c ll:Addr} {n:Nat} {kd:Nat->Fin 3} {ps:Nat->List Int} {ks:List V} {M:Nat} {W:Addr->Prop} (h:Â K a H c dc p ll tl n kd ps L ks M W) {fs:List (Str × V)} (hq:H q=some (.ins C dq fs)) (nq:¬ StW c ll tl W q) (B:But q H H'):Â K a H' c dc p ll tl n kd ps L ks M W:=by
 have b:∀ {x:Addr} {d:List V},H x=some (.lst d)->x≠q:=fun {x d} e z=>by rw [z,hq] at e; cases e
 exists B _ _ h.me fun z=>nq (.inl z.symm),h.fz.frame (W2:=fun x=>x=q) (fun x z=>⟨.ins C dq fs,by rw [show x=q from z]; exact hq,.inl rfl⟩) (fun x w z=>nq (.inr (.inr (.inr (by rw [<- show x=q from z]; exact w))))) (fun x o e f=>B x o e f),B _ _ h.hl (b h.hl),B _ _ h.ht (b h.ht),h.tx.mono fun x d e g=>⟨B _ _ e (b e),g⟩,h.nc,h.nll,h.ntl,h.ne
theorem ycs (L:List (Str × List Int)) (x:Str) (t:List Int):mOf (L++[(x,t)])=mOf L+6 * (dec t).length:=by
 unfold mOf;rw [bz,show List.map (fun x:Str × List Int=>x.2) [(x,t)]=[t] from rfl,yak,bj];omega
theorem ymh {w:Nat} (h:∀ y,y∈L->y.2.length <= w) (hw:w <= 200) (hl:L.length <= 61):mOf L <= 660000:=by
 have c:=ydc (w:=w) (L.map (·.2)) fun x b=>by
  obtain ⟨y,a,rfl⟩:=bq.mp b;exact h y a
 rw [bf] at c;have d:L.length * (9 * w+1) <= 61 * 1801:=Nat.mul_le_mul hl (by omega);unfold mOf;omega
def StO (st c cl ct:Addr) (U:Addr->Prop):Addr->Prop:=fun y=>y=st\/StW c cl ct U y
theorem Go.or {W Y:Addr->Prop} {H H':Hp} (g:Go W H H' W'):Go (fun x=>Y x\/W x) H H' (fun x=>Y x\/W' x) :=
 ⟨fun c o e a=>g.fr c o e fun w=>a (.inr w),fun c w=>w.elim (fun y=>.inl (.inl y)) fun w=>(g.nw c w).imp .inr id,g.lv⟩
theorem Â.noTup {H:Hp} {c ll:Addr} {n:Nat} {kd:Nat->Fin 3} {ps:Nat->List Int} {ks:List V} {M:Nat} {W:Addr->Prop} (h:Â K a H c dc p ll tl n kd ps L ks M W) {x:Addr} {xs:List V} (e:H x=some (.tup xs)):¬ StW c ll tl W x:=fun w=>by
 rcases w with z | z | z | z
 .rw [z,h.me] at e; cases e
 .rw [z,h.hl] at e; cases e
 .rw [z,h.ht] at e; cases e
 .exact h.fz.sh.tup e z
theorem Â.same {H H':Hp} {c ll:Addr} {n:Nat} {kd:Nat->Fin 3} {ps:Nat->List Int} {ks:List V} {M:Nat} {W:Addr->Prop} (h:Â K a H c dc p ll tl n kd ps L ks M W) (S:yq H H'):Â K a H' c dc p ll tl n kd ps L ks M W :=
 ⟨S _ _ h.me,h.fz.same S,S _ _ h.hl,S _ _ h.ht,h.tx.mono fun _ _ e b=>⟨S _ _ e,b⟩,h.nc,h.nll,h.ntl,h.ne⟩
theorem Į.fr {H H':Hp} {d:Addr} {n:Nat} {kd:Nat->Fin 3} {ps:Nat->List Int} {w:Nat} {P:List Pc} (h:Į a H d n kd ps w P) (f:∀ x o,H x=some o->(x=d\/∃ q,q∈P/\(x=q.ob\/x=q.dl))->H' x=some o):Į a H' d n kd ps w P :=
 ⟨f _ _ h.dk (.inl rfl),fun q b=>⟨f _ _ (h.ob q b).1 (.inr ⟨q,b,.inl rfl⟩),f _ _ (h.ob q b).2 (.inr ⟨q,b,.inr rfl⟩)⟩,h.nd,h.wf,h.sz,h.z,h.nm⟩
theorem xl.fr {H H':Hp} {n:Nat} {lk:Nat->Addr} {kd:Nat->Fin 3} {ps:Nat->List Int} (h:xl H n lk kd tp ps) (f:∀ x xs,H x=some (.tup xs)->H' x=some (.tup xs)):xl H' n lk kd tp ps:=fun i b=>by
 obtain ⟨q,e,c,d,a⟩:=h i b;exists q,e,f _ _ c,f _ _ d,a
section
variable {H H':Hp} {st ll d c cl ct:Addr} {lk:Nat->Addr} {n:Nat} {kd:Nat->Fin 3} {ps:Nat->List Int} {mo w:Nat} {P:List Pc} {ks:List V}
theorem j7.same (h:j7 K a H st ds ll d c dc p cl ct lk tp n kd ps mo w P L ks U) (S:yq H H'):j7 K a H' st ds ll d c dc p cl ct lk tp n kd ps mo w P L ks U :=
 ⟨S _ _ h.me,h.n1,h.n6,S _ _ h.lo,h.row.same S,h.pz.same S,h.ch.same S,h.nw,h.mo1,h.wm,h.way⟩
theorem j7.lv (h:j7 K a H st ds ll d c dc p cl ct lk tp n kd ps mo w P L ks U):∀ x,(x=st\/x=ll\/x=d\/∃ q,q∈P/\(x=q.ob\/x=q.dl))->∃ o,H x=some o:=fun x e=>by
 rcases e with z | z | z | ⟨q,b,z | z⟩
 .exists _,by rw [z]; exact h.me
 .exists _,by rw [z]; exact h.lo
 .exists _,by rw [z]; exact h.pz.dk
 .exists _,by rw [z]; exact (h.pz.ob q b).1
 .exists _,by rw [z]; exact (h.pz.ob q b).2
theorem j7.lvO (h:j7 K a H st ds ll d c dc p cl ct lk tp n kd ps mo w P L ks U):∀ x,StO st c cl ct U x->∃ o,H x=some o:=fun x b=>by
 rcases b with z | z | z | z | z
 .exists _,by rw [z]; exact h.me
 .exists _,by rw [z]; exact h.ch.me
 .exists _,by rw [z]; exact h.ch.hl
 .exists _,by rw [z]; exact h.ch.ht
 .exact h.ch.fz.live x z
theorem j7.go (h:j7 K a H st ds ll d c dc p cl ct lk tp n kd ps mo w P L ks U) {ks':List V} (hc:Â K a H' c dc p cl ct n kd ps M ks' (mOf M) U') (g:Go (ChW cl ct U) H H' (ChW cl ct U')) (way:∃ x,To P x M):j7 K a H' st ds ll d c dc p cl ct lk tp n kd ps mo w P M ks' U'/\Go (StO st c cl ct U) H H' (StO st c cl ct U'):=by
 have g1:Go (StW c cl ct U) H H' (StW c cl ct U'):=g.or (Y:=fun x=>x=c);have f:∀ x o,H x=some o->(x=st\/x=ll\/x=d\/∃ q,q∈P/\(x=q.ob\/x=q.dl))->H' x=some o:=fun x o e b=>g1.fr x o e (h.nw x b);exists ⟨f _ _ h.me (.inl rfl),h.n1,h.n6,f _ _ h.lo (.inr (.inl rfl)),h.row.fr fun x i e=>g1.fr _ _ e (h.ch.noTup e),h.pz.fr fun x o e z=>f x o e (.inr (.inr z)),hc,g1.apart (fun x b=>h.lv x b) h.nw,h.mo1,h.wm,way⟩,g1.or (Y:=fun x=>x=st)
structure StB (a:Ads) (H:Hp) (st ds ll d:Addr) (vc:V) (lk tp:Nat->Addr) (n:Nat) (kd:Nat->Fin 3) (ps:Nat->List Int) (mo w:Nat) (P:List Pc):Prop where
 me:H st=some (.ins a.A0 ds (wg (.ref ll) (.int mo) (.ref d) vc))
 n1:1 <= n
 n6:n <= 6
 lo:H ll=some (.lst (refs lk n))
 row:xl H n lk kd tp ps
 pz:Į a H d n kd ps w P
 mo1:mo <= 1000
 wm:w <= mo/\w <= 200
theorem j7.b (h:j7 K a H st ds ll d c dc p cl ct lk tp n kd ps mo w P L ks U):StB a H st ds ll d (.ref c) lk tp n kd ps mo w P:=⟨h.me,h.n1,h.n6,h.lo,h.row,h.pz,h.mo1,h.wm⟩
theorem StB.lv {vc:V} (h:StB a H st ds ll d vc lk tp n kd ps mo w P):∀ x,(x=st\/x=ll\/x=d\/∃ q,q∈P/\(x=q.ob\/x=q.dl))->∃ o,H x=some o:=fun x c=>by
 rcases c with z | z | z | ⟨q,b,z | z⟩
 .exists _,by rw [z]; exact h.me
 .exists _,by rw [z]; exact h.lo
 .exists _,by rw [z]; exact h.pz.dk
 .exists _,by rw [z]; exact (h.pz.ob q b).1
 .exists _,by rw [z]; exact (h.pz.ob q b).2
theorem Go.wide {W:Addr->Prop} (g:Go W H H' W') (f:∀ x,W x->W2 x):Go W2 H H' W':=⟨fun c o e a=>g.fr c o e fun w=>a (f c w),fun c w=>(g.nw c w).imp (f c) id,g.lv⟩
theorem StB.re {vc:V} (h:StB a H st ds ll d vc lk tp n kd ps mo w P) {dc' p':Addr} {HE:Hp} (nc:H c'=none) (ndc:H dc'=none) (hch:Â K a HE c' dc' p' cl' ct' n kd ps [] [] 6 U') (hnew:∀ x,ChW cl' ct' U' x->(upd (upd H dc' (.own c')) c' (.ins a.A1 dc' [])) x=none) (BE:But c' (upd (upd H dc' (.own c')) c' (.ins a.A1 dc' [])) HE) :
  j7 K a (upd HE st (.ins a.A0 ds (wg (.ref ll) (.int mo) (.ref d) (.ref c')))) st ds ll d c' dc' p' cl' ct' lk tp n kd ps mo w P [] [] U'/\Go (fun y=>y=st) H (upd HE st (.ins a.A0 ds (wg (.ref ll) (.int mo) (.ref d) (.ref c')))) (StO st c' cl' ct' U')/\yq H HE/\∀ x,StW c' cl' ct' U' x->H x=none:=by
 have l:yq H (upd (upd H dc' (.own c')) c' (.ins a.A1 dc' [])):=fun b o e=>by rw [yk (yb e nc),yk (yb e ndc)]; exact e
 have f:yq H HE:=fun b o e=>BE _ _ (l _ _ e) (yb e nc)
 have j:∀ x,StW c' cl' ct' U' x->H x=none:=fun x w=>by
  rcases w with z | z
  .rw [z]; exact nc
  .exact l.free (hnew x z)
 have g:∀ {x:Addr} {o:HO},H x=some o->¬ StW c' cl' ct' U' x:=fun {x o} e w=>by rw [j x w] at e; cases e
 have c:=h.me;have m:∀ {x:Addr} {k:List V},H x=some (.lst k)->x≠st:=fun {x k} e z=>by rw [z,c] at e; cases e
 exists ⟨ya,h.n1,h.n6,yf (m h.lo) (f _ _ h.lo),h.row.fr fun x k e=>yf (fun z=>by rw [z,c] at e; cases e) (f _ _ e),⟨yf (fun z=>?_) (f _ _ h.pz.dk),fun q i=>⟨yf (fun z=>?_) (f _ _ (h.pz.ob q i).1),yf (m (h.pz.ob q i).2) (f _ _ (h.pz.ob q i).2)⟩,h.pz.nd,h.pz.wf,h.pz.sz,h.pz.z,h.pz.nm⟩,hch.but (f _ _ c) (g c) But.upd,fun x r=>?_,h.mo1,h.wm,⟨none,rfl⟩⟩,⟨fun x o e p=>yf p (f _ _ e),fun x w=>?_,fun x o e=>?_⟩,f,j
 .have e:=h.pz.dk; rw [z,c] at e; cases e
 .have e:=(h.pz.ob q i).1;rw [z,c] at e;injection e with e;injection e with _ _ e;have s:=congrArg List.length e;exact absurd (show (4:Nat)=2 from s) (by decide)
 .obtain ⟨o,e⟩:=h.lv x r;exact g e
 .rcases w with z | z
  .exact .inl z
  .exact .inr (j x z)
 .by_cases z:x=st
  .exists _,by rw [z]; exact ya
  .exists o,yf z (f _ _ e)
theorem j7.re (h:j7 K a H st ds ll d c dc p cl ct lk tp n kd ps mo w P L ks U) {dc' p':Addr} {HE:Hp} (nc:H c'=none) (ndc:H dc'=none) (hch:Â K a HE c' dc' p' cl' ct' n kd ps [] [] 6 U') (hnew:∀ x,ChW cl' ct' U' x->(upd (upd H dc' (.own c')) c' (.ins a.A1 dc' [])) x=none) (BE:But c' (upd (upd H dc' (.own c')) c' (.ins a.A1 dc' [])) HE) :
  j7 K a (upd HE st (.ins a.A0 ds (wg (.ref ll) (.int mo) (.ref d) (.ref c')))) st ds ll d c' dc' p' cl' ct' lk tp n kd ps mo w P [] [] U'/\Go (StO st c cl ct U) H (upd HE st (.ins a.A0 ds (wg (.ref ll) (.int mo) (.ref d) (.ref c')))) (StO st c' cl' ct' U')/\yq H HE/\∀ x,StW c' cl' ct' U' x->H x=none:=by
 obtain ⟨g,f,e⟩:=h.b.re nc ndc hch hnew BE;exists g,f.wide fun _ z=>.inl z,e
theorem To.less {b:Str} (h:To P x M) (hx:x≠some b):To (P.filter fun q=>decide (q.nm≠b)) x M:=by
 cases x with
 | none=>exact h
 | some y =>
  obtain ⟨r,d,a,c⟩:=h;exists r,cO.mpr ⟨d,bx fun z=>hx ?_⟩,a,c;rw [<- a,z]
theorem ykp (b:Str):∀ P:List Pc,Ö (pcs P) (.inr b)=pcs (P.filter fun q=>decide (q.nm≠b)):=fun P=>by
 unfold Ö pcs;rw [List.filter_map]
 congr 1
 refine List.filter_congr fun q _=>?_;by_cases e:q.nm=b
 .simp [e]
 .simp [e]
theorem StB.drop {vc:V} (h:StB a H st ds ll d vc lk tp n kd ps mo w P) {b:Str} (hb:∀ q,q∈P->q.bs≠some b):StB a (upd H d (.dK (Ö (pcs P) (.inr b)))) st ds ll d vc lk tp n kd ps mo w (P.filter fun q=>decide (q.nm≠b)):=by
 have i:=h.pz.dk;have f:∀ {x:Addr} {o:HO},H x=some o->o≠.dK (pcs P)->(upd H d (.dK (Ö (pcs P) (.inr b)))) x=some o:=fun {x o} e j=>yf (fun z=>by rw [z,i] at e; cases e; exact j rfl) e;have g:∀ {q:Pc},q∈(P.filter fun q=>decide (q.nm≠b))->q∈P:=fun c=>(cO.mp c).1
 exists f h.me (fun z=>nomatch z),h.n1,h.n6,f h.lo (fun z=>nomatch z),h.row.fr fun x k e=>f e (fun z=>nomatch z),⟨by rw [<- ykp]; exact ya,fun q c=>⟨f (h.pz.ob q (g c)).1 (fun z=>nomatch z),f (h.pz.ob q (g c)).2 (fun z=>nomatch z)⟩,h.pz.nd.sublist (List.filter_sublist.map _),fun q c=>(h.pz.wf q (g c)).less (hb q (g c)),fun q c=>h.pz.sz q (g c),bN (List.length_filter_le _ _) h.pz.z,fun q c=>h.pz.nm q (g c)⟩,h.mo1,h.wm
end
structure Pd where
 nm:Str
 bs:Option Str
 path:List (Str × List Int)
 tx:List Int
def Pc.pd (q:Pc):Pd:=⟨q.nm,q.bs,q.path,q.tx⟩
structure Cf where
 n:Nat
 kd:Nat->Fin 3
 ps:Nat->List Int
 mo:Nat
 w:Nat
def Pd.by (C:Cf) (q:Pd):List Int:=Ô C.n C.kd C.ps (ā (q.path.map (·.2))) q.tx
def ToD (P:List Pd):Option Str->List (Str × List Int)->Prop
 | none,L=>L=[]
 | some b,L=>∃ r,r∈P/\r.nm=b/\L=r.path++[(b,r.tx)]
theorem Ţ {Q:List Pc} :ToD (Q.map Pc.pd) x L ↔ To Q x L:=by
 cases x with
 | none=>exact Iff.rfl
 | some b =>
  exists fun ⟨r,a,e⟩=>?_,fun ⟨r,a,e⟩=>⟨_,bq.mpr ⟨r,a,rfl⟩,e⟩;obtain ⟨q,c,rfl⟩:=bq.mp a;exact ⟨q,c,e⟩
def okN (x:Str):Prop:=nmS x=true/\PyData.strOk x=true
def WD (d st c cl ct:Addr) (U:Addr->Prop):Addr->Prop:=fun y=>y=d\/StO st c cl ct U y
structure Sx where
 w:Addr->Prop
 f:Addr->Prop
def vas (d st c cl ct:Addr) (U:Addr->Prop) (ll:Addr) (Q:List Pc) (ks:List V):Sx :=
 ⟨WD d st c cl ct U,fun y=>WD d st c cl ct U y\/y=ll\/(∃ q,q∈Q/\(y=q.ob\/y=q.dl))\/V.ref y∈ks⟩
inductive Sto (K:W.Frag) (a:Ads) (H:Hp) (st:Addr) (C:Cf) (P:List Pd) (X:Sx):Prop
 | mk (ds ll d c dc p cl ct:Addr) (lk tp:Nat->Addr) (Q:List Pc) (L:List (Str × List Int)) (ks:List V) (U:Addr->Prop) (s:j7 K a H st ds ll d c dc p cl ct lk tp C.n C.kd C.ps C.mo C.w Q L ks U) (e:Q.map Pc.pd=P) (x:X=vas d st c cl ct U ll Q ks)
structure Gx (X:Sx) (H H':Hp) (Y:Sx):Prop where
 g:Go X.w H H' Y.w
 f:∀ y,Y.f y->X.f y\/H y=none
theorem Gx.same {X Y:Sx} {H H1 H2:Hp} (h:Gx X H H1 Y) (S:yq H1 H2):Gx X H H2 Y:=⟨h.g.same S,h.f⟩
theorem Gx.ahead {X Y:Sx} {H H1 H2:Hp} (S:yq H H1) (h:Gx X H1 H2 Y):Gx X H H2 Y:=⟨h.g.ahead S,fun y w=>(h.f y w).imp id S.free⟩
theorem Gx.refl {X:Sx} {H:Hp}:Gx X H H X:=⟨.refl,fun _ w=>.inl w⟩
theorem Gx.trans {X Y Z:Sx} {H H1 H2:Hp} (h:Gx X H H1 Y) (k:Gx Y H1 H2 Z):Gx X H H2 Z:=⟨h.g.trans k.g,fun y w=>(k.f y w).elim (h.f y) fun e=>.inr (h.g.free e)⟩
def Kf (H:Hp) (X:Sx) (x:Addr) (o:HO):Prop:=H x=some o/\¬ X.f x
section
variable {B H H':Hp} {st:Addr} {C:Cf} {P:List Pd} {X Y:Sx}
theorem Sto.same (h:Sto K a H st C P X) (S:yq H H'):Sto K a H' st C P X:=by
 obtain ⟨l,k,d,c,b,p,j,f,g,m,Q,L,i,U,s,e,x⟩:=h;exists l,k,d,c,b,p,j,f,g,m,Q,L,i,U,s.same S,e,x
theorem Sto.live (h:Sto K a H st C P X):∀ y,X.f y->∃ o,H y=some o:=fun y g=>by
 obtain ⟨t,n,d,c,l,p,m,i,k,u,Q,L,j,U,s,rfl,rfl⟩:=h;rcases g with (z | z) | z | ⟨q,b,z⟩ | z
 .exists _,by rw [z]; exact s.pz.dk
 .exact s.lvO y z
 .exists _,by rw [z]; exact s.lo
 .exact s.lv y (.inr (.inr (.inr ⟨q,b,z⟩)))
 .rcases s.ch.tx.mem _ z with e | ⟨q,r,e,b,_⟩
  .cases e
  .cases e; exists _,b
theorem Sto.wf (h:Sto K a H st C P X):∀ y,X.w y->X.f y:=fun y b=>by
 obtain ⟨m,l,d,c,e,p,k,g,i,n,Q,L,j,U,s,rfl,rfl⟩:=h;exact .inl b
theorem Sto.ins (h:Sto K a H st C P X):∃ ds vl vm vp vc,H st=some (.ins a.A0 ds (wg vl vm vp vc)):=by
 obtain ⟨ds,j,d,c,b,p,i,e,f,k,Q,L,g,U,s,rfl,rfl⟩:=h;exists _,_,_,_,_,s.me
theorem Sto.me (h:Sto K a H st C P X):X.f st:=by
 obtain ⟨l,k,d,c,b,p,j,e,g,m,Q,L,i,U,s,rfl,rfl⟩:=h;exact .inl (.inr (.inl rfl))
theorem vbp (Q:List Pc):(Q.map Pc.pd).map (·.nm)=Q.map (·.nm):=by rw [bS]; rfl
theorem Sto.nd (h:Sto K a H st C P X):(P.map (·.nm)).Nodup:=by
 obtain ⟨k,j,d,c,b,p,i,e,f,l,Q,L,g,U,s,rfl,rfl⟩:=h;rw [vbp];exact s.pz.nd
theorem Sto.z (h:Sto K a H st C P X):P.length <= 60:=by
 obtain ⟨k,j,d,c,b,p,i,e,f,l,Q,L,g,U,s,rfl,rfl⟩:=h;rw [bf];exact s.pz.z
theorem Sto.nm (h:Sto K a H st C P X):∀ q,q∈P->okN q.nm:=fun q e=>by
 obtain ⟨m,l,d,c,j,p,k,f,i,n,Q,L,g,U,s,rfl,rfl⟩:=h;obtain ⟨r,b,rfl⟩:=bq.mp e;exact s.pz.nm r b
theorem Sto.to (h:Sto K a H st C P X):∀ q,q∈P->ToD P q.bs q.path:=fun q e=>by
 obtain ⟨m,l,d,c,j,p,k,f,i,n,Q,L,g,U,s,rfl,rfl⟩:=h;obtain ⟨r,b,rfl⟩:=bq.mp e;exact Ţ.mpr (s.pz.wf r b)
theorem Sto.sz (h:Sto K a H st C P X):∀ q,q∈P->Sgs q.tx/\q.tx.length <= C.w/\q.path.length <= 60/\(∀ x,x∈q.path->Sgs x.2/\x.2.length <= C.w):=fun q e=>by
 obtain ⟨m,l,d,c,j,p,k,f,i,n,Q,L,g,U,s,rfl,rfl⟩:=h;obtain ⟨r,b,rfl⟩:=bq.mp e;exact s.pz.sz r b
theorem Sto.cf (h:Sto K a H st C P X):1 <= C.n/\C.n <= 6/\C.mo <= 1000/\C.w <= C.mo/\C.w <= 200:=by
 obtain ⟨k,j,d,c,b,p,i,e,f,l,Q,L,g,U,s,rfl,rfl⟩:=h;exists s.n1,s.n6,s.mo1,s.wm.1,s.wm.2
theorem Sto.sh (h:Sto K a H st C P X):WSh H X.w:=fun y g=>by
 obtain ⟨r,o,d,c,m,p,n,j,l,t,Q,L,k,U,s,rfl,rfl⟩:=h;rcases g with z | z | z | z | z | z
 .exists _,by rw [z]; exact s.pz.dk,.inl rfl
 .exists _,by rw [z]; exact s.me,.inl rfl
 .exists _,by rw [z]; exact s.ch.me,.inl rfl
 .exists _,by rw [z]; exact s.ch.hl,.inr ⟨_,rfl,fun v b=>?_⟩
  obtain ⟨u,_,e⟩:=bq.mp b;exact .inl ⟨u.1,e.symm⟩
 .exists _,by rw [z]; exact s.ch.ht,.inr ⟨_,rfl,fun v b=>.inr ?_⟩
  exact (s.ch.tx.mem v b).imp id fun ⟨q,i,e,f,_⟩=>⟨q,e,.inl ⟨i,f⟩⟩
 .exact s.ch.fz.sh y z
theorem Sto.frame (h:Sto K a H st C P X) (sh:WSh H W2) (dj:∀ y,X.f y->¬ W2 y) (fr:∀ y o,H y=some o->¬ W2 y->H' y=some o):Sto K a H' st C P X:=by
 obtain ⟨E,n,d,c,u,p,i,g,t,F,Q,L,j,U,s,rfl,rfl⟩:=h;have f:∀ {y:Addr} {o:HO},H y=some o->(vas d st c i g U n Q j).f y->H' y=some o:=fun {y o} e w=>fr y o e (dj y w);exists E,n,d,c,u,p,i,g,t,F,Q,L,j,U,⟨f s.me (.inl (.inr (.inl rfl))),s.n1,s.n6,f s.lo (.inr (.inl rfl)),s.row.fr fun y G e=>fr _ _ e (sh.tup e),s.pz.fr fun y o e z=>f e (z.elim (fun z=>.inl (.inl z)) fun z=>.inr (.inr (.inl z))),⟨f s.ch.me (.inl (.inr (.inr (.inl rfl)))),s.ch.fz.frame sh (fun y w=>dj y (.inl (.inr (.inr (.inr (.inr (.inr w))))))) fr,f s.ch.hl (.inl (.inr (.inr (.inr (.inl rfl))))),f s.ch.ht (.inl (.inr (.inr (.inr (.inr (.inl rfl)))))),?_,s.ch.nc,s.ch.nll,s.ch.ntl,s.ch.ne⟩,s.nw,s.mo1,s.wm,s.way⟩,rfl,rfl
 have l:∀ {L:List (Str × List Int)} {b:List V},(∀ v,v∈b->v∈j)->yck H (ChW i g U) L b->yck H' (ChW i g U) L b:=by
  intro L
  induction L with
  | nil=>intro b _ h; exact h
  | cons y r ih =>
   rintro b m ⟨k,D,rfl,z,h⟩;exists k,D,rfl,z.imp id fun ⟨q,e,A,B⟩=>⟨q,e,f A (.inr (.inr (.inr ?_))),B⟩,ih (fun v x=>m v (cc _ x)) h;rw [<- e];exact m _ cu
 exact l (fun _ h=>h) s.ch.tx
theorem Sto.but (h:Sto K a H st C P X) (sh:WSh H fun z=>z=y) (ny:¬ X.f y) (b:But y H H'):Sto K a H' st C P X :=
 h.frame sh (fun z w e=>ny (by rw [<- e]; exact w)) fun z o e c=>b z o e c
theorem WSh.mu {o:HO} (e:H y=some o) (ho:vaw o=true):WSh H fun z=>z=y:=fun z w=>⟨o,by rw [w]; exact e,.inl ho⟩
theorem Kf.go {x:Addr} {o:HO} (h:Kf H X x o) (s:Sto K a H st C P X) (g:Gx X H H' Y):Kf H' Y x o :=
 ⟨g.g.fr _ _ h.1 fun w=>h.2 (s.wf _ w),fun w=>(g.f x w).elim h.2 fun e=>by rw [h.1] at e; cases e⟩
theorem Kf.same {x:Addr} {o:HO} (h:Kf H X x o) (S:yq H H'):Kf H' X x o:=⟨S _ _ h.1,h.2⟩
theorem Kf.new {x:Addr} {o:HO} (s:Sto K a H st C P X) (hx:H x=none) (e:H' x=some o):Kf H' X x o:=⟨e,fun w=>by
 obtain ⟨c,b⟩:=s.live x w;rw [hx] at b;cases b⟩
theorem Kf.but {x:Addr} {o:HO} (h:Kf H X x o) (ne:x≠y) (b:But y H H'):Kf H' X x o:=⟨b _ _ h.1 ne,h.2⟩
theorem Gx.bs (s:Sto K a H st C P X) (g:Gx X H H' Y) (S:yq B H) (nb:∀ y,X.f y->B y=none):yq B H'/\∀ y,Y.f y->B y=none :=
 ⟨fun y o e=>g.g.fr _ _ (S _ _ e) (fun w=>by rw [nb y (s.wf y w)] at e; cases e),fun y w=>(g.f y w).elim (nb y) S.free⟩
def Sep (X Y:Sx):Prop:=∀ y,X.f y->¬ Y.f y
theorem Sep.symm (h:Sep X Y):Sep Y X:=fun y w v=>h y v w
theorem Gx.of {d c cl ct ll:Addr} {Q Q':List Pc} {ks ks':List V} (g:Go (WD d st c cl ct U) H H' (WD d st c' cl' ct' U')) (nk:NK H ks ks') (hq:∀ q,q∈Q'->q∈Q\/(H q.ob=none/\H q.dl=none)):Gx (vas d st c cl ct U ll Q ks) H H' (vas d st c' cl' ct' U' ll Q' ks'):=by
 exists g,fun y w=>?_;rcases w with z | z | ⟨q,h,z⟩ | z
 .exact (g.nw y z).imp .inl id
 .exact .inl (.inr (.inl z))
 .rcases hq q h with e | ⟨b,a⟩
  .exact .inl (.inr (.inr (.inl ⟨q,e,z⟩)))
  .rcases z with z | z
   .rw [z]; exact .inr b
   .rw [z]; exact .inr a
 .exact (nk y z).imp (fun z=>.inr (.inr (.inr z))) id
end
theorem Ĩ:∀ {P:List Pd} {q r:Pd},(P.map (·.nm)).Nodup->q∈P->r∈P->q.nm=r.nm->q=r
 | x :: P,q,r,hn,hq,hr,e=>by
  have a:=cA.mp hn;rcases bB.mp hq with z | z <;> rcases bB.mp hr with y | y
  .rw [z,y]
  .exact absurd (bq.mpr ⟨r,y,by rw [<- e,z]⟩) a.1
  .exact absurd (bq.mpr ⟨q,z,by rw [e,y]⟩) a.1
  .exact Ĩ a.2 z y e
theorem ToD.uniq {P:List Pd} (hn:(P.map (·.nm)).Nodup) (h:ToD P x L) (g:ToD P x M):L=M:=by
 cases x with
 | none=>rw [show L=[] from h,show M=[] from g]
 | some b =>
  obtain ⟨r,c,i,e⟩:=h;obtain ⟨q,d,a,f⟩:=g;obtain rfl:=Ĩ hn c d (i.trans a.symm);rw [e,f]
theorem yb9 {α:Type} [DecidableEq α]:∀ {l m:List α},l.Nodup->(∀ x,x∈l->x∈m)->l.length <= m.length
 | [],_,_,_=>bL _
 | x :: l,m,hn,h=>by
  have a:=cA.mp hn;have c:=h x cu;have d:l.length <= (m.erase x).length:=yb9 a.2 fun y b=>(List.mem_erase_of_ne (fun e=>a.1 (by rw [<- e]; exact b))).mpr (h y (cc _ b));rw [List.length_erase_of_mem c] at d;have:=List.length_pos_of_mem c;rw [bK];omega
def Pd.pc (q:Pd):Pc:=⟨q.nm,q.bs,q.path,q.tx,0,0,0⟩
theorem vai (P:List Pd):(P.map Pd.pc).map Pc.pd=P:=by
 rw [bS];exact List.map_id _
structure PdW (P:List Pd):Prop where
 nd:(P.map (·.nm)).Nodup
 wf:∀ q,q∈P->ToD P q.bs q.path
theorem ToD.pc {P:List Pd} (h:ToD P x L):To (P.map Pd.pc) x L:=Ţ.mp (by rw [vai]; exact h)
theorem ToD.at {P:List Pd} (w:PdW P) (t:ToD P x L) (hj:j < L.length):∃ r,r∈P/\L[j]=(r.nm,r.tx)/\r.path=L.take j/\ToD P (some r.nm) (L.take (j+1)):=by
 obtain ⟨r,c,e,f,b⟩:=To.at' (fun q d=>by
  obtain ⟨u,a,rfl⟩:=bq.mp d;exact (w.wf u a).pc) t.pc hj
 obtain ⟨u,a,rfl⟩:=bq.mp c;exists u,a,e,f,?_;have:=Ţ.mpr b;rw [vai] at this;exact this
theorem ToD.len {P:List Pd} (w:PdW P) (t:ToD P x L):L.length <= P.length:=by
 have h:=yb9 (l:=L.map (·.1)) (m:=P.map (·.nm)) ?_ ?_
 .rw [bf,bf] at h;exact h
 .refine List.pairwise_iff_getElem.mpr fun i j d a o e=>?_;rw [bf] at d a;rw [cK,cK] at e;obtain ⟨r,b,c,f,_⟩:=t.at w d;obtain ⟨u,p,g1,g2,_⟩:=t.at w a;rw [c,g1] at e;have:=Ĩ w.nd b p e;rw [this,g2] at f;have g:=congrArg List.length f;rw [bX,bX] at g;omega
 .intro y k;obtain ⟨z,n,rfl⟩:=bq.mp k;obtain ⟨j,a,rfl⟩:=List.mem_iff_getElem.mp n;obtain ⟨r,b,c,_⟩:=t.at w a;rw [c];exact bq.mpr ⟨r,b,rfl⟩
theorem Sto.pw {H:Hp} {st:Addr} {C:Cf} {P:List Pd} {X:Sx} (h:Sto K a H st C P X):PdW P:=⟨h.nd,h.to⟩
structure Bs (B H:Hp) (X:Sx):Prop where
 s:yq B H
 n:∀ y,X.f y->B y=none
theorem Bs.same {B H H':Hp} {X:Sx} (h:Bs B H X) (S:yq H H'):Bs B H' X:=⟨h.s.trans S,h.n⟩
theorem Bs.go {B H H':Hp} {st:Addr} {C:Cf} {P:List Pd} {X Y:Sx} (h:Bs B H X) (s:Sto K a H st C P X) (g:Gx X H H' Y):Bs B H' Y:=⟨(g.bs s h.s h.n).1,(g.bs s h.s h.n).2⟩
theorem Bs.but {B H H':Hp} {X:Sx} (h:Bs B H X) (ny:B y=none) (b:But y H H'):Bs B H' X:=⟨fun x o e=>b _ _ (h.s _ _ e) (yb e ny),h.n⟩
theorem Sd.str {H:Hp} {x:Str} (h:PyData.strOk x=true) {k:Nat}:Sd K H (.str x) (.str x) k:=⟨.str x,by simp [PyData.canLay0,h],by simp [PyData.depth],by simp [PyData.eqv]⟩
theorem Sd.non {H:Hp} {k:Nat}:Sd K H .non .none k:=⟨.non,by simp [PyData.canLay0],by simp [PyData.depth],by simp [PyData.eqv]⟩
theorem Sto.ntup {H:Hp} {st:Addr} {C:Cf} {P:List Pd} {X:Sx} (h:Sto K a H st C P X) {x:Addr} {xs:List V} (e:H x=some (.tup xs)):¬ X.f x:=fun w=>by
 have i:=h.sh;obtain ⟨t,r,d,c,m,p,n,j,l,u,Q,L,k,U,s,rfl,rfl⟩:=h;rcases w with z | z | ⟨q,b,z | z⟩ | z
 .exact i.tup e z
 .rw [z,s.lo] at e; cases e
 .rw [z,(s.pz.ob q b).1] at e; cases e
 .rw [z,(s.pz.ob q b).2] at e; cases e
 .rcases s.ch.tx.mem _ z with g | ⟨q,o,g,b,_⟩
  .cases g
  .cases g; rw [b] at e; cases e
theorem Bs.mk' {H:Hp} {st:Addr} {C:Cf} {P:List Pd} {X:Sx} (_:Sto K a H st C P X) (md:Addr):∃ B:Hp,Bs B H X/\B md=none/\∀ x o,H x=some o->¬ X.f x->x≠md->B x=some o:=by
 classical
 exists fun x=>if X.f x\/x=md then none else H x,⟨fun y o e=>?_,fun y w=>?_⟩,?_,fun x o e b c=>?_
 .by_cases z:X.f y\/y=md
  .rw [if_pos z] at e; cases e
  .rw [if_neg z] at e; exact e
 .exact if_pos (.inl w)
 .exact if_pos (.inr rfl)
 .show (if X.f x\/x=md then none else H x)=some o;rw [if_neg fun z=>z.elim b c];exact e
#synth yyk ["self","looks"] ysr
inductive yfo (K:W.Frag) (a:Ads) (vs:List V) (H:Hp) (Q:VK) (E':XK):Prop
 | mk (c dc l:Addr) (n:Nat) (lk tp:Nat->Addr) (kd:Nat->Fin 3) (ps:Nat->List Int) (_:vs=[.ref c,.ref l]) (_:H c=some (.ins a.A1 dc [])) (_:H l=some (.lst (refs lk n))) (_:1 <= n) (_:n <= 6) (_:xl H n lk kd tp ps) (_:∀ (p ll tl:Addr) (W:Addr->Prop) (H':Hp),Â K a H' c dc p ll tl n kd ps [] [] 6 W->(∀ x,ChW ll tl W x->H x=none)->But c H H'->(∀ y xs H'',H y=some (.lst xs)->But y H' H''->Â K a H'' c dc p ll tl n kd ps [] [] 6 W)->Q .non H')
theorem yh5 (T:Txt K mg a):vk P w K mg base (CXe P w) 8 a.Fe a.Kb ["self","looks"] (yfo K a):=by
 exists T.D0.F.okE,yyk,hr;obtain ⟨c,f,l,n,lk,tp,kd,ps,rfl,hc,hl,n1,n6,a0,k⟩:=h;refine yi (y6 (pv 0) (je T.Qz (yyg T) hr.m rfl T.Qy T.Ea.B .nil yz (pa1 (pv 1))) rfl) ?_;refine yi (y6 (pv 0) (wx ub) rfl) ?_;exists _,(yd (y6 (pv 0) (wx ub) rfl)),?_;exists 2,0;rfl';intro p dp np Y a5;refine FZ.new np Y hl n1 n6 a0 fun W C hf nW S1 X=>⟨rfl,?_⟩;have R:=S1 _ _ hc;rfl';have r:upd C c (HO.ins a.A1 f ([("foreteller",V.ref p)]:List (Str × V))) c=some (HO.ins a.A1 f ([("foreteller",V.ref p)]:List (Str × V))):=ya;have M:But c C (upd C c (HO.ins a.A1 f ([("foreteller",V.ref p)]:List (Str × V)))):=But.upd;generalize upd C c (HO.ins a.A1 f ([("foreteller",V.ref p)]:List (Str × V)))=HA at r M ⊢;exists by walk_at "len",fun j hll=>?_
 exists hll,HB,SB,eB;have a3:=SB _ _ r;rfl';have v:upd HB c (HO.ins a.A1 f ([("foreteller",V.ref p),("links",V.ref j)]:List (Str × V))) c=some (HO.ins a.A1 f ([("foreteller",V.ref p),("links",V.ref j)]:List (Str × V))):=ya;have J:But c HB (upd HB c (HO.ins a.A1 f ([("foreteller",V.ref p),("links",V.ref j)]:List (Str × V)))):=But.upd;generalize upd HB c (HO.ins a.A1 f ([("foreteller",V.ref p),("links",V.ref j)]:List (Str × V)))=HC at v J ⊢;exists by walk_at "len",fun D htl=>?_
 exists htl,HD,SD,eD;have a2:=SD _ _ v;rfl';have i:j≠c:=(yb r hll).symm;have g:D≠c:=(yb v htl).symm;have S:HC j=some (.lst []):=J _ _ eB i
 have I:∀ {x:Addr},x≠c->HA x=none->H x=none:=fun {x} d e=>by
  cases z:H x with
  | none=>rfl
  | some o=>rw [M _ _ (S1 _ _ z) d] at e; cases e
 have U:∀ {x:Addr},x≠c->HC x=none->HA x=none:=fun {x} d e=>by
  cases z:HA x with
  | none=>rfl
  | some o=>rw [J _ _ (SB _ _ z) d] at e; cases e
 have t:But c C (upd HD c (HO.ins a.A1 f (x8 (.ref p) (.ref j) (.ref D)))):=fun x o e d=>yf d (SD _ _ (J _ _ (SB _ _ (M _ _ e d)) d))
 have q:∀ x,W x->x≠c:=fun x w z=>by
  have e:=nW x w;rw [z,hc] at e;cases e
 have L:H j=none:=I i hll;have O:H D=none:=I g (U g htl)
 have N:¬ W j:=fun w=>by
  obtain ⟨o,e⟩:=hf.live _ w;rw [M _ _ e i] at hll;cases hll
 have G:¬ W D:=fun w=>by
  obtain ⟨o,e⟩:=hf.live _ w;rw [J _ _ (SB _ _ (M _ _ e g)) g] at htl;cases htl
 refine k p j D W (upd HD c (HO.ins a.A1 f (x8 (.ref p) (.ref j) (.ref D)))) ⟨ya,?_,?_,?_,rfl,fun w=>q c w rfl,N,G,yb S htl⟩ (fun x w=>?_) (fun x o e d=>t x o (S1 _ _ e) d) (fun y xs H2 u b=>?_)
 .exact hf.frame (W2:=fun x=>x=c) (fun x z=>⟨.ins a.A1 f [],by rw [show x=c from z]; exact R,.inl rfl⟩) (fun x w z=>q x w z) (fun x o e d=>t x o e d)
 .exact yf i (SD _ _ S)
 .exact yf g eD
 .rcases w with z | z | z
  .rw [z]; exact L
  .rw [z]; exact O
  .exact nW x z
 .have Z:c≠y:=fun z=>by rw [<- z,hc] at u; cases u
  have bG:But y C (upd H2 c (.ins a.A1 f [])):=fun x o e d=>by
   by_cases z:x=c
   .rw [z,ya]; rw [z,R] at e; exact e
   .exact yf z (b _ _ (t x o e z) d)
  exists b _ _ ya Z,(X y xs _ u bG).frame (W2:=fun x=>x=c) (fun x z=>⟨.ins a.A1 f [],by rw [show x=c from z]; exact ya,.inl rfl⟩) (fun x w z=>q x w z) (fun x o e d=>by rw [yk d] at e; exact e),b _ _ (yf i (SD _ _ S)) (fun z=>by rw [<- z,L] at u; cases u),b _ _ (yf g eD) (fun z=>by rw [<- z,O] at u; cases u),rfl,fun w=>q c w rfl,N,G,yb S htl
#synth ywn ["self","name","text"] yq6
inductive yk4 (a:Ads) (vs:List V) (H:Hp) (Q:VK) (E':XK):Prop
 | mk (c dc:Addr) (vf:V) (ll tl:Addr) (x y:V) (xs ys:List V) (_:vs=[.ref c,x,y]) (_:H c=some (.ins a.A1 dc (x8 vf (.ref ll) (.ref tl)))) (_:H ll=some (.lst xs)) (_:H tl=some (.lst ys)) (_:ll≠tl) (_:xs.length <= 10000) (_:ys.length <= 10000) (_:Q .non (upd (upd H ll (.lst (xs++[x]))) tl (.lst (ys++[y]))))
theorem ymg (T:Txt K mg a):vk P w K mg base CX0 1 a.Kc a.Kd ["self","name","text"] (yk4 a):=by
 exists T.Dh.F.ok,ywn,u;obtain ⟨c,l,m,d,e,x,y,j,n,rfl,f,g,r,t,B,v,k⟩:=h;exists _,(yg (yp (ue PySem.F.plainAttrs_list PySem.F.slot_list_append PySem.F.type_list_append v7 (ym (pv 0) rfl) (pa1 (pv 1)))) (yd (yp (ue PySem.F.plainAttrs_list PySem.F.slot_list_append PySem.F.type_list_append v7 (ym (pv 0) rfl) (pa1 (pv 2)))))),?_;exists 3,0;rfl';refine uc g ?_;rfl';refine w9 g (y8 (by omega)) ?_;have q:(upd H d (.lst (j++[x]))) c=some (.ins a.A1 l (x8 m (.ref d) (.ref e))):=by rw [yk (fun z=>by rw [z,g] at f; cases f)]; exact f
 rfl';have b:(upd H d (.lst (j++[x]))) e=some (.lst n):=by rw [yk t.symm]; exact r
 refine uc b ?_;rfl';refine w9 b (y8 (by omega)) ?_;rfl';exact k
theorem Â.grow {H H1:Hp} {c ll:Addr} {n:Nat} {kd:Nat->Fin 3} {ps:Nat->List Int} {ks:List V} {M:Nat} {W:Addr->Prop} (h:Â K a H c dc p ll tl n kd ps L ks M W) {nm:Str} {t:List Int} {k:V} (hf:FZ K a H1 p n kd ps (ā (L.map (·.2))++dec t) M' W') (g:Go W H H1 W') (hk:k=.non\/∃ q,k=.ref q/\H1 q=some (.lst (t.map V.int))/\¬ ChW ll tl W' q) :
  Â K a (upd (upd H1 ll (.lst (nmL L++[V.str nm]))) tl (.lst (ks++[k]))) c dc p ll tl n kd ps (L++[(nm,t)]) (ks++[k]) M' W'/\Go (ChW ll tl W) H (upd (upd H1 ll (.lst (nmL L++[V.str nm]))) tl (.lst (ks++[k]))) (ChW ll tl W'):=by
 have l:=g.fr _ _ h.hl h.nll;have m:=g.fr _ _ h.ht h.ntl;have v:=g.fr _ _ h.me h.nc;have i:∀ {x:Addr} {o:HO},H x=some o->¬ W x->¬ W' x:=fun {x o} e d w=>(g.nw x w).elim d fun z=>by rw [e] at z; cases z
 have B:=i h.hl h.nll;have C:=i h.ht h.ntl
 have f:∀ x o,H1 x=some o->¬ (x=ll\/x=tl)->(upd (upd H1 ll (.lst (nmL L++[V.str nm]))) tl (.lst (ks++[k]))) x=some o:=fun x o e d=>by
  rw [yk (fun z=>d (.inr z)),yk (fun z=>d (.inl z))]; exact e
 have A:c≠ll:=fun z=>by have e:=h.me; rw [z,h.hl] at e; cases e
 have j:c≠tl:=fun z=>by have e:=h.me; rw [z,h.ht] at e; cases e
 exists ⟨f _ _ v fun z=>z.elim A j,?_,?_,ya,?_,i h.me h.nc,B,C,h.ne⟩,⟨fun x o e d=>?_,fun x w=>?_,fun x o e=>?_⟩
 .have G:ā ((L++[(nm,t)]).map (·.2))=ā (L.map (·.2))++dec t:=by rw [bz]; exact yak _ _
  rw [G];refine hf.frame (W2:=fun x=>x=ll\/x=tl) (fun x w=>?_) (fun x w z=>?_) fun x o e d=>f x o e d
  .rcases w with z | z
   .exists _,by rw [show x=ll from z]; exact l,.inr ⟨_,rfl,fun y s=>?_⟩
    obtain ⟨u,_,e⟩:=bq.mp s;exact .inl ⟨u.1,e.symm⟩
   .exists _,by rw [show x=tl from z]; exact m,.inr ⟨_,rfl,fun y s=>.inr ?_⟩
    exact (h.tx.mem y s).imp id fun ⟨q,E,e,r,b⟩=>⟨q,e,.inl ⟨E,g.fr q _ r fun w=>b (.inr (.inr w))⟩⟩
  .rcases z with z | z
   .rw [z] at w; exact B w
   .rw [z] at w; exact C w
 .rw [yk h.ne,ya];unfold nmL;rw [bz];rfl
 .refine yck.snoc ?_ (h.tx.mono fun q I e b=>⟨f q _ (g.fr q _ e fun w=>b (.inr (.inr w))) fun z=>b (z.imp id .inl),fun w=>?_⟩)
  .refine hk.imp id fun ⟨q,e,r,b⟩=>⟨q,e,f q _ r fun z=>b (z.imp id .inl),b⟩
  .rcases w with w | w | w
   .exact b (.inl w)
   .exact b (.inr (.inl w))
   .exact i e (fun w=>b (.inr (.inr w))) w
 .exact f x o (g.fr x o e fun w=>d (.inr (.inr w))) fun z=>d (z.imp id .inl)
 .rcases w with w | w | w
  .exact .inl (.inl w)
  .exact .inl (.inr (.inl w))
  .exact (g.nw x w).imp (fun w=>.inr (.inr w)) id
 .obtain ⟨D,F⟩:=g.lv x o e;by_cases z2:x=tl
  .exists _,by rw [z2]; exact ya
  .by_cases z1:x=ll
   .exists _,by rw [z1,yk h.ne]; exact ya
   .exists D,f x D F fun z=>z.elim z1 z2
#synth ymx ["self","name","text","data"] ["self","name","text"] yru
inductive ye7 (K:W.Frag) (a:Ads) (vs:List V) (H:Hp) (Q:VK) (E':XK):Prop
 | mk (c dc p ll tl:Addr) (n:Nat) (kd:Nat->Fin 3) (ps:Nat->List Int) (L:List (Str × List Int)) (ks:List V) (M:Nat) (W:Addr->Prop) (tx:Addr) (nm:Str) (ts:List Int) (_:vs=[.ref c,.str nm,.ref tx]) (_:Â K a H c dc p ll tl n kd ps L ks M W) (_:L.length <= 1000) (_:Ì H tx ts 1000) (_:¬ W tx) (_:M+6 * (dec ts).length+20 < 1000000) (_:∀ (r:Addr) (W':Addr->Prop) (H':Hp),H r=none->H' r=some (.lst ((Ô n kd ps (ā (L.map (·.2))) ts).map V.int))->Â K a H' c dc p ll tl n kd ps (L++[(nm,ts)]) (ks++[.non]) (M+6 * (dec ts).length) W'->Go (ChW ll tl W) H H' (ChW ll tl W')->Q (.ref r) H')
theorem ywl (T:Txt K mg a):vk P w K mg base CX0 8 a.Ke a.Kg ["self","name","text"] (ye7 K a):=by
 exists T.Gd.F.ok,ymx,v;obtain ⟨c,u,p,x,y,n,U,D,L,C,M,W,Y,nm,X,rfl,b,hz,l,e,S,k⟩:=h;have N:=b.me;have O:=b.tx.len;exists _,(yg (yv (i:=3) ymx.nd rfl (Or.inl rfl) (xv (yup T) v.m T.Mm (pac (ym (pv 0) rfl) (pa1 (pv 2))))) (yg (yp (xo (pv 0) T.Ai T.Dh.m (ymg T) v.m T.Dh.B .nil wv (pac (pv 1) (pa1 ý)))) (yd (yt (pv 3))))),?_;exists 3,1;rfl';refine b.fz.press l e S fun r I Z d o J g=>?_;have f:=g.fr _ _ b.hl b.nll;have j:=g.fr _ _ b.ht b.ntl;have q:=g.fr _ _ b.me b.nc;rfl';exists c,u,_,x,y,_,_,_,_,rfl,q,f,j,b.ne,by unfold nmL; rw [bf]; omega,by omega,?_
 obtain ⟨z,g2⟩:=b.grow (nm:=nm) J g (.inl rfl);rfl';refine k r I _ d ?_ z g2;rw [yk (yb b.ht d).symm,yk (yb b.hl d).symm];exact o
#synth yn3 ["self","name","data","most","first"] ["self","name","data","most"] yq2
inductive ygx (K:W.Frag) (a:Ads) (vs:List V) (H:Hp) (Q:VK) (E':XK):Prop
 | mk (c dc p ll tl:Addr) (n:Nat) (kd:Nat->Fin 3) (ps:Nat->List Int) (L:List (Str × List Int)) (ks:List V) (M:Nat) (W:Addr->Prop) (dt:Addr) (nm:Str) (ts bs:List Int) (mo:Nat) (_:vs=[.ref c,.str nm,.ref dt,.int mo]) (_:Â K a H c dc p ll tl n kd ps L ks M W) (_:L.length <= 1000) (_:Sgs ts) (_:H dt=some (.lst ((Ô n kd ps (ā (L.map (·.2))) ts++bs).map V.int))) (_:¬ W dt) (_:Byt bs) (_:(Ô n kd ps (ā (L.map (·.2))) ts++bs).length <= 12000) (_:ts.length <= mo) (_:mo <= 1000) (_:M+54 * mo+200 < 1000000) (_:∀ (q:Addr) (W':Addr->Prop) (H':Hp),H q=none->Â K a H' c dc p ll tl n kd ps (L++[(nm,ts)]) (ks++[.ref q]) (M+6 * (dec ts).length) W'->Go (ChW ll tl W) H H' (ChW ll tl W')->Q (.int ((Ô n kd ps (ā (L.map (·.2))) ts).length:Nat)) H')
theorem yzj (T:Txt K mg a):vk P w K mg base (CXe P w) 11 a.Kh a.Ki ["self","name","data","most"] (ygx K a):=by
 exists T.Ge.F.okE,yn3,X;obtain ⟨c,S,p,f,j,n,U,R,L,O,M,W,dt,nm,Z,bs,mo,rfl,b,hz,N,D,l,v,r,J,o,hM,k⟩:=h;have a0:=b.me;have a1:=b.tx.len;exists _,(yg (yv (i:=4) yn3.nd rfl (Or.inl rfl) (ud (yuo T) X.m T.Mq yz (pac (ym (pv 0) rfl) (pac (pv 2) (pa1 (pv 3)))))) (yg (yp (xo (pv 0) T.Ai T.Dh.m (ymg T) X.m T.Dh.B .nil wv (pac (pv 1) (pa1 (ut uh (pv 4) ye (fun _ _=>rfl)))))) (yd (yt (ut uh (pv 4) ye (fun _ _=>rfl)))))),?_;exists 4,1;rfl';refine b.fz.read (θ _) N D l v r J o hM fun t q Y H1 e d ht hq hf g nq=>?_;have x:=g.fr _ _ b.hl b.nll;have y:=g.fr _ _ b.ht b.ntl;have G:=g.fr _ _ b.me b.nc;rfl';exists t,_,0,_,rfl,rfl,SqT.of ht,rfl,?_;rfl';exists c,S,_,f,j,_,_,_,_,rfl,G,x,y,b.ne,by unfold nmL; rw [bf]; omega,by omega,?_
 have C:¬ ChW f j Y q:=fun w=>by
  rcases w with w | w | w
  .exact yb b.hl d w.symm
  .exact yb b.ht d w.symm
  .exact nq w
 obtain ⟨z,g2⟩:=b.grow (nm:=nm) hf g (.inr ⟨q,rfl,hq,C⟩)
 have u:(upd (upd H1 f (.lst (nmL L++[V.str nm]))) j (.lst (O++[V.ref q]))) t=some (.tup [.ref q,.int ((Ô n U R (ā (L.map (·.2))) Z).length:Nat)]):=by
  rw [yk (yb b.ht e).symm,yk (yb b.hl e).symm];exact ht
 rfl';exists t,_,1,_,rfl,rfl,SqT.of u,rfl,?_;exact k q Y _ d z g2
#synth ywc ["thing"] yss
inductive ygo (K:W.Frag) (vs:List V) (H:Hp) (Q:VK) (E':XK):Prop
 | mk (x n:_) (_:vs=[x]) (_:xp K H x (.type n)) (_:(∀ s,x=.str s->s.length <= 100000)) (_:∀ H',yq H H'->Q (.bl (nmV x)) H')
theorem yvu (T:Txt K mg a):vk P w K mg base CX0 1 a.Kj a.Kk ["thing"] (ygo K):=by
 exists T.Mr.F.ok,ywc,r;obtain ⟨x,n,rfl,b,d,k⟩:=h;exists _,(yd (yt (xx (pcB vx T.A5 (pac (pv 0) (pa1 (zv (T:="str") rfl T.N4 (by right))))) (xx (jh uv uv ye (pcB uf T.Ac (pa1 (pv 0))) (vg rfl T.Do)) (zu (pcB (zi rfl) T.Cn (pa1 (vq (js:=[]) (ys:=[]) rfl (yib (pv 0)) (fun C t v u=>(zl ygy (pv 0) (yhn rfl T.Ei) (by with_unfolding_all rfl))) rfl rfl (hyc:=yr) (hrel:=yr))))))))),?_;exists 1,0;rfl';refine ψ b (ycq b) ?_;rfl';by_cases hn:n="str"
 .obtain ⟨s',rfl⟩:∃ s',x=.str s':=by
   cases b with
   | str s'=>exists s',rfl
   | _=>exact absurd hn (by decide)
  have d:=d s' rfl;rw [bx hn];refine ī ?_;rfl';exists s',rfl,bN d (by decide),?_;refine ⟨1,(s'.length:Int),rfl,rfl,_,rfl,?_⟩;by_cases h1:(1:Int) <= (s'.length:Int)
  .refine ŧ h1 ?_;exists (s'.length:Int),8,rfl,rfl,_,rfl,?_;by_cases h8:(s'.length:Int) <= 8
   .refine ŧ h8 ?_;rfl';exists s',rfl,fun D j=>?_;refine î (fun i=>.bl (yly (s'.cps.toList.getD i 0))) j (fun i c G o l S g=>?_) (fun G S g=>?_)
    .rfl';exists _,_,rfl,rfl,?_;refine Mp.doneR j (Nat.lt_of_le_of_lt (show s'.cps.size <= 100000 from d) (by decide)) l S g ?_
     have q:s'.cps.toList.getD i 0=c:=by
      rw [cL,Array.getElem?_toList,o]; rfl
     rw [q];unfold yly;rfl
    .rfl';exists D,s'.cps.toList.map yly,rfl,?_,?_
     .refine SqL.of (g.trans ?_);rw [ypm]
     .have e:=yzk h1 h8;rw [<- e];exact k _ S
   .have e:=yt1 h8;rw [e] at k;exact yfa h8 (k _ (yq.refl _))
  .have e:=yua h1;rw [e] at k;refine yfa h1 ?_;exists _,rfl,ē (k _ (yq.refl _))
 .have e:nmV x=false:=by
   cases b with
   | str s'=>exact absurd rfl hn
   | _=>rfl
  rw [bA hn];rw [e] at k;exact ē (k _ (yq.refl _))
#synth yxu ["thing"] yr2
inductive ykh (K:W.Frag) (C:Addr) (vs:List V) (H:Hp) (Q:VK) (E:XK):Prop
 | mk (x n:_) (_:vs=[x]) (_:xp K H x (.type n)) (_:(∀ s,x=.str s->s.length <= 100000)) (_:(nmV x=true->∀ H',yq H H'->Q x H')) (_:(nmV x=false->∀ H',yq H H'->E (.ref C) none H'))
theorem yii (T:Txt K mg a):vk P w K mg base (CXe P w) 2 a.Kl a.Km ["thing"] (ykh K a.Ah):=by
 exists T.Ec.F.okE,yxu,e;obtain ⟨x,n,rfl,d,j,g,k⟩:=h;exists _,(yg (wz (xq (xu (xv (yvu T) e.m T.Mr (pa1 (pv 0))))) (yd (w5 rfl T.Nr T.Dk (pa1 wy))) ve) (yd (yt (pv 0)))),?_;exists 1,0;rfl';exists x,n,rfl,d,j,fun l c=>?_;rfl'
 cases hx:nmV x with
 | false =>
  rfl';exists by walk_at "len",k hx _ c
 | true =>
  rfl';exact g hx _ c
#synth yyl ["thing"] ysd
inductive ykq (K:W.Frag) (C:Addr) (vs:List V) (H:Hp) (Q:VK) (E:XK):Prop
 | mk (x n:_) (_:vs=[x]) (_:xp K H x (.type n)) (_:(∀ s,x=.str s->s.length <= 100000)) (_:((x=.non\/nmV x=true)->∀ H',yq H H'->Q .non H')) (_:(x≠.non->nmV x=false->∀ H',yq H H'->E (.ref C) none H'))
theorem yug (T:Txt K mg a):vk P w K mg base (CXe P w) 3 a.Kn a.Ko ["thing"] (ykq K a.Ah):=by
 exists T.Ms.F.okE,yyl,i;obtain ⟨x,n,rfl,g,l,e,o⟩:=h;exists _,(yd (wz (y7 Ŝ (pv 0) ý (vh _)) (yd (yp (ud (yii T) i.m T.Ec yz (pa1 (pv 0))))) ve)),?_;exists 1,0;rfl';by_cases hx:x=.non
 .subst hx;rfl';exact e (.inl rfl) _ (yq.refl _)
 .rfl';rw [bA hx];refine ī ?_;rfl';exists x,n,rfl,g,l,fun d f b=>?_,fun d f b=>o hx d f b;rfl';exact e (.inr d) _ b
#synth yu6 ["self","base","data"] yrb
inductive ykz (a:Ads) (vs:List V) (H:Hp) (Q:VK) (E':XK):Prop
 | mk (p dp:Addr) (x y:V) (_:vs=[.ref p,x,y]) (_:H p=some (.ins a.A6 dp [])) (_:∀ H',H' p=some (.ins a.A6 dp (z6 x y))->But p H H'->Q .non H')
theorem yx1 (T:Txt K mg a):vk P w K mg base CX0 1 a.Ff a.Kp ["self","base","data"] (ykz a):=by
 exists T.Ed.F.ok,yu6,i;obtain ⟨p,b,x,y,rfl,j,k⟩:=h;exists _,(yg (y6 (pv 0) (pv 1) rfl) (yd (y6 (pv 0) (pv 2) rfl))),?_;exists 3,0;rfl';have d:upd H p (HO.ins a.A6 b ([("base",x)]:List (Str × V))) p=some (HO.ins a.A6 b ([("base",x)]:List (Str × V))):=ya;have e:But p H (upd H p (HO.ins a.A6 b ([("base",x)]:List (Str × V)))):=But.upd;generalize upd H p (HO.ins a.A6 b ([("base",x)]:List (Str × V)))=l at d e ⊢;rfl';exact k _ ya (e.trans But.upd)
#synth yur ["self","looks","most"] yfb
inductive yao (K:W.Frag) (a:Ads) (vs:List V) (H:Hp) (Q:VK) (E':XK):Prop
 | mk (p ds l:Addr) (mo w:Nat) (n:Nat) (lk tp:Nat->Addr) (kd:Nat->Fin 3) (ps:Nat->List Int) (_:vs=[.ref p,.ref l,.int mo]) (_:H p=some (.ins a.A0 ds [])) (_:H l=some (.lst (refs lk n))) (_:1 <= n) (_:n <= 6) (_:xl H n lk kd tp ps) (_:mo <= 1000) (_:w <= mo) (_:w <= 200) (_:∀ (ll d c dc q cl ct:Addr) (U:Addr->Prop) (H':Hp),j7 K a H' p ds ll d c dc q cl ct lk tp n kd ps mo w [] [] [] U->(∀ x,StW c cl ct U x->H x=none)->H ll=none->H d=none->But p H H'->(∀ y xs H'',H y=some (.lst xs)->But y H' H''->j7 K a H'' p ds ll d c dc q cl ct lk tp n kd ps mo w [] [] [] U)->Q .non H')
theorem yu5 (T:Txt K mg a):vk P w K mg base (CXe P w) 10 a.Cy a.Kq ["self","looks","most"] (yao K a):=by
 exists T.Pu.okE,yur,hr;obtain ⟨p,j,l,D,w,n,lk,tp,kd,ps,rfl,W,hl,J,n6,O,a0,a5,a4,k⟩:=h;refine yi (y6 (pv 0) (ud (yl8 T) hr.m T.Ft yz (pa1 (pv 1))) rfl) ?_;refine yi (yp (ud (vbh T) hr.m T.Ox yz (pa1 (pv 2)))) ?_;refine yi (y6 (pv 0) (pv 2) rfl) ?_;refine yi (y6 (pv 0) yjw rfl) ?_;exists _,(yd (y6 (pv 0) (je T.Eo (yh5 T) hr.m rfl T.En T.D0.B .nil yz (pa1 (ym (pv 0) rfl))) rfl)),?_;exists 3,0;rfl';refine .inr ⟨l,refs lk n,List.replicate (refs lk n).length true,rfl,hl,by rw [vv]; omega,O.lks.bs,fun _ g H1 C a6 u=>?_,fun no=>absurd ⟨by rw [vv]; exact J,by rw [vv]; exact n6,yhi _⟩ no⟩;have ah:=u _ _ W;rfl';have ad:upd H1 p (HO.ins a.A0 j ([("looks",V.ref g)]:List (Str × V))) p=some (HO.ins a.A0 j ([("looks",V.ref g)]:List (Str × V))):=ya;have BA:But p H1 (upd H1 p (HO.ins a.A0 j ([("looks",V.ref g)]:List (Str × V)))):=But.upd;generalize upd H1 p (HO.ins a.A0 j ([("looks",V.ref g)]:List (Str × V)))=HA at ad BA ⊢;exists .int D,"int",rfl,.int _,fun _=>?_,fun z=>by rw [yxb a0] at z; cases z
 rfl';have Z:upd HA p (HO.ins a.A0 j ([("looks",V.ref g),("most",V.int D)]:List (Str × V))) p=some (HO.ins a.A0 j ([("looks",V.ref g),("most",V.int D)]:List (Str × V))):=ya;have BB:But p HA (upd HA p (HO.ins a.A0 j ([("looks",V.ref g),("most",V.int D)]:List (Str × V)))):=But.upd;generalize upd HA p (HO.ins a.A0 j ([("looks",V.ref g),("most",V.int D)]:List (Str × V)))=HB at Z BB ⊢;intro d hd0;exists hd0,HC,SC,eC;have ai:=SC _ _ Z;rfl';have r:upd HC p (HO.ins a.A0 j ([("looks",V.ref g),("most",V.int D),("pieces",V.ref d)]:List (Str × V))) p=some (HO.ins a.A0 j ([("looks",V.ref g),("most",V.int D),("pieces",V.ref d)]:List (Str × V))):=ya;have BD:But p HC (upd HC p (HO.ins a.A0 j ([("looks",V.ref g),("most",V.int D),("pieces",V.ref d)]:List (Str × V)))):=But.upd;generalize upd HC p (HO.ins a.A0 j ([("looks",V.ref g),("most",V.int D),("pieces",V.ref d)]:List (Str × V)))=X at r BD ⊢;have I:∀ x o,H1 x=some o->x≠p->X x=some o:=fun x o e t=>BD _ _ (SC _ _ (BB _ _ (BA _ _ e t) t)) t
 have K0:∀ x,x≠p->X x=none->H x=none:=fun x t e=>by
  cases z:H x with
  | none=>rfl
  | some o=>rw [I _ _ (u _ _ z) t] at e; cases e
 have a1:g≠p:=(yb W C).symm;have v:d≠p:=(yb Z hd0).symm;have F:=I _ _ a6 a1;have R:X d=some (.dK []):=BD _ _ eC v
 have ab:xl X n lk kd tp ps:=fun i hi=>by
  obtain ⟨q,e,S,M,h3⟩:=O i hi;exists q,e,I _ _ (u _ _ S) (wu S W (by intro z; cases z)),I _ _ (u _ _ M) (wu M W (by intro z; cases z)),h3
 exists p,_,j,_,_,rfl,r,T.A3,T.Ak,rfl,?_;rfl';intro c dc nc aa ak;have SQ:yq X (upd (upd X dc (.own c)) c (.ins a.A1 dc [])):=fun b o e=>by rw [yk (yb e nc),yk (yb e aa)]; exact e
 exists c,dc,g,n,lk,tp,kd,ps,rfl,ya,SQ _ _ F,J,n6,ab.same SQ,fun q cl ct U HE ac a3 BE a9=>⟨rfl,?_⟩;have G:yq X HE:=fun b o e=>BE _ _ (SQ _ _ e) (yb e nc);have a2:=G _ _ r
 have N:∀ x,StW c cl ct U x->X x=none:=fun x w=>by
  rcases w with z | z
  .rw [z]; exact nc
  .exact SQ.free (a3 x z)
 have Y:¬ StW c cl ct U p:=fun w=>by have e:=N _ w; rw [r] at e; cases e
 have a7:H d=none:=by
  cases z:H d with
  | none=>rfl
  | some o=>rw [BB _ _ (BA _ _ (u _ _ z) v) v] at hd0; cases hd0
 rfl';refine k g d c dc q cl ct U _ ⟨ya,J,n6,yf a1 (G _ _ F),fun i hi=>?_,⟨yf v (G _ _ R),fun q f=>(by cases f),List.nodup_nil,fun q f=>(by cases f),fun q f=>(by cases f),bL _,fun q f=>(by cases f)⟩,ac.but a2 Y But.upd,fun x hx w=>?_,a0,⟨a5,a4⟩,⟨none,rfl⟩⟩ (fun x w=>?_) C ?_ (fun x o e t=>yf t (G _ _ (I _ _ (u _ _ e) t))) (fun y xs H2 L b=>?_)
 .obtain ⟨q,e,S,M,h3⟩:=O i hi;have J:=wu S W (by intro z; cases z);have n2:=wu M W (by intro z; cases z);exists q,e,yf J (G _ _ (I _ _ (u _ _ S) J)),yf n2 (G _ _ (I _ _ (u _ _ M) n2)),h3
 .have e:=N _ w;rcases hx with z | z | z | ⟨q,f,_⟩
  .rw [z,r] at e; cases e
  .rw [z,F] at e; cases e
  .rw [z,R] at e; cases e
  .cases f
 .exact K0 x (fun z=>Y (z ▸ w)) (N x w)
 .exact a7
 .have a8:p≠y:=fun z=>by rw [<- z,W] at L; cases L
  have ae:=SQ _ _ (I _ _ (u _ _ L) a8.symm)
  have bG:But y HE (upd H2 p (HO.ins a.A0 j ([("looks",V.ref g),("most",V.int D),("pieces",V.ref d)]:List (Str × V)))):=fun x o e t=>by
   by_cases z:x=p
   .rw [z,ya]; rw [z,a2] at e; exact e
   .exact yf z (b _ _ (yf z e) t)
  have af:=a9 y xs _ ae bG;have al:=u _ _ L;exists b _ _ ya a8,J,n6,b _ _ (yf a1 (G _ _ F)) (fun z=>by rw [<- z,C] at L; cases L),fun i hi=>?_,⟨b _ _ (yf v (G _ _ R)) (fun z=>by rw [<- z,a7] at L; cases L),fun q f=>(by cases f),List.nodup_nil,fun q f=>(by cases f),fun q f=>(by cases f),bL _,fun q f=>(by cases f)⟩,af.but ya Y (fun x o e t=>by rw [yk t] at e; exact e),fun x hx w=>?_,a0,⟨a5,a4⟩,⟨none,rfl⟩
  .obtain ⟨q,e,S,M,h3⟩:=O i hi;have J:=wu S W (by intro z; cases z);have n2:=wu M W (by intro z; cases z);exists q,e,b _ _ (yf J (G _ _ (I _ _ (u _ _ S) J))) (wu S L (by intro z; cases z)),b _ _ (yf n2 (G _ _ (I _ _ (u _ _ M) n2))) (wu M L (by intro z; cases z)),h3
  .have e:=N _ w;rcases hx with z | z | z | ⟨q,f,_⟩
   .rw [z,r] at e; cases e
   .rw [z,F] at e; cases e
   .rw [z,R] at e; cases e
   .cases f
theorem Sto.new {H:Hp} {st l:Addr} {mo w n:Nat} {lk:Nat->Addr} {kd:Nat->Fin 3} {ps:Nat->List Int} {Q:VK} {E:XK} (hst0:H st=none) (hds0:H ds=none) (hlo:H l=some (.lst (refs lk n))) (n1:1 <= n) (n6:n <= 6) (hR:xl H n lk kd tp ps) (m1:mo <= 1000) (wm:w <= mo) (w2:w <= 200)
  (k:∀ X H',Sto K a H' st ⟨n,kd,ps,mo,w⟩ [] X->yq H H'->(∀ y,X.f y->H y=none)->(∀ y xs H'',H y=some (.lst xs)->But y H' H''->Sto K a H'' st ⟨n,kd,ps,mo,w⟩ [] X)->Q .non H'):yao K a [.ref st,.ref l,.int mo] (upd (upd H ds (.own st)) st (.ins a.A0 ds [])) Q E:=by
 have g:yq H (upd (upd H ds (.own st)) st (.ins a.A0 ds [])):=fun b o e=>by rw [yk (yb e hst0),yk (yb e hds0)]; exact e
 exists st,ds,l,mo,w,n,lk,tp,kd,ps,rfl,ya,g _ _ hlo,n1,n6,hR.same g,m1,wm,w2,fun x d c u p v t U C m i h s A j=>k _ C ⟨ds,x,d,c,u,p,v,t,lk,tp,[],[],[],U,m,rfl,rfl⟩ (fun y o e=>A _ _ (g _ _ e) (yb e hst0)) (fun y r=>?_) fun y xs B r b=>⟨ds,x,d,c,u,p,v,t,lk,tp,[],[],[],U,j y xs B (g _ _ r) b,rfl,rfl⟩;rcases r with (z | z | z) | z | ⟨q,hq,_⟩ | z
 .rw [z]; exact g.free s
 .rw [z]; exact hst0
 .exact g.free (i y z)
 .rw [z]; exact g.free h
 .cases hq
 .cases z
#synth yu8 ["self"] yri
inductive yaq (a:Ads) (vs:List V) (H:Hp) (Q:VK) (E':XK):Prop
 | mk (st ds ll:Addr) (vm vp vc:V) (xs:List V) (_:vs=[.ref st]) (_:H st=some (.ins a.A0 ds (wg (.ref ll) vm vp vc))) (_:H ll=some (.lst xs)) (_:∀ l H',H l=none->H' l=some (.lst xs)->yq H H'->Q (.ref l) H')
theorem yzi (T:Txt K mg a):vk P w K mg base CX0 1 a.Ks a.Kt ["self"] (yaq a):=by
 exists T.Gf.F.ok,yu8,r;obtain ⟨i,o,e,p,n,g,q,rfl,j,c,k⟩:=h;exists _,(yd (yt (pcT wo T.An (pa1 (ym (pv 0) rfl))))),?_;exists 1,0;rfl';exists e,_,rfl,.inl (SqL.of c),fun l b=>?_;exact k l _ b ya (yx b)
theorem Sto.tlooks {H:Hp} {st:Addr} {C:Cf} {P:List Pd} {X:Sx} {Q:VK} {E:XK} (h:Sto K a H st C P X) (k:∀ l lk tp H',H l=none->H' l=some (.lst (refs lk C.n))->xl H' C.n lk C.kd tp C.ps->yq H H'->Q (.ref l) H'):yaq a [.ref st] H Q E:=by
 obtain ⟨g,e,d,c,m,p,o,i,lk,tp,q,L,j,U,s,rfl,rfl⟩:=h;exists st,g,e,_,_,_,_,rfl,s.me,s.lo,fun l H' b f S=>k l lk tp H' b f (s.row.same S) S
#synth yvk ["self"] ysu
inductive yc8 (a:Ads) (vs:List V) (H:Hp) (Q:VK) (E':XK):Prop
 | mk (st ds:Addr) (vl vm vp vc:V) (_:vs=[.ref st]) (_:H st=some (.ins a.A0 ds (wg vl vm vp vc))) (_:Q vm H)
theorem yyr (T:Txt K mg a):vk P w K mg base CX0 1 a.Ku a.Kv ["self"] (yc8 a):=by
 exists T.Gg.F.ok,yvk,n;obtain ⟨e,l,g,m,j,d,rfl,f,k⟩:=h;exists _,(yd (yt (ym (pv 0) rfl))),?_;exists 1,0;rfl';exact k
theorem Sto.tmost {H:Hp} {st:Addr} {C:Cf} {P:List Pd} {X:Sx} {Q:VK} {E:XK} (h:Sto K a H st C P X) (k:Q (.int C.mo) H):yc8 a [.ref st] H Q E:=by
 obtain ⟨b,l,d,c,e,p,j,f,g,m,n,L,i,U,s,rfl,rfl⟩:=h;exists st,b,_,_,_,_,rfl,s.me,k
#synth yww ["self"] yr6
inductive yde (a:Ads) (vs:List V) (H:Hp) (Q:VK) (E':XK):Prop
 | mk (st ds d:Addr) (vl vm vc:V) (P:List Pc) (_:vs=[.ref st]) (_:H st=some (.ins a.A0 ds (wg vl vm (.ref d) vc))) (_:H d=some (.dK (pcs P))) (_:P.length <= 60) (_:∀ l H',H l=none->H' l=some (.lst (P.map fun q=>V.str q.nm))->yq H H'->Q (.ref l) H')
theorem yin (T:Txt K mg a):vk P w K mg base CX0 1 a.Kw a.Kx ["self"] (yde a):=by
 exists T.Cm.F.ok,yww,u;obtain ⟨i,r,d,m,t,g,P,rfl,j,n,v,k⟩:=h;exists _,(yd (yt (pcT (yd8 rfl) T.An (pa1 (ym (pv 0) rfl))))),?_;exists 1,0;rfl';exists d,_,rfl,n,fun l b=>?_;have e:(pcs P).map (fun p=>kV p.1)=P.map fun q=>V.str q.nm:=by unfold pcs; rw [bS]; rfl
 rw [e];exact k l _ b ya (yx b)
theorem Sto.names {H:Hp} {st:Addr} {C:Cf} {P:List Pd} {X:Sx} {Q:VK} {E:XK} (h:Sto K a H st C P X) (k:∀ l H',H l=none->H' l=some (.lst (P.map fun q=>V.str q.nm))->yq H H'->Q (.ref l) H'):yde a [.ref st] H Q E:=by
 obtain ⟨f,r,d,c,n,p,o,i,m,t,g,L,j,U,s,rfl,rfl⟩:=h;exists st,f,d,_,_,_,g,rfl,s.me,s.pz.dk,s.pz.z,fun l H' b e S=>k l H' b ?_ S;rw [bS];exact e
#synth yuk ["self","text"] yrd
inductive ypg (a:Ads) (vs:List V) (H:Hp) (Q:VK) (E:XK):Prop
 | mk (st ds tx:Addr) (vl vp vc:V) (mo:Int) (xs:List V) (_:vs=[.ref st,.ref tx]) (_:H st=some (.ins a.A0 ds (wg vl (.int mo) vp vc))) (_:H tx=some (.lst xs)) (_:((xs.length:Int) <= mo->Q .non H)) (_:(¬ (xs.length:Int) <= mo->E (.ref a.Aj) none H))
theorem yxt (T:Txt K mg a):vk P w K mg base (CXe P w) 1 a.L1 a.L3 ["self","text"] (ypg a):=by
 exists T.Gh.F.okE,yuk,t;obtain ⟨i,p,r,k,n,g,d,q,rfl,j,b,l,o⟩:=h;exists _,(yd (wz (y7 yi5 (pcB yo T.Ac (pa1 (pv 1))) (ym (pv 0) rfl) (vh _)) (yd (w5 rfl T.N8 T.Cv (pa1 wy))) ve)),?_;exists 2,0;rfl';refine zg (SqL.of b) ?_;rfl';refine z0 (fun f=>?_) (fun f=>?_)
 .rfl';exists by walk_at "len",o (by omega)
 .exact l (by omega)
#synth yyf ["self","name"] ysa
inductive ywe (K:W.Frag) (a:Ads) (vs:List V) (H:Hp) (Q:VK) (E:XK):Prop
 | mk (st ds d:Addr) (vl vm vc:V) (n:Nat) (kd:Nat->Fin 3) (ps:Nat->List Int) (w:Nat) (P:List Pc) (x:V) (nt:String) (_:vs=[.ref st,x]) (_:H st=some (.ins a.A0 ds (wg vl vm (.ref d) vc))) (_:Į a H d n kd ps w P) (_:xp K H x (.type nt)) (_:(∀ s,x=.str s->s.length <= 100000)) (_:(nmV x=false->∀ H',yq H H'->E (.ref a.Ah) none H')) (_:(∀ b,x=.str b->nmS b=true->(∀ q,q∈P->q.nm≠b)->∀ H',yq H H'->E (.ref a.A7) none H')) (_:(∀ r,r∈P->x=.str r.nm->nmS r.nm=true->∀ H',yq H H'->Q (.ref r.ob) H'))
theorem yd1 (T:Txt K mg a):vk P w K mg base (CXe P w) 3 a.L8 a.L9 ["self","name"] (ywe K a):=by
 exists T.Cc.F.okE,yyf,i;obtain ⟨D,B,d,I,J,L,n,O,v,w,P,x,p,rfl,g,z,u,N,C,R,M⟩:=h;exists _,(yg (wz (yh6 (yai (đ i) (ud (yii T) i.m T.Ec yz (pa1 (pv 1))) (ym (pv 0) rfl))) (yd (w5 rfl T.N9 T.Cw (pa1 wy))) ve) (yd (yt (ú (đ i) (ym (pv 0) rfl) (pv 1) (fun _ _=>rfl))))),?_;exists 2,0;rfl';exists x,p,rfl,u,N,fun j q f=>?_,fun j q f=>C j q f;obtain ⟨b,rfl,t⟩:=yvf j;have l:=f _ _ g;have c:=z.same f;rfl';rcases yz4 P b with ⟨r,e,rfl⟩ | o
 .exists d,_,rfl,c.get e,?_;exists false,rfl,ē ?_;rfl';exists d,_,rfl,c.get e,?_;exact M r e rfl t _ f
 .exists d,_,rfl,c.getNo o,?_;exists true,rfl,ī ?_;rfl';exists by walk_at "len",R b rfl t o _ f
#synth yza ["self","name","base"] yro
inductive yp4 (K:W.Frag) (a:Ads) (vs:List V) (H:Hp) (Q:VK) (E:XK):Prop
 | mk (st ds d:Addr) (vl vm vc:V) (n:Nat) (kd:Nat->Fin 3) (ps:Nat->List Int) (w:Nat) (P:List Pc) (b:Str) (x:Option Str) (_:vs=[.ref st,.str b,baV x]) (_:H st=some (.ins a.A0 ds (wg vl vm (.ref d) vc))) (_:Į a H d n kd ps w P) (_:(∀ y,x=some y->nmS y=true/\y.length <= 100000)) (_:((∃ r,r∈P/\r.nm=b)->E (.ref a.B6) none H)) (_:((∀ q,q∈P->q.nm≠b)->(∀ y,x=some y->(∀ q,q∈P->q.nm≠y)->∀ H',yq H H'->E (.ref a.A7) none H')/\(∀ L,To P x L->(P.length=60->∀ H',yq H H'->E (.ref a.C9) none H')/\(P.length≠60->∀ H',yq H H'->Q .non H'))))
theorem yy0 (T:Txt K mg a):vk P w K mg base (CXe P w) 4 a.L6 a.L7 ["self","name","base"] (yp4 K a):=by
 exists T.Gi.F.okE,yza,G;obtain ⟨J,D,d,L,M,N,n,O,v,w,P,b,x,rfl,f,g,Z,X,k2⟩:=h;exists _,(yg (wz (yh6 (yws (đ G) (pv 1) (ym (pv 0) rfl))) (yd (w5 rfl T.P5 T.Ep (pa1 wy))) ve) (yg (wz (y7 Ŝ (pv 2) ý (vh _)) (yd (yp (vw (pv 0) T.A3 T.Cc.m (yd1 T) G.m T.Cc.B .nil yz (pa1 (pv 2))))) ve) (yd (wz (y7 zy (pcB ygk T.Ac (pa1 (ym (pv 0) rfl))) (vg rfl T.Dw) (vh _)) (yd (w5 rfl T.Pl T.He (pa1 wy))) ve)))),?_;exists 3,0;rfl';rcases yz4 P b with ⟨r,c,rfl⟩ | C
 .exists d,_,rfl,g.get c,?_;exists true,rfl,ī ?_;rfl';exists by walk_at "len",X ⟨r,c,rfl⟩
 .exists d,_,rfl,g.getNo C,?_;exists false,rfl,ē ?_;obtain ⟨k3,I⟩:=k2 C;have R:(pcs P).length=P.length:=bf _;rfl'
  cases x with
  | none =>
   refine yn6 (fun _=>?_) (fun z=>absurd rfl z);obtain ⟨j,o⟩:=I [] rfl;rfl';exists d,_,rfl,g.dk,?_;rfl';refine z0 (fun k=>?_) (fun k=>?_)
   .rfl';exists by walk_at "len",j (by omega) _ (yq.refl _)
   .rfl';exact o (by omega) _ (yq.refl _)
  | some y =>
   refine yn6 (fun z=>nomatch z) (fun _=>?_)
   obtain ⟨l,t⟩:=Z y rfl;rfl';exists J,D,d,L,M,N,n,O,v,w,P,.str y,"str",rfl,f,g,.str y,(fun s e=>by cases e; exact t),(fun z=>by rw [show nmV (.str y)=nmS y from rfl,l] at z; cases z),(fun b e _ p U S=>by cases e; exact k3 y rfl p U S),fun r c e _ H1 i=>?_;obtain rfl:y=r.nm:=by cases e; rfl
   obtain ⟨j,o⟩:=I _ ⟨r,c,rfl,rfl⟩;have u:=i _ _ f;rfl';exists d,_,rfl,i _ _ g.dk,?_;rfl';refine z0 (fun k=>?_) (fun k=>?_)
   .rfl';exists by walk_at "len",j (by omega) _ i
   .rfl';exact o (by omega) _ i
#synth yiy ["self","name","links"] ["self","name"] ysx
inductive yju (a:Ads) (vs:List V) (H:Hp) (Q:VK) (E':XK):Prop
 | mk (st ds d:Addr) (vl vm vc:V) (n:Nat) (kd:Nat->Fin 3) (ps:Nat->List Int) (w:Nat) (P:List Pc) (x:Option Str) (L:List (Str × List Int)) (_:vs=[.ref st,baV x]) (_:H st=some (.ins a.A0 ds (wg vl vm (.ref d) vc))) (_:Į a H d n kd ps w P) (_:To P x L) (_:∀ (l:Addr) (H':Hp),H l=none->H' l=some (.lst (nmL L))->yq H H'->Q (.ref l) H')
theorem yvl (T:Txt K mg a):vk P w K mg base CX0 1 a.La a.Lb ["self","name"] (yju a):=by
 exists T.Gj.F.ok,yiy,Z;obtain ⟨J,Y,d,vl,vm,vc,n,kd,W,w,P,x,L,rfl,q,B,N,k⟩:=h;exists _,(yg (yv (i:=2) yiy.nd rfl (Or.inl rfl) (wx ub)) (yg (ji PassesOwn.never (y7 Ŝ (pv 1) ý (vh _)) (yg (yp (ue PySem.F.plainAttrs_list PySem.F.slot_list_append PySem.F.type_list_append v7 (pv 2) (pa1 (pv 1)))) (yd (yv (i:=1) yiy.nd rfl (Or.inl rfl) (ym (ú (đ Z) (ym (pv 0) rfl) (pv 1) (fun _ _=>rfl)) rfl))))) (yg (yp (yd5 PySem.F.plainAttrs_list PySem.F.slot_list_reverse PySem.F.type_list_reverse Ġ (pv 2))) (yd (yt (pv 2)))))),?_;exists 2,1;rfl';exists by walk_at "len",fun l g=>?_
 rfl'
 refine ⟨fun m σ' G=>∃ (y:Option Str) (R S:List (Str × List Int)),σ'=[some (.ref J),some (baV y),some (.ref l)]/\To P y R/\R++S=L/\G l=some (.lst (nmL S).reverse)/\yq H G/\m=R.length,
  ⟨_,x,L,[],rfl,N,List.append_nil L,ya,yx g,rfl⟩,?_⟩
 rintro m σ2 G ⟨y,R,S,rfl,M,f,j,C,rfl⟩;have U:=C _ _ q;have a3:=B.same C;have D:=To.len B N;have a1:S.length <= 61:=by rw [<- f,bj] at D; omega
 rfl'
 cases y with
 | none =>
  refine yn6 (fun _=>?_) (fun z=>absurd rfl z);have e:S=L:=by rw [show R=[] from M] at f; exact f
  rfl';refine uc j ?_;rfl';refine yah j ?_;rw [List.reverse_reverse,e];rfl';exact k l _ g ya fun b o z=>yf (yb z g) (C _ _ z)
 | some b =>
  refine yn6 (fun z=>nomatch z) (fun _=>?_)
  obtain ⟨r,p,rfl,u⟩:=M;exists _,fun σ' H' z=>z,?_;rfl';refine uc j ?_;rfl';refine w9 j (y8 (by unfold nmL; rw [List.length_reverse,bf]; omega)) ?_;have c:yq H (upd G l (HO.lst ((nmL S).reverse++[baV (some r.nm)]))):=fun b o e=>yf (yb e g) (C _ _ e);have t:upd G l (HO.lst ((nmL S).reverse++[baV (some r.nm)])) l=some (HO.lst ((nmL S).reverse++[baV (some r.nm)])):=ya;generalize upd G l (HO.lst ((nmL S).reverse++[baV (some r.nm)]))=G' at c t ⊢;have O:=c _ _ q;have v:=B.same c;have a0:=(v.ob r p).1;rfl';exists d,_,rfl,v.get p,?_;rfl';exists r.path.length,?_,r.bs,r.path,(r.nm,r.tx) :: S,rfl,B.wf r p,?_,?_,c,rfl
  .rw [u,bj,cF];omega
  .rw [<- f,u,bR];rfl
  .rw [ype];exact t
#synth yit ["self","name","links","link"] ["self","name"] yrg
inductive yea (K:W.Frag) (a:Ads) (vs:List V) (H:Hp) (Q:VK) (E':XK):Prop
 | mk (st ds ll d c dc p cl ct:Addr) (lk tp:Nat->Addr) (n:Nat) (kd:Nat->Fin 3) (ps:Nat->List Int) (mo w:Nat) (P:List Pc) (L:List (Str × List Int)) (ks:List V) (U:Addr->Prop) (x:Option Str) (L':List (Str × List Int)) (_:vs=[.ref st,baV x]) (_:j7 K a H st ds ll d c dc p cl ct lk tp n kd ps mo w P L ks U) (_:To P x L') (_:∀ (c' dc' p' cl' ct':Addr) (ks':List V) (U':Addr->Prop) (H':Hp),j7 K a H' st ds ll d c' dc' p' cl' ct' lk tp n kd ps mo w P L' ks' U'->Go (StO st c cl ct U) H H' (StO st c' cl' ct' U')->NK H ks ks'->(V.non∈ks'->V.non∈ks.take L'.length)->Q (.ref c') H')
theorem yw7 (T:Txt K mg a):vk P w K mg base (CXe P w) 12 a.Lc a.Ld ["self","name"] (yea K a):=by
 exists T.Gk.F.okE,yit,hr;obtain ⟨O,ds,ll,d,c,dc,p,cl,ct,lk,tp,n,kd,ps,mo,w,P,L,ks,U,x,t,rfl,N,hL,k⟩:=h;have a9:=N.me;refine yi (yv (i:=2) yit.nd rfl (Or.inl rfl) (xo (pv 0) T.A3 T.Gj.m (yvl T) hr.m T.Gj.B .nil wv (pa1 (pv 1)))) ?_;refine yi (Ģ (wz (y7 (yik hr.units) (ym (ym (pv 0) rfl) rfl) (zj ť (pv 2) jz (jw (pcB yo T.Ac (pa1 (ym (ym (pv 0) rfl) rfl))))) (vh _)) (yd (y6 (pv 0) (je T.Eo (yh5 T) hr.m rfl T.En T.D0.B .nil yz (pa1 (ym (pv 0) rfl))) rfl)) ve)) ?_;refine yi (PS.nox (zr PassesOwn.never rfl (we (zj ť (pv 2) (jw (pcB yo T.Ac (pa1 (ym (ym (pv 0) rfl) rfl)))) jz)) (wt (i:=3) yit.nd rfl (Or.inl rfl)) (yd (yp (vw (ym (pv 0) rfl) T.Ai T.Ge.m (yzj T) hr.m T.Ge.B .nil ww (pac (pv 3) (pac (ym (ú (đ hr) (ym (pv 0) rfl) (pv 3) (fun _ _=>rfl)) rfl) (pa1 (ym (pv 0) rfl))))))))) ?_;exists _,(yd (yt (ym (pv 0) rfl))),?_;exists 2,2;rfl';exists O,ds,d,_,_,_,n,kd,ps,w,P,x,t,rfl,a9,N.pz,hL,fun l H1 aB ad S1=>?_;have au:=S1 _ _ a9;have aa:=N.same S1;have aC:=aa.ch.me;have ac:=aa.ch.hl;obtain ⟨y,hy⟩:=N.way;have ar:=To.len N.pz hL;have aw:=To.len N.pz hy;exists fun σ2 G=>∃ (W R p2 j f:Addr) (D:List V) (U2:Addr->Prop) (C:List (Str × List Int)),σ2=[some (.ref O),some (baV x),some (.ref l),none]/\j7 K a G O ds ll d W R p2 j f lk tp n kd ps mo w P C D U2/\Go (StO O c cl ct U) H G (StO O W j f U2)/\C=t.take C.length/\C.length <= t.length/\G l=some (.lst (nmL t))/\NK H ks D/\(V.non∈D->V.non∈ks.take t.length),?_,?_
 .rfl';refine zg (SqL.of ac) ?_;rfl';refine yll (SqL.of ad) fun q hq0=>?_;rw [ŝ,ydg,ycp];exists hq0,H2,S2,e2;have a5:=S1.trans S2;have J:=N.same a5;have a4:=J.me;have Z:=S2 _ _ ad;rw [ö] at e2;have a3:=J.ch.hl;rw [ö] at a3;refine ymo _ _ (hy.ok N.pz) (fun z hz=>hL.ok N.pz z (by obtain ⟨u,hu,rfl⟩:=bq.mp hz; exact bq.mpr ⟨u,List.mem_of_mem_take hu,rfl⟩)) (SqL.of a3) (SqL.of e2) ?_;by_cases he:L.map (·.1)=(t.take L.length).map (·.1)
  .rw [bx he];exists false,rfl,ē ?_;have e3:=To.ahead N.pz.nd N.pz.wf hy hL (by rw [ycp]; exact yui he);have e4:=congrArg List.length e3;rw [bX] at e4;exists c,dc,p,cl,ct,ks,U,L,rfl,J,Go.refl.same a5,e3,by omega,Z,.refl,fun z=>by rw [cE (by rw [N.ch.tx.len]; omega)]; exact z
  .rw [bA he];exists true,rfl,ī ?_;rfl';intro c' a2 nc a6 aE;have SQ:yq H2 (upd (upd H2 a2 (.own c')) c' (.ins a.A1 a2 [])):=fun b o e=>by rw [yk (yb e nc),yk (yb e a6)]; exact e
   exists c',a2,ll,n,lk,tp,kd,ps,rfl,ya,SQ _ _ J.lo,J.n1,J.n6,J.row.same SQ,fun p' ao ag U' HE X a8 BE _=>⟨rfl,?_⟩;obtain ⟨hR,gR,SE,hN⟩:=J.re nc a6 X a8 BE;have ax:=SE _ _ a4;rfl'
   exists c',a2,p',ao,ag,[],U',[],rfl,hR,gR.ahead a5,rfl,bL _,yf (fun z=>by rw [z,a4] at Z; cases Z) (SE _ _ Z),.nil,fun z=>nomatch z
 .rintro σ2 G ⟨W,R,p2,j,f,D,U2,C,rfl,hG,go,af,an,aj,ak,ap⟩;have av:=hG.me;have aA:=hG.ch.me;have a7:=hG.ch.hl;rfl';refine zg (SqL.of a7) ?_;rfl';refine yll (SqL.of aj) fun q hq0=>?_;rw [ŝ,ycw];have S1:=yx (o:=(HO.lst ((nmL t).drop C.length))) hq0;have e1:upd G q (HO.lst ((nmL t).drop C.length)) q=some (HO.lst ((nmL t).drop C.length)):=ya;generalize upd G q (HO.lst ((nmL t).drop C.length))=G1 at S1 e1 ⊢
  have ah:∀ S F,Go (StO O W j f U2) G1 F (StO O W j f S)->j7 K a G O ds ll d W R p2 j f lk tp n kd ps mo w P C D U2->F q=some (HO.lst ((nmL t).drop C.length)):=fun S F g hG=>g.fr _ _ e1 fun w=>by
   obtain ⟨o,e⟩:=hG.lvO q w;rw [hq0] at e;cases e
  exists q,rfl,⟨_,SqL.of e1⟩,ug (K:=K) (a:=q) (xs:=(nmL t).drop C.length) (fun i σ2 F=>∃ (v:Option V) (I:List V) (S:Addr->Prop),σ2=[some (.ref O),some (baV x),some (.ref l),v]/\j7 K a F O ds ll d W R p2 j f lk tp n kd ps mo w P (t.take (C.length+i)) I S/\Go (StO O W j f U2) G1 F (StO O W j f S)/\NK G1 D I/\(V.non∈I->V.non∈D)) ?_ ?_ ?_ ?_
  .rw [Nat.add_zero,<- af];exists none,D,U2,rfl,hG.same S1,Go.refl,.refl,id
  .rintro i σ2 F _ ⟨v,I,S,rfl,M,g,Y,a0⟩;exact SqL.of (ah S F g hG)
  .rintro i z σ2 F hz ⟨v,I,S,rfl,M,g,Y,a0⟩
   have hj:C.length+i < t.length:=by
    rcases Nat.lt_or_ge (C.length+i) t.length with z | z
    .exact z
    .rw [bV (by rw [cM,ŝ]; omega)] at hz;cases hz
   obtain ⟨r,a1,e3,e4,e5⟩:=hL.at' N.pz.wf hj
   obtain rfl:z=.str r.nm:=by
    rw [List.getElem?_drop,ö,bS,br,bo hj,e3] at hz;cases hz;rfl
   have ae:=M.me;have ay:=M.ch.me;obtain ⟨as,ab⟩:=M.pz.ob r a1;rfl';exists d,_,rfl,M.pz.get a1,?_;rfl';have al:=M.pz.sz r a1;have hb:=M.wm;have hm:=ymh (L:=t.take (C.length+i)) (w:=w) (fun y hy=>(hL.sz N.pz y (List.mem_of_mem_take hy)).2) hb.2 (by rw [bX]; omega);have am:=M.mo1;have az:=yc9 (n:=n) (kd:=kd) (ps:=ps) (pre:=ā ((t.take (C.length+i)).map (·.2))) (ts:=r.tx) M.n1 M.n6 (θ _) (by omega);exists W,R,p2,j,f,n,kd,ps,t.take (C.length+i),I,mOf (t.take (C.length+i)),S,r.dl,r.nm,r.tx,[],mo,rfl,M.ch,by rw [bX]; omega,al.1,?_,fun w=>M.nw r.dl (.inr (.inr (.inr ⟨r,a1,.inr rfl⟩))) (.inr (.inr (.inr w))),(fun b hb=>by cases hb),by rw [List.append_nil]; omega,by omega,am,by omega,fun q3 U4 F2 ai X g2=>?_
   .rw [List.append_nil,<- e4];exact ab
   rw [<- ycs,<- e3,<- bZ hj] at X;obtain ⟨h4,g4⟩:=M.go X g2 ⟨_,e5⟩;rfl';exists _,_,U4,rfl,h4,g.trans g4,Y.app (fun q e=>by cases e; exact g.free ai),fun z=>a0 ((bP.mp z).elim id fun y=>by cases bJ.mp y)
  .rintro σ2 F ⟨v,I,S,rfl,M,g,Y,a0⟩;rw [cM,ŝ,Nat.add_sub_cancel' an,cy] at M;have ae:=M.me;rfl';exact k W R p2 j f I S F M (go.trans (g.ahead S1)) (ak.trans Y fun q e=>go.free (S1.free e)) fun z=>ap (a0 z)
theorem Â.lvW {H:Hp} {c ll:Addr} {n:Nat} {kd:Nat->Fin 3} {ps:Nat->List Int} {ks:List V} {M:Nat} {W:Addr->Prop} (h:Â K a H c dc p ll tl n kd ps L ks M W):∀ x,StW c ll tl W x->∃ o,H x=some o:=fun x b=>by
 rcases b with z | z | z | z
 .exists _,by rw [z]; exact h.me
 .exists _,by rw [z]; exact h.hl
 .exists _,by rw [z]; exact h.ht
 .exact h.fz.live x z
theorem Â.butM {H H':Hp} {c ll:Addr} {n:Nat} {kd:Nat->Fin 3} {ps:Nat->List Int} {ks:List V} {M:Nat} {W:Addr->Prop} (h:Â K a H c dc p ll tl n kd ps L ks M W) {o:HO} (hq:H q=some o) (ho:vaw o=true) (nq:¬ StW c ll tl W q) (B:But q H H'):Â K a H' c dc p ll tl n kd ps L ks M W:=by
 have b:∀ {x:Addr} {d:List V},H x=some (.lst d)->x≠q:=fun {x d} e z=>by rw [z,hq] at e; cases e; cases ho
 exists B _ _ h.me fun z=>nq (.inl z.symm),h.fz.frame (W2:=fun x=>x=q) (fun x z=>⟨o,by rw [show x=q from z]; exact hq,.inl ho⟩) (fun x w z=>nq (.inr (.inr (.inr (by rw [<- show x=q from z]; exact w))))) (fun x o e f=>B x o e f),B _ _ h.hl (b h.hl),B _ _ h.ht (b h.ht),h.tx.mono fun x d e g=>⟨B _ _ e (b e),g⟩,h.nc,h.nll,h.ntl,h.ne
theorem To.more {P:List Pc} {q:Pc} (h:To P x L):To (P++[q]) x L:=by
 cases x with
 | none=>exact h
 | some b =>
  obtain ⟨r,a,e⟩:=h;exists r,List.mem_append_left _ a,e
section
variable {H H1 H2 H3:Hp} {st ll d c cl ct:Addr} {lk:Nat->Addr} {n:Nat} {kd:Nat->Fin 3} {ps:Nat->List Int} {mo w:Nat} {P:List Pc} {ks ks':List V}
theorem j7.put (h:j7 K a H st ds ll d c dc p cl ct lk tp n kd ps mo w P L ks U) {b:Str} {r ob od:Addr} (hc:Â K a H1 c dc p cl ct n kd ps (L++[(b,ts)]) ks' (mOf L+6 * (dec ts).length) U') (g:Go (ChW cl ct U) H H1 (ChW cl ct U')) (hr0:H r=none) (hr:H1 r=some (.lst ((Ô n kd ps (ā (L.map (·.2))) ts).map V.int))) (hob0:H1 ob=none) (S:yq H1 H2) (hob:H2 ob=some (.ins a.A6 od (z6 (baV x) (.ref r))))
  (hL:To P x L) (hL6:L.length <= 60) (hts:Sgs ts) (htz:ts.length <= w) (hb1:nmS b=true) (hb2:PyData.strOk b=true) (hno:∀ q,q∈P->q.nm≠b) (hP:P.length < 60) :
  j7 K a (upd H2 d (.dK (pcs (P++[⟨b,x,L,ts,ob,od,r⟩])))) st ds ll d c dc p cl ct lk tp n kd ps mo w (P++[⟨b,x,L,ts,ob,od,r⟩]) (L++[(b,ts)]) ks' U'/\Go (fun y=>y=d\/StO st c cl ct U y) H (upd H2 d (.dK (pcs (P++[⟨b,x,L,ts,ob,od,r⟩])))) (fun y=>y=d\/StO st c cl ct U' y):=by
 have g1:Go (StW c cl ct U) H H1 (StW c cl ct U'):=g.or (Y:=fun x=>x=c);have f:∀ x o,H x=some o->(x=st\/x=ll\/x=d\/∃ q,q∈P/\(x=q.ob\/x=q.dl))->H2 x=some o:=fun x o e C=>S _ _ (g1.fr x o e (h.nw x C));have k:=f _ _ h.me (.inl rfl);have l:=f _ _ h.lo (.inr (.inl rfl));have j:=f _ _ h.pz.dk (.inr (.inr (.inl rfl)));have s:=g1.apart (fun x C=>h.lv x C) h.nw;have u:xl H2 n lk kd tp ps:=h.row.fr fun x M e=>S _ _ (g1.fr _ _ e (h.ch.noTup e));have A:Â K a H2 c dc p cl ct n kd ps (L++[(b,ts)]) ks' (mOf (L++[(b,ts)])) U':=by rw [ycs]; exact hc.same S
 have D:¬ StW c cl ct U' ob:=fun z=>by
  obtain ⟨o,e⟩:=hc.lvW ob z;rw [hob0] at e;cases e
 have I:¬ StW c cl ct U' r:=fun z=>by
  rcases z with z | z | z | z
  .rw [z,h.ch.me] at hr0; cases hr0
  .rw [z,h.ch.hl] at hr0; cases hr0
  .rw [z,h.ch.ht] at hr0; cases hr0
  .exact hc.fz.sh.ints hr (ykm h.n1 h.n6 (θ _)) z
 exists ⟨yf (fun z=>by rw [z,j] at k; cases k) k,h.n1,h.n6,yf (fun z=>by rw [z,j] at l; cases l) l,u.fr fun x M e=>yf (fun z=>by rw [z,j] at e; cases e) e,⟨ya,fun q i=>?_,?_,fun q i=>?_,fun q i=>?_,?_,fun q i=>?_⟩,A.butM j rfl (s d (.inr (.inr (.inl rfl)))) But.upd,fun y t=>?_,h.mo1,h.wm,⟨some b,_,bH _ (bJ.mpr rfl),rfl,rfl⟩⟩,⟨fun y o e E=>?_,fun y z=>?_,fun y o e=>?_⟩
 .rcases bP.mp i with z | z
  .have v:=f _ _ (h.pz.ob q z).1 (.inr (.inr (.inr ⟨q,z,.inl rfl⟩)));have m:=f _ _ (h.pz.ob q z).2 (.inr (.inr (.inr ⟨q,z,.inr rfl⟩)));exists yf (fun z=>by rw [z,j] at v; cases v) v,yf (fun z=>by rw [z,j] at m; cases m) m
  .obtain rfl:=bJ.mp z;have m:=S _ _ hr;exists yf (fun z=>by rw [show ob=d from z,j] at hob; cases hob) hob,yf (fun z=>by rw [show r=d from z,j] at m; cases m) m
 .rw [bz];refine List.nodup_append.mpr ⟨h.pz.nd,(by simp),fun y t z F e=>?_⟩;obtain ⟨q,i,rfl⟩:=bq.mp t;rw [List.map_singleton,bJ] at F;exact hno q i (e.trans F)
 .rcases bP.mp i with z | z
  .exact (h.pz.wf q z).more
  .obtain rfl:=bJ.mp z;exact hL.more
 .rcases bP.mp i with z | z
  .exact h.pz.sz q z
  .obtain rfl:=bJ.mp z;exists hts,htz,hL6,fun y t=>hL.sz h.pz y t
 .rw [bj,cF]; omega
 .rcases bP.mp i with z | z
  .exact h.pz.nm q z
  .obtain rfl:=bJ.mp z;exists hb1,hb2
 .rcases t with z | z | z | ⟨q,i,z⟩
  .exact s y (.inl z)
  .exact s y (.inr (.inl z))
  .exact s y (.inr (.inr (.inl z)))
  .rcases bP.mp i with B | B
   .exact s y (.inr (.inr (.inr ⟨q,B,z⟩)))
   .obtain rfl:=bJ.mp B;rcases z with z | z
    .rw [z]; exact D
    .rw [z]; exact I
 .exact yf (fun z=>E (.inl z)) (S _ _ (g1.fr y o e fun z=>E (.inr (.inr z))))
 .rcases z with z | z | z
  .exact .inl (.inl z)
  .exact .inl (.inr (.inl z))
  .exact (g1.nw y z).imp (fun z=>.inr (.inr z)) id
 .obtain ⟨G,J⟩:=g1.lv y o e;by_cases z:y=d
  .exists _,by rw [z]; exact ya
  .exists G,yf z (S _ _ J)
end
#synth yh8 ["self","name","text","base","signs","data"] ["self","name","text","base"] ye8
inductive yiz (K:W.Frag) (a:Ads) (vs:List V) (H:Hp) (Q:VK) (E:XK):Prop
 | mk (st ds ll d c dc p cl ct:Addr) (lk tp:Nat->Addr) (n:Nat) (kd:Nat->Fin 3) (ps:Nat->List Int) (mo w:Nat) (P:List Pc) (L:List (Str × List Int)) (ks:List V) (U:Addr->Prop) (b:Str) (x:Option Str) (tx:Addr) (ts:List Int) (_:vs=[.ref st,.str b,.ref tx,baV x]) (_:j7 K a H st ds ll d c dc p cl ct lk tp n kd ps mo w P L ks U) (_:nmS b=true) (_:PyData.strOk b=true) (_:Ì H tx ts 1000) (_:(∀ y,x=some y->nmS y=true)) (_:P.length < 60) (_:(mo < ts.length->∀ H',yq H H'->E (.ref a.Aj) none H')) (_:(ts.length <= mo->(∃ r,r∈P/\r.nm=b)->∀ H',yq H H'->E (.ref a.B6) none H')) (_:(ts.length <= mo->(∀ q,q∈P->q.nm≠b)->∀ y,x=some y->(∀ q,q∈P->q.nm≠y)->∀ H',yq H H'->E (.ref a.A7) none H')) (_:(ts.length <= mo->(∀ q,q∈P->q.nm≠b)->∀ L',To P x L'->ts.length <= w/\L'.length <= 60 /\
 ∀ (ob od dl c' dc' p' cl' ct':Addr) (ks':List V) (U':Addr->Prop) (H':Hp),j7 K a H' st ds ll d c' dc' p' cl' ct' lk tp n kd ps mo w (P++[⟨b,x,L',ts,ob,od,dl⟩]) (L'++[(b,ts)]) ks' U'->H ob=none->H dl=none->Go (fun y=>y=d\/StO st c cl ct U y) H H' (fun y=>y=d\/StO st c' cl' ct' U' y)->NK H ks ks'->Q .non H'))
theorem yvs (T:Txt K mg a):vk P w K mg base (CXe P w) 13 a.Cz a.Ky ["self","name","text","base"] (yiz K a):=by
 exists T.Pw.okE,yh8,v;obtain ⟨S,ds,ll,d,c,dc,p,cl,ct,lk,tp,n,kd,ps,mo,w,P,L,ks,U,b,x,tx,ts,rfl,R,X,ab,C,G,ak,kL,kT,kN,k⟩:=h;have ay:=R.me;refine yi (yp (ud (yii T) v.m T.Ec yz (pa1 (pv 1)))) ?_;refine yi (yv (i:=4) yh8.nd rfl (Or.inl rfl) (ud (vaa T) v.m T.Nn yz (pa1 (pv 2)))) ?_;refine yi (yp (ud (yug T) v.m T.Ms yz (pa1 (pv 3)))) ?_;refine yi (yp (vw (pv 0) T.A3 T.Gh.m (yxt T) v.m T.Gh.B .nil yz (pa1 (pv 4)))) ?_;refine yi (yp (vw (pv 0) T.A3 T.Gi.m (yy0 T) v.m T.Gi.B .nil yz (pac (pv 1) (pa1 (pv 3))))) ?_;refine yi (yv (i:=5) yh8.nd rfl (Or.inl rfl) (xo (vw (pv 0) T.A3 T.Gk.m (yw7 T) v.m T.Gk.B .nil yz (pa1 (pv 3))) T.Ai T.Gd.m (ywl T) v.m T.Gd.B .nil wv (pac (pv 1) (pa1 (pv 4))))) ?_;exists _,(yd (yhx (đ v) (ym (pv 0) rfl) (pv 1) (yb0 T.P1 (yx1 T) v.m rfl T.P0 T.Ed.B .nil wv (pac (pv 3) (pa1 (pv 5)))) rfl)),?_;exists 4,2;have av:=zn X;have F:∀ y,x=some y->nmS y=true/\y.length <= 8:=fun y e=>⟨G y e,zn (G y e)⟩;have am:=R.wm;have ar:=R.mo1;rfl';exists .str b,"str",rfl,.str b,(fun s e=>by cases e; omega),fun _ H1 S1=>?_,fun z=>by rw [show nmV (.str b)=nmS b from rfl,X] at z; cases z
 have f:=C.same S1;rfl';exists .ref tx,_,rfl,.lst f.l,.inr ⟨ts.map V.int,ycm f.l f.s (by have:=f.z; omega),fun sg H2 a1 a8 S2=>?_⟩;rfl'
 have O:∃ nt,xp K H2 (baV x) (.type nt):=by
  cases x with
  | none=>exists _,.non
  | some y=>exists _,.str y
 obtain ⟨nt,O⟩:=O
 have ae:baV x=.non\/nmV (baV x)=true:=by
  cases x with
  | none=>exact .inl rfl
  | some y=>exact .inr (F y rfl).1
 exists baV x,nt,rfl,O,(fun s e=>?_),fun _ H3 S3=>?_,fun z1 z2=>absurd ae fun z=>z.elim z1 fun z=>by rw [z2] at z; cases z
 .cases x with
  | none=>cases e
  | some y=>cases e; have:=(F _ rfl).2; omega
 have j:=S1.trans (S2.trans S3);have a5:=R.same j;have M:=a5.me;have I:=S3 _ _ a8;rfl';exists S,ds,sg,_,_,_,mo,_,rfl,M,I,fun u=>?_,fun z=>kL (by rw [bf] at z; omega) _ j;have u:ts.length <= mo:=by rw [bf] at u; omega
 rfl';exists S,ds,d,_,_,_,n,kd,ps,w,P,b,x,rfl,M,a5.pz,(fun y e=>⟨(F y e).1,by have:=(F y e).2; omega⟩),(fun hx=>kT u hx _ j),fun D=>⟨fun y e aj H4 S4=>kN u D y e aj _ (j.trans S4),fun L' hL=>⟨fun z=>absurd z (by omega),fun _ H4 S4=>?_⟩⟩;obtain ⟨an,al,k⟩:=k u D L' hL;have t:=j.trans S4;have a0:=R.same t;have aq:=a0.me;have J:=S4 _ _ I;rfl';exists S,ds,ll,d,c,dc,p,cl,ct,lk,tp,n,kd,ps,mo,w,P,L,ks,U,x,L',rfl,a0,hL,fun c' aa p' Z N ao U' H5 W g5 ad _=>?_;have ax:=W.ch.me
 have a3:¬ StO S c cl ct U sg:=fun z=>by
  obtain ⟨o,e⟩:=R.lvO sg z;rw [S1.free a1] at e;cases e
 have a7:=g5.fr _ _ J a3;have a2:¬ StO S c' Z N U' sg:=fun z=>(g5.nw sg z).elim a3 fun e=>by rw [J] at e; cases e
 have hm:=ymh (L:=L') (w:=w) (fun y hy=>(hL.sz R.pz y hy).2) am.2 (by omega);have aA:=ur ts;have aw:=C.z;rfl';exists c',aa,p',Z,N,n,kd,ps,L',ao,mOf L',U',sg,b,ts,rfl,W.ch,by omega,⟨a7,C.s,by omega⟩,fun z=>a2 (.inr (.inr (.inr (.inr z)))),by omega,fun r U6 H6 a9 ag ai g6=>?_
 have af:=g6.fr _ _ W.me fun z=>W.nw S (.inl rfl) (.inr z);have ac:=g6.fr _ _ W.pz.dk fun z=>W.nw d (.inr (.inr (.inl rfl))) (.inr z);rfl';intro ob od g a6 au;have SQ:yq H6 (upd (upd H6 od (.own ob)) ob (.ins a.A6 od [])):=fun b o e=>by rw [yk (yb e g),yk (yb e a6)]; exact e
 exists ob,od,baV x,.ref r,rfl,ya,fun H7 a4 B7=>⟨rfl,?_⟩;have S7:yq H6 H7:=fun y o e=>B7 _ _ (SQ _ _ e) (yb e g);have as:=S7 _ _ af;rfl';exists d,_,rfl,yls.k (k:=.inr b) (S7 _ _ ac) (y8 (by unfold pcs; rw [bf]; omega)),?_;rw [ŏ _ (yn2 D)];obtain ⟨z1,z2⟩:=W.put (x:=x) ai g6 a9 ag g S7 a4 hL al C.s an X ab D ak;have e8:pcs (P++[⟨b,x,L',ts,ob,od,r⟩])=pcs P++[(.inr b,.ref ob)]:=by unfold pcs; rw [bz]; rfl
 rw [e8] at z1 z2;have ah:∀ {y:Addr},H6 y=none->H y=none:=fun {y} e=>t.free (g5.free (g6.free e))
 exact k ob od r c' aa p' Z N _ U6 _ z1 (ah g) (t.free (g5.free a9)) (((g5.ahead t).or (Y:=fun y=>y=d)).trans z2) ((NK.refl.trans ad fun _ e=>t.free e).app fun q e=>nomatch e)
theorem Sto.putE {H:Hp} {st:Addr} {C:Cf} {P:List Pd} {X:Sx} {Q:VK} {E:XK} (h:Sto K a H st C P X) {b:Str} {tx:Addr} (hb:okN b) (htx:Ì H tx ts 1000) (hx:∀ y,x=some y->nmS y=true) (hP:P.length < 60)
  (kL:C.mo < ts.length->∀ H',yq H H'->E (.ref a.Aj) none H') (kT:ts.length <= C.mo->(∃ r,r∈P/\r.nm=b)->∀ H',yq H H'->E (.ref a.B6) none H') (kN:ts.length <= C.mo->(∀ q,q∈P->q.nm≠b)->∀ y,x=some y->(∀ q,q∈P->q.nm≠y)->∀ H',yq H H'->E (.ref a.A7) none H')
  (k:ts.length <= C.mo->(∀ q,q∈P->q.nm≠b)->∀ L,ToD P x L->ts.length <= C.w/\L.length <= 60/\∀ Y H',Sto K a H' st C (P++[⟨b,x,L,ts⟩]) Y->Gx X H H' Y->Q .non H'):yiz K a [.ref st,.str b,.ref tx,baV x] H Q E:=by
 obtain ⟨G,J,d,c,S,p,T,M,F,I,B,L0,N,U,s,rfl,rfl⟩:=h;rw [bf] at hP
 have l:∀ {z:Str},(∀ q,q∈B->q.nm≠z)->∀ q,q∈B.map Pc.pd->q.nm≠z:=fun {z} hz q v=>by
  obtain ⟨u,hu,rfl⟩:=bq.mp v;exact hz u hu
 exists st,G,J,d,c,S,p,T,M,F,I,C.n,C.kd,C.ps,C.mo,C.w,B,L0,N,U,b,x,tx,ts,rfl,s,hb.1,hb.2,htx,hx,hP,kL,(fun f ⟨r,Z,e⟩=>kT f ⟨r.pd,bq.mpr ⟨r,Z,rfl⟩,e⟩),(fun f m y e O=>kN f (l m) y e (l O)),fun f m L hL=>?_;obtain ⟨k1,k2,k⟩:=k f (l m) L (Ţ.mpr hL);exists k1,k2,fun ob od dl c' D p' o t j U' H' R A i g nk=>k _ H' ⟨G,J,d,c',D,p',o,t,F,I,_,_,j,U',R,by rw [bz]; rfl,rfl⟩ (Gx.of g nk fun q v=>?_);rcases bP.mp v with z | z
 .exact .inl z
 .rw [bJ.mp z];exact .inr ⟨A,i⟩
theorem Sto.put {H:Hp} {st:Addr} {C:Cf} {P:List Pd} {X:Sx} {Q:VK} {E:XK} (h:Sto K a H st C P X) {b:Str} {tx:Addr} (hb:okN b) (htx:Ì H tx ts C.w) (hL:ToD P x L) (hno:∀ q,q∈P->q.nm≠b) (hP:P.length < 60)
  (k:∀ Y H',Sto K a H' st C (P++[⟨b,x,L,ts⟩]) Y->Gx X H H' Y->Q .non H'):yiz K a [.ref st,.str b,.ref tx,baV x] H Q E:=by
 have j:=h.cf;have i:=htx.z
 have f:∀ y,x=some y->∃ r,r∈P/\r.nm=y:=fun y e=>by
  subst e;obtain ⟨r,c,e,_⟩:=hL;exact ⟨r,c,e⟩
 refine h.putE hb ⟨htx.l,htx.s,by omega⟩ (fun y e=>?_) hP (fun z=>absurd z (by omega)) (fun _ ⟨r,c,e⟩=>absurd e (hno r c)) (fun _ _ y e g=>?_) fun _ _ m d=>⟨i,?_,?_⟩
 .obtain ⟨r,c,e⟩:=f y e;rw [<- e];exact (h.nm r c).1
 .obtain ⟨r,c,e⟩:=f y e;exact absurd e (g r c)
 .have:=d.len h.pw;omega
 .rw [ToD.uniq h.nd d hL];exact k
#synth ywt ["self","name"] yq7
inductive Ğ (K:W.Frag) (a:Ads) (vs:List V) (H:Hp) (Q:VK) (E:XK):Prop
 | mk (st ds d:Addr) (vl vm vc:V) (n:Nat) (kd:Nat->Fin 3) (ps:Nat->List Int) (w:Nat) (P:List Pc) (x:V) (nt:String) (_:vs=[.ref st,x]) (_:H st=some (.ins a.A0 ds (wg vl vm (.ref d) vc))) (_:Į a H d n kd ps w P) (_:xp K H x (.type nt)) (_:(∀ s,x=.str s->s.length <= 100000)) (_:(nmV x=false->∀ H',yq H H'->E (.ref a.Ah) none H')) (_:(∀ b,x=.str b->nmS b=true->(∀ q,q∈P->q.nm≠b)->∀ H',yq H H'->E (.ref a.A7) none H')) (_:(∀ r,r∈P->x=.str r.nm->nmS r.nm=true->∀ l H',H l=none->H' l=some (.lst ((r.by n kd ps).map V.int))->yq H H'->Q (.ref l) H'))
theorem ymq (T:Txt K mg a):vk P w K mg base (CXe P w) 4 a.Le a.Lf ["self","name"] (Ğ K a):=by
 exists T.Di.F.okE,ywt,G;obtain ⟨t,q,d,u,v,y,n,z,k,w,P,x,o,rfl,g,p,C,O,I,R,N⟩:=h;exists _,(yd (yt (pcT wo T.An (pa1 (ym (vw (pv 0) T.A3 T.Cc.m (yd1 T) G.m T.Cc.B .nil yz (pa1 (pv 1))) rfl))))),?_;exists 2,0;rfl';exists t,q,d,u,v,y,n,z,k,w,P,x,o,rfl,g,p,C,O,I,R,fun r b e L S i=>?_;obtain ⟨J,f⟩:=(p.same i).ob r b;rfl';exists r.dl,_,rfl,.inl (SqL.of f),fun l c=>?_;exact N r b e L l _ (i.free c) ya (i.trans (yx c))
theorem Sto.bytesof {H:Hp} {st:Addr} {C:Cf} {P:List Pd} {X:Sx} {Q:VK} {E:XK} (h:Sto K a H st C P X) {b:Str} (hb:nmS b=true) (k1:(∀ q,q∈P->q.nm≠b)->∀ H',yq H H'->E (.ref a.A7) none H')
  (k2:∀ r,r∈P->r.nm=b->∀ l H',H l=none->H' l=some (.lst ((r.by C).map V.int))->yq H H'->Q (.ref l) H'):Ğ K a [.ref st,.str b] H Q E:=by
 obtain ⟨o,J,d,c,D,p,F,y,B,L,v,G,A,U,s,rfl,rfl⟩:=h;have m:=zn hb;exists st,o,d,_,_,_,C.n,C.kd,C.ps,C.w,v,.str b,"str",rfl,s.me,s.pz,.str _,(fun x e=>by cases e; omega),(fun z=>by rw [show nmV (.str b)=nmS b from rfl,hb] at z; cases z),(fun I e _ f=>?_),fun r g e _ l H' i k S=>?_
 .cases e;refine k1 fun q j=>?_;obtain ⟨u,t,rfl⟩:=bq.mp j;exact f u t
 .cases e;exact k2 r.pd (bq.mpr ⟨r,g,rfl⟩) rfl l H' i k S
#synth yw9 ["self","name"] yst
inductive ż (K:W.Frag) (a:Ads) (vs:List V) (H:Hp) (Q:VK) (E:XK):Prop
 | mk (st ds d:Addr) (vl vm vc:V) (n:Nat) (kd:Nat->Fin 3) (ps:Nat->List Int) (w:Nat) (P:List Pc) (x:V) (nt:String) (_:vs=[.ref st,x]) (_:H st=some (.ins a.A0 ds (wg vl vm (.ref d) vc))) (_:Į a H d n kd ps w P) (_:xp K H x (.type nt)) (_:(∀ s,x=.str s->s.length <= 100000)) (_:(nmV x=false->∀ H',yq H H'->E (.ref a.Ah) none H')) (_:(∀ b,x=.str b->nmS b=true->(∀ q,q∈P->q.nm≠b)->∀ H',yq H H'->E (.ref a.A7) none H')) (_:(∀ r,r∈P->x=.str r.nm->nmS r.nm=true->∀ H',yq H H'->Q (baV r.bs) H'))
theorem yyh (T:Txt K mg a):vk P w K mg base (CXe P w) 4 a.Lg a.Lh ["self","name"] (ż K a):=by
 exists T.Gm.F.okE,yw9,z;obtain ⟨l,k,d,p,q,t,n,u,g,w,P,x,i,rfl,c,j,v,L,C,M,J⟩:=h;exists _,(yd (yt (ym (vw (pv 0) T.A3 T.Cc.m (yd1 T) z.m T.Cc.B .nil yz (pa1 (pv 1))) rfl))),?_;exists 2,0;rfl';exists l,k,d,p,q,t,n,u,g,w,P,x,i,rfl,c,j,v,L,C,M,fun r b e G N o=>?_;have D:=((j.same o).ob r b).1;rfl';exact J r b e G _ o
theorem Sto.baseof {H:Hp} {st:Addr} {C:Cf} {P:List Pd} {X:Sx} {Q:VK} {E:XK} (h:Sto K a H st C P X) {b:Str} (hb:nmS b=true) (k1:(∀ q,q∈P->q.nm≠b)->∀ H',yq H H'->E (.ref a.A7) none H')
  (k2:∀ r,r∈P->r.nm=b->∀ H',yq H H'->Q (baV r.bs) H'):ż K a [.ref st,.str b] H Q E:=by
 obtain ⟨k,F,d,c,y,p,A,o,v,G,m,B,t,U,s,rfl,rfl⟩:=h;have j:=zn hb;exists st,k,d,_,_,_,C.n,C.kd,C.ps,C.w,m,.str b,"str",rfl,s.me,s.pz,.str _,(fun x e=>by cases e; omega),(fun z=>by rw [show nmV (.str b)=nmS b from rfl,hb] at z; cases z),(fun D e _ f=>?_),fun r g e _ H' S=>?_
 .cases e;refine k1 fun q i=>?_;obtain ⟨u,l,rfl⟩:=bq.mp i;exact f u l
 .cases e;exact k2 r.pd (bq.mpr ⟨r,g,rfl⟩) rfl H' S
theorem yyc (x:Option Str) (b:Str):vde (baV x) (.str b)=true/\decide (baV x=.str b)=decide (x=some b):=by
 cases x with
 | none=>exists rfl,by rw [bA (fun z=>nomatch z),bA (fun z=>nomatch z)]
 | some y =>
  exists rfl,?_;by_cases e:y=b
  .rw [bx (by rw [e]; rfl),bx (by rw [e])]
  .rw [bA (fun z=>e (by cases z; rfl)),bA (fun z=>e (by cases z; rfl))]
#synth yw2 ["self","name"] ysm
inductive yht (K:W.Frag) (a:Ads) (vs:List V) (H:Hp) (Q:VK) (E:XK):Prop
 | mk (st ds ll d c dc p cl ct:Addr) (lk tp:Nat->Addr) (n:Nat) (kd:Nat->Fin 3) (ps:Nat->List Int) (mo w:Nat) (P:List Pc) (L:List (Str × List Int)) (ks:List V) (U:Addr->Prop) (x:V) (nt:String) (_:vs=[.ref st,x]) (_:j7 K a H st ds ll d c dc p cl ct lk tp n kd ps mo w P L ks U) (_:xp K H x (.type nt)) (_:(∀ s,x=.str s->s.length <= 100000)) (_:(nmV x=false->∀ H',yq H H'->E (.ref a.Ah) none H')) (_:(∀ b,x=.str b->nmS b=true->(∀ q,q∈P->q.nm≠b)->∀ H',yq H H'->E (.ref a.A7) none H')) (_:(∀ r,r∈P->x=.str r.nm->(∃ q,q∈P/\q.bs=some r.nm)->∀ H',yq H H'->E (.ref a.Be) none H')) (_:(∀ r,r∈P->x=.str r.nm->(∀ q,q∈P->q.bs≠some r.nm) ->
 ∀ (c' dc' p' cl' ct':Addr) (U':Addr->Prop) (H':Hp),j7 K a H' st ds ll d c' dc' p' cl' ct' lk tp n kd ps mo w (P.filter fun q=>decide (q.nm≠r.nm)) [] [] U'->Go (fun y=>y=d\/StO st c cl ct U y) H H' (fun y=>y=d\/StO st c' cl' ct' U' y)->Q .non H'))
theorem yv9 (T:Txt K mg a):vk P w K mg base (CXe P w) 10 a.Li a.Lj ["self","name"] (yht K a):=by
 exists T.Gn.F.okE,yw2,hr;obtain ⟨st,ds,ll,d,c,dc,p,cl,ct,lk,tp,n,kd,ps,mo,w,P,L,ks,U,x,nt,rfl,hS,ty,hz,k1,k2,k3,k4⟩:=h;have a3:=hS.me;exists _,(yg (yp (vw (pv 0) T.A3 T.Cc.m (yd1 T) hr.m T.Cc.B .nil yz (pa1 (pv 1)))) (yg (wz (xu (pcB (yj7 rfl) T.Nu (pa1 (ypx (vq (js:=[1]) (ys:=["name"]) rfl (ypr (ym (pv 0) rfl)) (fun C s2 H2 fp=>(zl zy (yb5 (K:=K) rfl (pv 0) rfl) (pv 1) (vh _))) rfl rfl (hyc:=(all_cons rfl yr)) (hrel:=(all_cons rfl yr))))))) (yd (w5 rfl T.P6 T.Er (pa1 wy))) ve) (yg (yp (ykx (ym (pv 0) rfl) (pv 1) ⟨rfl,rfl,rfl,rfl⟩)) (yd (y6 (pv 0) (je T.Eo (yh5 T) hr.m rfl T.En T.D0.B .nil yz (pa1 (ym (pv 0) rfl))) rfl))))),?_;exists 2,0;rfl';exists st,ds,d,_,_,_,n,kd,ps,w,P,x,nt,rfl,a3,hS.pz,ty,hz,k1,k2,fun r J e hb H1 S1=>?_;subst e;have f:=hS.same S1;have a7:=f.me;rfl';have j:=f.pz.dk;exists d,pcs P,rfl,j,fun o D hD=>?_;have Z:(pcs P).length=P.length:=bf _;have ab:=f.pz.z;have a1:D≠d:=fun z=>by rw [z,ya] at hD; cases hD
 refine ye0 (fun i G=>G D=some (.lst ((P.take i).map fun q=>V.bl (decide (q.bs=some r.nm))))/\yq (upd H1 d (.frz o (.dK (pcs P)))) G) ⟨ya,yx hD⟩ (fun i G _ z=>z.2 _ _ ya) (fun i kk v G N hi z=>?_) (fun G z=>?_)
 .obtain ⟨gD,S⟩:=z;rw [Z] at hi;have l:P[i]?=some P[i]:=bo hi;unfold pcs at N;rw [br,l] at N;obtain rfl:v=.ref (P[i]).ob:=by cases N; rfl
  have t:=(f.pz.ob _ (cg hi)).1;have a6:=S _ _ (yf (fun z=>by rw [z,j] at t; cases t) t);rfl';obtain ⟨b1,b2⟩:=yyc (P[i]).bs r.nm;exists b1,?_;rw [b2];refine u9 (n:=(pcs P).length) gD (y8 (by rw [bf,bX]; omega)) (by omega) ⟨?_,fun y o e=>yf (yb e hD) (S _ _ e)⟩;rw [ya,bZ hi,bz];rfl
 .obtain ⟨gD,S⟩:=z;rw [Z,cy] at gD;exists d,o,.dK (pcs P),(fun o u e=>by rw [j] at e; cases e),S _ _ ya,?_
  have S3:yq H1 (upd G d (.dK (pcs P))):=fun y o' e=>by
   by_cases z:y=d
   .rw [z,ya]; rw [z,j] at e; exact e
   .exact yf z (S _ _ (yf z e))
  have R:(upd G d (.dK (pcs P))) D=some (.lst ((P.map fun q=>decide (q.bs=some r.nm)).map V.bl)):=yf a1 (by rw [gD,bS]; rfl);generalize upd G d (.dK (pcs P))=H3 at S3 R ⊢;have g:=f.same S3;have a9:=g.me;rfl';exists D,_,rfl,SqL.of R,?_;by_cases hu:∃ q,q∈P/\q.bs=some r.nm
  .have e:(P.map fun q=>decide (q.bs=some r.nm)).any id=true:=by
    obtain ⟨q,l,e⟩:=hu;exact List.any_eq_true.mpr ⟨true,bq.mpr ⟨q,l,bx e⟩,rfl⟩
   rw [e];exists true,rfl,ī ?_;rfl';exists by walk_at "len",k3 r J rfl hu _ (S1.trans S3)
  .have I:∀ q,q∈P->q.bs≠some r.nm:=fun q l e=>hu ⟨q,l,e⟩
   have e:(P.map fun q=>decide (q.bs=some r.nm)).any id=false:=by
    rw [List.any_map,List.any_eq_false];intro q l;simpa using I q l
   rw [e];exists false,rfl,ē ?_;rfl';exists d,rfl,.inl ⟨_,.of g.pz.dk⟩,?_;rfl';exists pcs P,.inr r.nm,_,g.pz.dk,rfl,yim g.pz.nd J,?_;have M:=g.b.drop I
   have gA:Go (fun y=>y=d\/StO st c cl ct U y) H3 (upd H3 d (.dK (Ö (pcs P) (.inr r.nm)))) (fun y=>y=d\/StO st c cl ct U y):=⟨fun y o e no=>yf (fun z=>no (.inl z)) e,fun y z=>.inl z,fun y o e=>by
    by_cases z:y=d
    .exists _,by rw [z]; exact ya
    .exact ⟨o,yf z e⟩⟩
   generalize upd H3 d (.dK (Ö (pcs P) (.inr r.nm)))=H4 at M gA ⊢;have X:=M.me;rfl';intro c' k nc O ac;have SQ:yq H4 (upd (upd H4 k (.own c')) c' (.ins a.A1 k [])):=fun b o e=>by rw [yk (yb e nc),yk (yb e O)]; exact e
   exists c',k,ll,n,lk,tp,kd,ps,rfl,ya,SQ _ _ M.lo,M.n1,M.n6,M.row.same SQ,fun p' a4 a0 U' HE a2 W BE _=>⟨rfl,?_⟩;obtain ⟨hR,gR,SE,hN⟩:=M.re nc O a2 W BE;have a8:=SE _ _ X;rfl';exact k4 r J rfl I c' k p' a4 a0 U' _ hR ((gA.ahead (S1.trans S3)).trans ((gR.or (Y:=fun y=>y=d)).wide fun y z=>z.imp id .inl))
theorem yfy (Q:List Pc) (b:Str):(Q.filter fun q=>decide (q.nm≠b)).map Pc.pd=(Q.map Pc.pd).filter fun q=>decide (q.nm≠b):=by
 rw [List.filter_map];rfl
theorem Sto.drop {H:Hp} {st:Addr} {C:Cf} {P:List Pd} {X:Sx} {Q:VK} {E:XK} (h:Sto K a H st C P X) {b:Str} (hb:nmS b=true) (k1:(∀ q,q∈P->q.nm≠b)->∀ H',yq H H'->E (.ref a.A7) none H') (k2:∀ r,r∈P->r.nm=b->(∃ q,q∈P/\q.bs=some b)->∀ H',yq H H'->E (.ref a.Be) none H')
  (k3:∀ r,r∈P->r.nm=b->(∀ q,q∈P->q.bs≠some b)->∀ Y H',Sto K a H' st C (P.filter fun q=>decide (q.nm≠b)) Y->Gx X H H' Y->Q .non H'):yht K a [.ref st,.str b] H Q E:=by
 obtain ⟨y,B,d,c,J,p,L,D,v,A,R,M,F,U,s,rfl,rfl⟩:=h;have I:=zn hb;exists st,y,B,d,c,J,p,L,D,v,A,C.n,C.kd,C.ps,C.mo,C.w,R,M,F,U,.str b,"str",rfl,s,.str _,(fun x e=>by cases e; omega),(fun z=>by rw [show nmV (.str b)=nmS b from rfl,hb] at z; cases z),(fun T e _ o=>?_),(fun r j e i=>?_),fun r j e i S t N k l O H' G g=>?_
 .cases e;refine k1 fun q f=>?_;obtain ⟨u,i,rfl⟩:=bq.mp f;exact o u i
 .cases e;obtain ⟨q,f,e⟩:=i;exact k2 r.pd (bq.mpr ⟨r,j,rfl⟩) rfl ⟨q.pd,bq.mpr ⟨q,f,rfl⟩,e⟩
 .cases e;refine k3 r.pd (bq.mpr ⟨r,j,rfl⟩) rfl (fun q f=>?_) _ H' ⟨y,B,d,S,t,N,k,l,v,A,_,_,[],O,G,yfy _ _,rfl⟩ (Gx.of g NK.nil fun q f=>.inl (cO.mp f).1);obtain ⟨u,m,rfl⟩:=bq.mp f;exact i u m
def lkB (k:Fin 3) (p:List Int):List Int:=((k.val:Nat):Int) :: ((p.length:Nat):Int) :: p
theorem yvq (k:Fin 3):(kdS 0=kdS k/\k.val=0)\/(kdS 0≠kdS k/\kdS 1=kdS k/\k.val=1)\/(kdS 0≠kdS k/\kdS 1≠kdS k/\kdS 2=kdS k/\k.val=2):=by
 revert k;decide
#synth yuw ["look"] yrl
inductive ylh  (vs:List V) (H:Hp) (Q:VK) (E':XK):Prop
 | mk (v:V) (kd:Fin 3) (tp:Addr) (ps:List Int) (_:vs=[v]) (_:LkG H v kd tp ps) (_:∀ l H',H l=none->H' l=some (.lst ((lkB kd ps).map V.int))->yq H H'->Q (.ref l) H')
theorem yxp (T:Txt K mg a):vk P w K mg base CX0 1 a.Lk a.Ll ["look"] ylh:=by
 exists T.Mt.F.ok,yuw,r;obtain ⟨v,d,e,i,rfl,⟨q,rfl,g,l,m⟩,k⟩:=h;have p:=xz m;rw [bf] at p;exists _,(yd (yt (yn zx (wx (pac (ue PySem.F.plainAttrs_tuple PySem.F.slot_tuple_index PySem.F.type_tuple_index yge (Ş rfl T.N5) (pa1 (ut uh (pv 0) ye (fun _ _=>rfl)))) (pa1 (pcB yo T.Ac (pa1 (ut uh (pv 0) ye (fun _ _=>rfl))))))) (pcT wo T.An (pa1 (ut uh (pv 0) ye (fun _ _=>rfl))))))),?_;exists 1,0;rfl';exists .inr (.inl ⟨rfl,T.Nv⟩),?_;rfl';refine Ŧ (SqT.of g) (xr (j:=0) rfl) ?_;rfl';exists kdS 0,kdS 1,kdS 2,kdS d,a.Bq,d.val,rfl,rfl,T.N6 H,yvq d,?_;rfl';refine Ŧ (SqT.of g) (xr (j:=1) rfl) ?_;rfl';exists e,_,rfl,.inr (SqT.of l),?_;rw [bf];rfl';exists by walk_at "len",fun u hu0=>?_
 exists hu0,H1,S1,hu1;rfl';refine Ŧ (SqT.of (S1 _ _ g)) (xr (j:=1) rfl) ?_;rfl';exists e,_,rfl,.inr (SqT.of (S1 _ _ l)),fun w hw0=>?_;exists hw0,H2,S2,hw2;rfl';exists u,w,_,_,rfl,rfl,S2 _ _ hu1,hw2,xa (by rw [bf]; show 2+i.length <= _; omega),fun c b=>?_;exact k c _ (S1.free (S2.free b)) ya (S1.trans (S2.trans (yx b)))
def lix (c:Nat):Nat:=(PySem.Builtin.Str.occurrences smS ⟨#[c]⟩ 0 26 1).headD 0
theorem yp6:∀ i:Fin 26,PySem.Builtin.Str.occurrences smS ⟨#[97+i.val]⟩ 0 26 1=[i.val]:=by right
theorem ywa {c:Nat} (h1:97 <= c) (h2:c <= 122):lix c=c - 97:=by
 have e:=yp6 ⟨c - 97,by omega⟩;unfold lix;rw [show 97+(⟨c - 97,by omega⟩:Fin 26).val=c by show 97+(c - 97)=c; omega] at e;rw [e];rfl
theorem yhg {x:Str} (h:nmS x=true) {c:Nat} (hc:x.cps[i]?=some c):∃ jj,PySem.Builtin.Str.occurrences smS ⟨#[c]⟩ 0 smS.length 1=lix c :: jj:=by
 unfold nmS at h;simp only [bO,List.all_eq_true] at h;have a:=h.2.2 c (bI (by rw [Array.getElem?_toList]; exact hc));unfold yly at a;have a:(!(PySem.Builtin.Str.occurrences smS ⟨#[c]⟩ 0 26 1).isEmpty)=true:=a;show ∃ jj,PySem.Builtin.Str.occurrences smS ⟨#[c]⟩ 0 26 1=_;unfold lix
 cases e:PySem.Builtin.Str.occurrences smS ⟨#[c]⟩ 0 26 1 with
 | nil=>rw [e] at a; cases a
 | cons i r=>exists r,rfl
def nmB (x:Str):List Int:=((x.length:Nat):Int) :: x.cps.toList.map fun c=>((lix c:Nat):Int)
theorem yg6 (x:Str):(List.range x.cps.size).map (fun i=>V.int ((lix (x.cps.toList.getD i 0):Nat):Int))=(x.cps.toList.map fun c=>((lix c:Nat):Int)).map V.int:=by
 refine List.ext_getElem? fun i=>?_;rw [br,br,br];rcases Nat.lt_or_ge i x.cps.size with z | z
 .rw [cD z,bo (by simpa using z)];show some (V.int ((lix (x.cps.toList.getD i 0):Nat):Int))=_;rw [cL,bo (by simpa using z)];rfl
 .rw [bV (by rw [bU]; exact z),bV (by simpa using z)];rfl
#synth yxj ["name"] ytc
inductive yjq  (vs:List V) (H:Hp) (Q:VK) (E':XK):Prop
 | mk (x:Str) (_:vs=[.str x]) (_:nmS x=true) (_:∀ l H',H l=none->H' l=some (.lst ((nmB x).map V.int))->yq H H'->Q (.ref l) H')
theorem yuv (T:Txt K mg a):vk P w K mg base CX0 1 a.Lm a.Ln ["name"] yjq:=by
 exists T.Mu.F.ok,yxj,v;obtain ⟨x,rfl,l,k⟩:=h;have m:=zn l;have o:x.cps.size=x.length:=rfl;exists _,(yd (yt (yn zx (wx (pa1 (pcB uf T.Ac (pa1 (pv 0))))) (vq (js:=[]) (ys:=[]) rfl (yib (pv 0)) (fun C y B z=>(ym6 (K:=K) (r:=(ycc)) rfl PySem.F.plainAttrs_str PySem.F.slot_str_index PySem.F.type_str_index ź (yhn rfl T.Ei) (pa1 (pv 0)))) rfl rfl (hyc:=yr) (hrel:=yr))))),?_;exists 1,0;rfl';exists x,rfl,bN m (by decide),?_;rfl';exists by walk_at "len",fun u hu0=>?_
 exists hu0,H1,S1,hu1;rfl';exists x,rfl,fun D j=>?_;refine î (fun i=>.int ((lix (x.cps.toList.getD i 0):Nat):Int)) j (fun i c G g n S e=>?_) (fun G S e=>?_)
 .obtain ⟨jj,t⟩:=yhg l g;rfl';exists rfl,?_;rfl';exists smS,_,lix c,jj,rfl,rfl,t,?_;refine Mp.doneR j (y8 (by omega)) n S e ?_;show V.int _=V.int _;rw [cL,Array.getElem?_toList,g];rfl
 .rfl';have d:=S1.trans S;rw [yg6] at e;exists u,D,_,_,rfl,rfl,S _ _ hu1,e,xa (by rw [bf,bf]; show 1+x.cps.size <= _; omega),fun c b=>?_;exact k c _ (d.free b) ya (d.trans (yx b))
def bsN (P:List Pd):Option Str->Int
 | none=>0
 | some b=>(((P.map (·.nm)).idxOf b:Nat):Int)+1
theorem yhl {ns:List Str} {b:Str} (h:b∈ns):vdt ns b (ns.idxOf b):=by
 have a:ns.idxOf b < ns.length:=List.idxOf_lt_length_iff.mpr h;exists ?_,fun m d e=>?_
 .rw [bo a,List.getElem_idxOf a]
 .obtain ⟨c,f⟩:=bM.mp e;have:=List.not_of_lt_findIdx (p:=(· == b)) (xs:=ns) (i:=m) d;rw [f] at this;simp at this
#synth ynz ["store","name","base"] ["store","name"] yrq
inductive yja (K:W.Frag) (a:Ads) (vs:List V) (H:Hp) (Q:VK) (E':XK):Prop
 | mk (st:Addr) (C:Cf) (P:List Pd) (X:Sx) (q:Pd) (_:vs=[.ref st,.str q.nm]) (_:Sto K a H st C P X) (_:q∈P) (_:∀ l H',H l=none->H' l=some (.lst [V.int (bsN P q.bs)])->yq H H'->Q (.ref l) H')
theorem yv0 (T:Txt K mg a):vk P w K mg base CX0 5 a.Lo a.Lp ["store","name"] (yja K a):=by
 exists T.Mv.F.ok,ynz,o;obtain ⟨R,C,P,X,q,rfl,g,y,k⟩:=h;obtain ⟨ds,vl,vm,Y,vc,t⟩:=g.ins;have x:=g.nm q y;exists _,(yg (yv (i:=2) ynz.nd rfl (Or.inl rfl) (vw (pv 0) T.A3 T.Gm.m (yyh T) o.m T.Gm.B .nil ww (pa1 (pv 1)))) (yd (yt (wx (pa1 (jf (y7 yya (pv 2) ý (vh _)) ye (yn vn (ue PySem.F.plainAttrs_list PySem.F.slot_list_index PySem.F.type_list_index Ž (wc (pv 0) T.A3 T.Cm.m (yin T) o.m T.Cm.B .nil wv) (pa1 (pv 2))) ye))))))),?_;exists 2,1;rfl';refine g.baseof x.1 (fun L=>absurd rfl (L q y)) fun r o e Z p=>?_;obtain rfl:=Ĩ g.nd o y e;have v:=g.same p;have G:=p _ _ t
 cases hb:r.bs with
 | none =>
  rfl';refine z0 (fun _=>?_) (fun z=>absurd rfl z);rfl';exists by walk_at "len",fun l c=>?_
  refine k l _ (p.free c) ?_ (p.trans (yx c));rw [hb];exact ya
 | some b =>
  have n:=g.to r o;rw [hb] at n;obtain ⟨u,W,U,_⟩:=n;rfl'
  refine z0 (fun z=>nomatch z) (fun _=>?_)
  rfl';refine v.names fun J N I d O=>?_;have f:N J=some (.lst ((P.map (·.nm)).map V.str)):=by rw [d,bS]; rfl
  refine uc d ?_;rfl';exists J,_,b,_,rfl,rfl,SqL.of f,yhl (bq.mpr ⟨u,W,U⟩),?_;rfl';exists by walk_at "len",fun l c=>?_
  have j:=p.trans O;refine k l _ (j.free c) ?_ (j.trans (yx c));rw [hb];exact ya
def pdB (C:Cf) (P:List Pd) (q:Pd):List Int:=nmB q.nm++[bsN P q.bs]++q.by C
def lkF (C:Cf) (i:Nat):List Int:=((List.range i).map fun j=>lkB (C.kd j) (C.ps j)).flatten
theorem ő (C:Cf) (i:Nat):lkF C (i+1)=lkF C i++lkB (C.kd i) (C.ps i):=by
 unfold lkF;rw [List.range_succ,bz,List.flatten_append,List.map_singleton,List.flatten_singleton]
def hdB (C:Cf):List Int:=((C.n:Nat):Int) :: lkF C C.n++[((C.mo:Nat):Int) / 256,((C.mo:Nat):Int) % 256]
def shB (C:Cf) (P:List Pd):List Int:=hdB C++((P.length:Nat):Int) :: (P.map (pdB C P)).flatten
theorem xl.lkl {H:Hp} {C:Cf} {lk:Nat->Addr} (h:xl H C.n lk C.kd tp C.ps):∀ i,i <= C.n->(lkF C i).length <= i * 6
 | 0,_=>bp _
 | i+1,hi=>by
  obtain ⟨_,_,_,_,a⟩:=h i (by omega);have b:=xz a;rw [bf] at b;rw [ő,bj];have:=h.lkl i (by omega);show (lkF C i).length+((C.ps i).length+1+1) <= _;omega
section
variable {H:Hp} {st:Addr} {C:Cf} {P:List Pd} {X:Sx}
theorem Sto.pdl (h:Sto K a H st C P X) {q:Pd} (hq:q∈P):(pdB C P q).length <= 5520:=by
 have d:=zn (h.nm q hq).1;have e:=h.sz q hq;have b:=h.cf;have c:=yc9 (n:=C.n) (kd:=C.kd) (ps:=C.ps) (pre:=ā (q.path.map (·.2))) (ts:=q.tx) b.1 b.2.1 (θ _) (by omega);have c:(q.by C).length <= 5500:=c;have b:q.nm.cps.toList.length=q.nm.length:=rfl;unfold pdB nmB;rw [bj,bj,bK,bf,b];show _+1+1+_ <= _;omega
theorem Sto.pls (h:Sto K a H st C P X):∀ i,i <= P.length->(((P.take i).map (pdB C P)).flatten).length <= i * 5520
 | 0,_=>bp _
 | i+1,hi=>by
  have b:i < P.length:=by omega
  rw [bZ b,bz,List.flatten_append,bj];have d:=h.pls i (by omega);have c:=h.pdl (cg b);rw [List.map_singleton,List.flatten_singleton];omega
end
theorem ydl (C:Cf) {P:List Pd} {q:Pd} (h:P[i]?=some q):((P.take (i+1)).map (pdB C P)).flatten=((P.take i).map (pdB C P)).flatten++pdB C P q:=by
 rw [bZ (bM.mp h).1,(bM.mp h).2,bz,List.flatten_append,List.map_singleton,List.flatten_singleton]
theorem wr2 {m:Nat} (h:m <= 1000):wr 2 (m:Int)=[(m:Int) / 256,(m:Int) % 256]:=by
 show [(m:Int) / 256 % 256,(m:Int) % 256]=_;rw [Int.emod_eq_of_lt (a:=(m:Int) / 256) (by omega) (by omega)]
#synth Ĥ ["store","looks","names","shelf","look","name"] ["store"] yrw
inductive yjg (K:W.Frag) (a:Ads) (vs:List V) (H:Hp) (Q:VK) (E':XK):Prop
 | mk (st:Addr) (C:Cf) (P:List Pd) (X:Sx) (_:vs=[.ref st]) (_:Sto K a H st C P X) (_:∀ l H',H l=none->H' l=some (.lst ((shB C P).map V.int))->yq H H'->Q (.ref l) H')
theorem yh2 (T:Txt K mg a):vk P w K mg base CX0 6 a.Lq a.Lr ["store"] (yjg K a):=by
 exists T.Ee.F.ok,Ĥ,x;obtain ⟨st,C,P,X,rfl,N,k⟩:=h;obtain ⟨ds,vl,vm,vp,vc,ae⟩:=N.ins;obtain ⟨c1,c6,cm,cw,c2⟩:=N.cf;have aG:=N.z;refine yi (yv (i:=1) Ĥ.nd rfl (Or.inl rfl) (wc (pv 0) T.A3 T.Gf.m (yzi T) x.m T.Gf.B .nil wv)) ?_;refine yi (yv (i:=2) Ĥ.nd rfl (Or.inl rfl) (wc (pv 0) T.A3 T.Cm.m (yin T) x.m T.Cm.B .nil wv)) ?_;refine yi (yv (i:=3) Ĥ.nd rfl (Or.inl rfl) (wx (pa1 (pcB yo T.Ac (pa1 (pv 1)))))) ?_;refine yi (zr PassesOwn.never rfl (we (pv 1)) (wt (i:=4) Ĥ.nd rfl (Or.inl rfl)) (yd (yp (ue PySem.F.plainAttrs_list PySem.F.slot_list_extend PySem.F.type_list_extend ι (pv 3) (pa1 (xv (yxp T) x.m T.Mt (pa1 (pv 4)))))))) ?_;refine yi (yp (ue PySem.F.plainAttrs_list PySem.F.slot_list_extend PySem.F.type_list_extend ι (pv 3) (pa1 (xv (ymf T) x.m T.Fp (pac (wc (pv 0) T.A3 T.Gg.m (yyr T) x.m T.Gg.B .nil wv) (pa1 ye)))))) ?_;refine yi (yp (ue PySem.F.plainAttrs_list PySem.F.slot_list_append PySem.F.type_list_append v7 (pv 3) (pa1 (pcB yo T.Ac (pa1 (pv 2)))))) ?_;refine yi (zr PassesOwn.never rfl (we (pv 2)) (wt (i:=5) Ĥ.nd rfl (Or.inl rfl)) (yd (yp (ue PySem.F.plainAttrs_list PySem.F.slot_list_extend PySem.F.type_list_extend ι (pv 3) (pa1 (yn zx (yn zx (xv (yuv T) x.m T.Mu (pa1 (pv 5))) (xv (yv0 T) x.m T.Mv (pac (pv 0) (pa1 (pv 5))))) (vw (pv 0) T.A3 T.Di.m (ymq T) x.m T.Di.B .nil ww (pa1 (pv 5))))))))) ?_;exists _,(yd (yt (pv 3))),?_;exists 1,5;rfl';refine N.tlooks fun lo lk tp H1 ak J hR S=>?_;have Y:=S _ _ ae;rfl';refine (N.same S).names fun nm H2 a0 g R=>?_;have p:=R _ _ J;rfl';refine zg (SqL.of p) ?_;rw [vv];rfl';exists by walk_at "len",fun d hsh0=>?_
 exists hsh0,H3,S3,hsh3;have aq:=S.trans (R.trans S3);have U:H d=none:=S.free (R.free hsh0);have aa:=S3 _ _ p;have a6:=S3 _ _ g;have ah:=(hR.same R).same S3;have a3:H3 d=some (.lst ((((C.n:Nat):Int) :: lkF C 0).map V.int)):=hsh3;have O:=hR.same R;have u:=N.same (S.trans R);clear hR hsh3 a6 aa ah J a0 Y;have a9:=O.lkl;rfl';refine ⟨lo,rfl,⟨_,SqL.of (S3 _ _ p)⟩,ug (K:=K) (a:=lo) (xs:=refs lk C.n) (fun i σ2 G=>∃ v4:Option V,σ2=[some (.ref st),some (.ref lo),some (.ref nm),some (.ref d),v4,none]/\yq H2 G/\G d=some (.lst ((((C.n:Nat):Int) :: lkF C i).map V.int)))
  ⟨none,rfl,S3,a3⟩ (fun i σ2 G _ ⟨_,_,f,_⟩=>SqL.of (f _ _ p)) ?_ ?_⟩
 .rintro i y σ2 G hy ⟨v4,rfl,f,c⟩;obtain ⟨rfl,hi⟩:=jg hy;have ac:=a9 i (by omega);obtain ⟨_,_,_,_,h3⟩:=O i hi;have h4:=xz h3;rw [bf] at h4;rfl';refine uc c ?_;rfl';exists .ref (lk i),C.kd i,tp i,C.ps i,rfl,(O i hi).same f,fun l G2 ax ag I=>?_;exists d,l,_,_,rfl,rfl,I _ _ c,ag,xa (by rw [bf,bf]; show (lkF C i).length+1+((C.ps i).length+1+1) <= _; omega),?_;rfl';exists _,rfl,fun b o e=>yf (yb e hsh0) (I _ _ (f _ _ e)),?_;rw [ya,ő,<- bz];rfl
 rintro σ2 G ⟨v4,rfl,f,c⟩;rw [vv] at c;have ac:=a9 C.n (bp _);have t:=u.same f;obtain ⟨aC,aD,az,ao,ar,a2⟩:=t.ins;clear a3;rfl';refine uc c ?_;rfl';refine t.tmost ?_;rfl';exists _,2,rfl,by decide,fun w G2 ad M I=>?_
 rw [wr2 cm] at M;exists d,w,_,_,rfl,rfl,I _ _ c,M,xa (by rw [bf]; show (lkF C C.n).length+1+2 <= _; omega),?_;rw [<- bz];have S4:yq H2 (upd G2 d (.lst ((((C.n:Nat):Int) :: lkF C C.n++[((C.mo:Nat):Int) / 256,((C.mo:Nat):Int) % 256]).map V.int))):=fun b o e=>yf (yb e hsh0) (I _ _ (f _ _ e));have j:upd G2 d (.lst ((((C.n:Nat):Int) :: lkF C C.n++[((C.mo:Nat):Int) / 256,((C.mo:Nat):Int) % 256]).map V.int)) d=some (.lst ((hdB C).map V.int)):=ya;generalize upd G2 d (.lst ((((C.n:Nat):Int) :: lkF C C.n++[((C.mo:Nat):Int) / 256,((C.mo:Nat):Int) % 256]).map V.int))=H4 at S4 j ⊢;clear c t a2 ad M I f;have aA:(hdB C).length <= 40:=by unfold hdB; rw [bj,bK]; show _+1+2 <= 40; omega
 rfl';refine uc j ?_;rfl';refine zg (SqL.of (S4 _ _ g)) ?_;rw [bf];rfl';refine w9 j (y8 (by rw [bf]; omega)) ?_;have S5:yq H2 (upd H4 d (.lst ((hdB C).map V.int++[V.int ((P.length:Nat):Int)]))):=fun b o e=>yf (yb e hsh0) (S4 _ _ e)
 have L:upd H4 d (.lst ((hdB C).map V.int++[V.int ((P.length:Nat):Int)])) d=some (.lst ((hdB C++((P.length:Nat):Int) :: ((P.take 0).map (pdB C P)).flatten).map V.int)):=by
  rw [ya,bz];rfl
 generalize upd H4 d (.lst ((hdB C).map V.int++[V.int ((P.length:Nat):Int)]))=H5 at S5 L ⊢;clear j S4;have af:∀ q,q∈P->(pdB C P q).length <= 5520:=fun q=>u.pdl;have ab:=u.pls;rfl';refine ⟨nm,rfl,⟨_,SqL.of (S5 _ _ g)⟩,ug (K:=K) (a:=nm) (xs:=P.map fun q=>V.str q.nm) (fun i σ2 G=>∃ v5:Option V,σ2=[some (.ref st),some (.ref lo),some (.ref nm),some (.ref d),v4,v5]/\yq H2 G/\G d=some (.lst ((hdB C++((P.length:Nat):Int) :: ((P.take i).map (pdB C P)).flatten).map V.int)))
  ⟨none,rfl,S5,L⟩ (fun i σ2 G _ ⟨_,_,f,_⟩=>SqL.of (f _ _ g)) ?_ ?_⟩
 .rintro i y σ2 G hy ⟨v5,rfl,f,c⟩;rw [br] at hy;obtain ⟨q,hq,rfl⟩:=Option.map_eq_some_iff.mp hy;have aE:i < P.length:=(bM.mp hq).1;have av:P[i]=q:=(bM.mp hq).2;have v:=bI hq;have Z:=u.nm q v;have ay:=ab i (by omega);have D:=af q v;have t:=u.same f;rfl';refine uc c ?_;rfl';exists q.nm,rfl,Z.1,fun b1 G1 aj a1 T1=>?_;rfl';exists st,C,P,X,q,rfl,t.same T1,v,fun b2 G2 al a7 I=>?_;rfl';exists b1,b2,_,_,rfl,rfl,I _ _ a1,a7,xa (by rw [bf]; unfold pdB at D; rw [bj,bj] at D; show _+1 <= _; omega),fun b3 hb30=>?_;exists hb30,G3,T3,hb33;have a5:=T1.trans (I.trans T3);have a4:=t.same a5;obtain ⟨ap,aw,aF,au,as,an⟩:=a4.ins;rfl';refine a4.bytesof Z.1 (fun no=>absurd rfl (no q v)) fun r x er b4 G4 am W T4=>?_;obtain rfl:=Ĩ N.nd x v er;rfl';exists b3,b4,_,_,rfl,rfl,T4 _ _ hb33,W,xa (by rw [bj,bf,bf]; unfold pdB at D; rw [bj,bj] at D; show _+1+_ <= _; omega),fun b5 hb50=>?_;exists hb50,G5,T5,hb55;have a8:=a5.trans (T4.trans T5)
  have hb55:G5 b5=some (.lst ((pdB C P r).map V.int)):=by
   rw [hb55];unfold pdB;rw [bz,bz];rfl
  exists d,b5,_,_,rfl,rfl,a8 _ _ c,hb55,xa (by rw [bf,bf,bj,bK]; omega),?_;rfl';exists _,rfl,fun b o e=>yf (yb e hsh0) (a8 _ _ (f _ _ e)),?_;rw [ya,ydl C hq,<- bz,bR];rfl
 .rintro σ2 G ⟨v5,rfl,f,c⟩;rw [bf,cy] at c;rfl';exact k d G U c (S.trans (R.trans f))
#synth yxk ["_law_found"] yq4
theorem yzp (T:Txt K mg a):vk P w K mg base CX0 1 a.Ls a.Lt ["_law_found"] (yaf K):=by
 exists T.Mw.F.ok,yxk,g;obtain ⟨x,n,rfl,b,k⟩:=h;exists _,(yd (yt (xx (pcB vx T.A5 (pac (pv 0) (pa1 (zv (T:="int") rfl T.Gu (by right))))) (zu (ymp (pcB vx T.A5 (pac (pv 0) (pa1 (zv (T:="bool") rfl T.Es (by right)))))))))),?_;exists 1,0;rfl';refine ψ b (yhr b) ?_;rfl'
 cases hx:yid x with
 | false =>
  have e:zw x=false:=by
   cases x <;> first | rfl | cases hx
  rw [e] at k;exact ē k
 | true =>
  have e:zw x=!yb4 x:=by
   cases x <;> first | rfl | cases hx
  rw [e] at k;refine ī ?_;rfl';refine ψ b (ycr b) ?_;rfl';exact k
#synth yil ["_law_script","_law_k","_law_cell"] ["_law_script","_law_k"] yrv
inductive yxw (K:W.Frag) (vs:List V) (H:Hp) (Q:VK) (E':XK):Prop
 | mk (l:Addr) (ns:List Int) (j:Nat) (_:vs=[.ref l,.int j]) (_:SqL K H l (ns.map V.int)) (_:j <= 1000) (_:∀ n:Int,0 <= n->n < 2147483647->Q (.int n) H)
theorem û (T:Txt K mg a):vk P w K mg base CX0 1 a.Lu a.Lv ["_law_script","_law_k"] (yxw K):=by
 exists T.Cj.F.ok,yil,o;obtain ⟨l,b,j,rfl,f,q,k⟩:=h;exists _,(yg (yv (i:=2) yil.nd rfl (Or.inl rfl) ye) (yg (Ģ (wz (y7 ych (pv 1) (pcB yo T.Ac (pa1 (pv 0))) (vh _)) (yd (yv (i:=2) yil.nd rfl (Or.inl rfl) (yn xb (ut j4 (pv 0) (pv 1) (fun _ _=>rfl)) ye))) ve)) (yd (yt (yn xb (yn w4 (yn vn (yn vn (yn vn (yn w4 (pv 2) (pv 2)) (pv 2)) (yn w4 (yn w4 ye (pv 1)) (pv 1))) ye) ye) ye))))),?_;exists 2,1;rfl';refine ylp (fun σ' G=>H=G/\∃ c:Int,σ'=[some (.ref l),some (.int j),some (.int c)]/\0 <= c/\c < 2147483629) ?_ ?_
 .rfl';refine zg f ?_;rw [bf];rfl';refine z0 (fun n=>?_) (fun n=>?_)
  .have d:j < b.length:=by omega
   rfl';refine yci (v:=V.int b[j]) f (xr (by rw [br,bo d]; rfl)) ?_;rfl';exists rfl,_,rfl,cH _ (by decide),cr _ (by decide)
  .rfl';exists rfl,0,rfl,by decide,by decide
 .rintro σ' G ⟨rfl,c,rfl,r,u⟩;have t:(0:Int) <= (j:Int)/\(j:Int) <= 1000:=by omega
  have p:(0:Int) <= 5 * (j:Int)/\5 * (j:Int) <= 5000:=by omega
  rfl';exact k _ (cH _ (by decide)) (cr _ (by decide))
def nmR (c:Nat) (k:Nat):Str:=⟨(List.replicate k c).toArray⟩
theorem ymi {c k:Nat} {z:Str} (h:z.cps.toList=(List.replicate k (⟨#[c]⟩:Str).cps.toList).flatten):z=nmR c k:=by
 have e:(List.replicate k [c]).flatten=List.replicate k c:=by
  clear h
  induction k with
  | zero=>rfl
  | succ k ih=>rw [ci,List.flatten_cons,ci,List.singleton_append,ih]
 have h:z.cps.toList=(List.replicate k [c]).flatten:=h;rw [e] at h
 cases z with | mk cps =>
 unfold nmR
 congr 1
 exact Array.toList_inj.mp (by simpa using h)
theorem yhp {c k:Nat} (h:97 <= c/\c < 123):ĭ (nmR c k).cps.toList:=fun d a=>by
 have e:d∈List.replicate k c:=a;rw [List.eq_of_mem_replicate e];exact h
def OkL (x:Str):Prop:=okN x/\ĭ x.cps.toList
theorem yna {x:Str} (h:ĭ x.cps.toList) (h1:1 <= x.cps.toList.length) (h8:x.cps.toList.length <= 8):OkL x:=⟨yz1 h h1 h8,h⟩
def sz6:List Int:=[1,3,5,6,8,7]
def gI (f:Int->Str):V->V
 | .int t=>.str (f t)
 | v=>v
theorem yt7 (f:Int->Str) (ts:List Int):(ts.map V.int).map (gI f)=(ts.map f).map V.str:=by
 rw [bS,bS];rfl
#synth Î ["_law_cell","_law_small","_law_odd","_law_stem","_law_k","_law_at"] ["_law_cell"] ytl
inductive ygh (K:W.Frag) (vs:List V) (H:Hp) (Q:VK) (E':XK):Prop
 | mk (c:Int) (_:vs=[.int c]) (_:0 <= c) (_:c < 2147483647) (_:∀ (r:Addr) (ns:List Str) (H':Hp),H r=none->H' r=some (.lst (ns.map V.str))->yq H H'->ns.length=6->ns.Nodup->(∀ x,x∈ns->OkL x)->Q (.ref r) H')
theorem yxq (T:Txt K mg a):vk P w K mg base CX0 1 a.Lx a.Ly ["_law_cell"] (ygh K):=by
 exists T.Mx.F.ok,Î,hr;obtain ⟨c,rfl,c0,c1,k⟩:=h;refine yi (yv (i:=1) Î.nd rfl (Or.inr rfl) wy) ?_;refine yi (yv (i:=2) Î.nd rfl (Or.inr rfl) (yn xb (pv 0) ye)) ?_;refine yi (yv (i:=0) Î.nd rfl (Or.inl rfl) (yn vi (pv 0) ye)) ?_;refine yi (wz (y7 zy (yn xb (pv 0) ye) ye (vh _)) (yd (yt (vq (js:=[1,2]) (ys:=["_law_small","_law_odd"]) rfl (we (wx (pac ye (pac ye (pac ye (pac ye (pac ye (pa1 ye)))))))) (fun C s2 H2 fp=>(yn ę (x0 (pv 1) (pv 2) (fun _ _=>rfl)) (pv 0))) rfl rfl (hyc:=(all_cons rfl (all_cons rfl yr))) (hrel:=(all_cons rfl (all_cons rfl yr)))))) ve) ?_;refine yi (wz (y7 zy (yn xb (pv 0) ye) ye (vh _)) (yd (yt (vq (js:=[1,2]) (ys:=["_law_small","_law_odd"]) rfl (za rfl T.Bt (pa1 ye)) (fun C s2 H2 fp=>(yn ja (x0 (pv 1) (yn zd (yn vn (pv 2) ye) (pv 0)) (fun _ _=>rfl)) (yn ę (x0 (pv 1) (pv 2) (fun _ _=>rfl)) (pv 0)))) rfl rfl (hyc:=(all_cons rfl (all_cons rfl yr))) (hrel:=(all_cons rfl (all_cons rfl yr)))))) ve) ?_;refine yi (yv (i:=3) Î.nd rfl (Or.inr rfl) wy) ?_;refine yi (zr PassesOwn.never rfl (za rfl T.Bt (pa1 (yn xb (yn vi (pv 0) ye) ye))) (wt (i:=4) Î.nd rfl (Or.inl rfl)) (yd (yv (i:=3) Î.nd rfl (Or.inr rfl) (yn ja (pv 3) (x0 (pv 1) (yn xb (yn vi (yn w4 (pv 0) (yn vn (pv 4) ye)) ye) ye) (fun _ _=>rfl)))))) ?_;refine yi (yv (i:=5) Î.nd rfl (Or.inr rfl) (yn xb (yn vi (pv 0) ye) (yn vn (pcB uf T.Ac (pa1 (pv 3))) ye))) ?_;exists _,(yd (yt (vq (js:=[3,1,2,5]) (ys:=["_law_stem","_law_small","_law_odd","_law_at"]) rfl (za rfl T.Bt (pa1 ye)) (fun C s2 H2 fp=>(yn ja (yn ja (zj (r:=vdd) ymn (pv 1) jz (jw (pv 4))) (x0 (pv 2) (yn vn (pv 3) (pv 0)) (fun _ _=>rfl))) (zj (r:=vdd) ymn (pv 1) (jw (pv 4)) jz))) rfl rfl (hyc:=(all_cons rfl (all_cons rfl (all_cons rfl (all_cons rfl yr))))) (hrel:=(all_cons rfl (all_cons rfl (all_cons rfl (all_cons rfl yr)))))))),?_;exists 1,5;rfl';obtain ⟨o,ho,a1⟩:∃ o:Nat,c % 21=(o:Int)/\o <= 20:=⟨(c % 21).toNat,by omega,by omega⟩;rw [ho];have d0:0 <= c / 21:=by omega
 have d1:c / 21 < 2147483647:=by omega
 generalize c / 21=m at d0 d1 ⊢;refine z0 (fun L=>?_) (fun L=>?_)
 .rfl';exists by walk_at "len",fun O M=>?_
  have I:=yx (o:=(HO.lst [V.int 1,V.int 3,V.int 5,V.int 6,V.int 8,V.int 7])) M;have G:upd H O (HO.lst [V.int 1,V.int 3,V.int 5,V.int 6,V.int 8,V.int 7]) O=some (HO.lst [V.int 1,V.int 3,V.int 5,V.int 6,V.int 8,V.int 7]):=ya;generalize upd H O (HO.lst [V.int 1,V.int 3,V.int 5,V.int 6,V.int 8,V.int 7])=a3 at I G ⊢;exists O,rfl,⟨_,SqL.of G⟩,fun D f=>?_;refine zh (xs:=sz6.map V.int) (gI fun t=>nmR (97+o) t.toNat) (SqL.of G) f (fun i y F hy g d=>?_) (fun F g d=>?_)
  .rw [br] at hy;obtain ⟨t,U,rfl⟩:=Option.map_eq_some_iff.mp hy;have a2:1 <= t/\t <= 8:=(show ∀ t∈sz6,1 <= t/\t <= 8 by decide) t (bI U);rfl';exists smS,_,_,rfl,rfl,by omega,by omega,by rw [yay]; omega,yi4 (by omega) (by omega),?_
   rw [show ((o:Int)).toNat=o from rfl];rfl';exists _,_,rfl,rfl,by omega,by omega,by show 1 <= _; decide,fun z p=>?_
   obtain rfl:=ymi p;exact Mp.done f (y8 (by decide)) (by rw [br,U]; rfl) g d rfl
  .rw [yt7] at d;refine k D _ F (I.free f) d (I.trans g) rfl ?_ fun x N=>?_
   .refine List.pairwise_map.mpr ((show sz6.Pairwise fun a b=>a≠b by decide).imp_of_mem fun {a b} ha hb Y e=>Y ?_);have X:=(show ∀ t∈sz6,1 <= t/\t <= 8 by decide) a ha;have h3:=(show ∀ t∈sz6,1 <= t/\t <= 8 by decide) b hb;have S:=congrArg (fun x:Str=>x.cps.toList.length) e;simp [nmR] at S;omega
   .obtain ⟨t,U,rfl⟩:=bq.mp N;have X:=(show ∀ t∈sz6,1 <= t/\t <= 8 by decide) t U;exact yna (yhp (by omega)) (by simp [nmR]; omega) (by simp [nmR]; omega)
 rfl';refine z0 (fun X=>?_) (fun X=>?_)
 .rfl';exists _,rfl,by decide,by decide,fun D f=>?_
  refine Í (lo:=0) (n:=6) (fun i=>.str (⟨#[97+(o+5 - i)]⟩++nmR (97+o) i)) f (fun i F B g d=>?_) (fun F g d=>?_)
  .rfl';exists smS,_,_,rfl,rfl,by omega,by omega,by rw [yay]; omega,yi4 (by omega) (by omega),?_
   rw [show ((o:Int)+5 - (0+(i:Int))).toNat=o+5 - i by omega];rfl';exists smS,_,_,rfl,rfl,by omega,by omega,by rw [yay]; omega,yi4 (by omega) (by omega),?_
   rw [show ((o:Int)).toNat=o from rfl];rfl';exists _,_,rfl,rfl,by omega,by omega,by show 1 <= _; decide,fun z p=>?_
   rw [show (0+(i:Int)).toNat=i by omega] at p;obtain rfl:=ymi p;exists _,_,rfl,rfl,by rw [sizeLine_eq,É (nmR _ _)]; simp [nmR]; show 1+i <= _; omega,?_
   exact Mp.doneR f (y8 (by decide)) B g d rfl
  .have W:F D=some (.lst (((List.range 6).map fun i=>(⟨#[97+(o+5 - i)]⟩++nmR (97+o) i:Str)).map V.str)):=by rw [d,bS]; rfl
   refine k D _ F f W g rfl ?_ fun x N=>?_
   .refine List.pairwise_map.mpr (List.nodup_range.imp fun {a b} Y e=>Y ?_);have S:=congrArg (fun x:Str=>x.cps.toList.length) e;simp [zk,nmR] at S;exact S
   .obtain ⟨i,B,rfl⟩:=bq.mp N;have h3:=cj.mp B;refine yna ?_ ?_ ?_
    .rw [zk];exact ĭ.app (.one (by omega)) (yhp (by omega))
    .rw [zk,bj]; show 1 <= 1+_; omega
    .rw [zk,bj]; simp [nmR]; omega
 .obtain ⟨l7,a0,hl⟩:∃ l:Nat,m / 4 % 8=(l:Int)/\l <= 7:=⟨(m / 4 % 8).toNat,by omega,by omega⟩;rfl';rw [a0];refine ⟨_,rfl,by omega,by omega,ζ (n:=l7) (fun i σ2 F=>∃ (z:Str) (v:Option V),σ2=[some (.int m),some (.str smS),some (.int o),some (.str z),v,none]/\ĭ z.cps.toList/\z.length=i/\H=F)
   ⟨_,_,rfl,(fun c hc=>by cases (show c∈[] from hc)),rfl,rfl⟩ ?_ ?_⟩
  .rintro i σ2 F B ⟨z,v,rfl,p,u,rfl⟩;rfl';have R:=cH (m * (0+(i:Int)+3) / 7) (show (26:Int)≠0 by decide);have L:=cr (m * (0+(i:Int)+3) / 7) (show (0:Int) < 26 by decide);generalize m * (0+(i:Int)+3) / 7 % 26=q at R L ⊢;exists smS,q,97+q.toNat,rfl,rfl,R,by omega,by rw [yay]; exact L,yi4 R L,?_
   exists z,_,rfl,rfl,?_,?_
   .rw [u,sizeLine_eq];show i+1 <= _;omega
   .rfl';exists _,_,rfl,?_,?_,rfl
    .rw [zk];exact p.app (.one (by omega))
    .rw [É,zk,bj,<- É,u];rfl
  .rintro σ2 F ⟨z,v,rfl,p,u,rfl⟩;rfl';exists z,rfl,by rw [u,sizeLine_eq]; omega,?_
   rfl'
   obtain ⟨j,hj,J⟩:∃ j:Nat,m / 32 % ((z.length:Int)+1)=(j:Int)/\j <= z.length:=by
    have R:=cH (m / 32) (show ((z.length:Int)+1)≠0 by omega);have L:=cr (m / 32) (show 0 < ((z.length:Int)+1) by omega);exists (m / 32 % ((z.length:Int)+1)).toNat,by omega,by omega
   rw [hj];exists _,rfl,by decide,by decide,fun D f=>?_
   refine Í (lo:=0) (n:=6) (fun i=>.str (ylt z j (97+o+i))) f (fun i F B g d=>?_) (fun F g d=>?_)
   .rfl';have a4:=Txt.slice_le z none (some (j:Int));have a6:=Txt.slice_le z (some (j:Int)) none;exists z,rfl,by rw [sizeLine_eq]; omega,?_
    rfl';have ei:97+((o:Int)+(0+(i:Int))).toNat=97+o+i:=by omega
    exists smS,_,_,rfl,rfl,by omega,by omega,by rw [yay]; omega,yi4 (by omega) (by omega),?_
    rw [ei];exists _,_,rfl,rfl,by rw [sizeLine_eq]; show _+1 <= _; omega,?_
    rfl';exists z,rfl,by rw [sizeLine_eq]; omega,?_
    exists _,_,rfl,rfl,?_,?_
    .rw [sizeLine_eq,É,zk,bj,<- É];show _+1+_ <= _;omega
    .exact Mp.doneR f (y8 (by decide)) B g d rfl
   .have W:F D=some (.lst (((List.range 6).map fun i=>ylt z j (97+o+i)).map V.str)):=by rw [d,bS]; rfl
    refine k D _ F f W g rfl (yfs J o 6) fun x N=>?_;obtain ⟨i,B,rfl⟩:=bq.mp N;have h3:=cj.mp B;exists yop J p (by omega) (by omega),?_;rw [ν J];exact ((p.take j).app (.one (by omega))).app (p.drop j)
#synth yau ["_law_script","_law_looks_here","_law_k","_law_cell","_law_places"] ["_law_script"] yrf
inductive yjf (K:W.Frag) (vs:List V) (H:Hp) (Q:VK) (E':XK):Prop
 | mk (l:Addr) (zs:List Int) (_:vs=[.ref l]) (_:SqL K H l (zs.map V.int)) (_:∀ r (n:Nat) (lk:Nat->Addr) (kd:Nat->Fin 3) (tp:Nat->Addr) (ps:Nat->List Int) H',H r=none->H' r=some (.lst (refs lk n))->1 <= n->n <= 6->xl H' n lk kd tp ps->yq H H'->Q (.ref r) H')
theorem yyx (T:Txt K mg a):vk P w K mg base CX0 2 a.Lz a.M0 ["_law_script"] (yjf K):=by
 exists T.My.F.ok,yau,hr;obtain ⟨l,zs,rfl,hl,k⟩:=h;refine yi (yv (i:=1) yau.nd rfl (Or.inl rfl) (wx ub)) ?_;refine yi (zr PassesOwn.never rfl (za rfl T.Bt (pa1 (yn vn ye (yn xb (xv (û T) hr.m T.Cj (pac (pv 0) (pa1 ye))) ye)))) (wt (i:=2) yau.nd rfl (Or.inl rfl)) (yg (yv (i:=3) yau.nd rfl (Or.inl rfl) (xv (û T) hr.m T.Cj (pac (pv 0) (pa1 (yn vn ye (pv 2)))))) (yg (yv (i:=4) yau.nd rfl (Or.inl rfl) (ut j4 (wx (pac (χ ub) (pac (χ (pa1 ye)) (pac (χ (pa1 ye)) (pac (χ (pac ye (pa1 ye))) (pac (χ (pa1 (yn vn ye (yn xb (yn vi (pv 3) ye) ye)))) (pa1 (χ (pac ye (pac ye (pac ye (pa1 ye)))))))))))) (yn xb (yn vi (pv 3) ye) ye) (fun _ _=>rfl))) (yd (yp (ue PySem.F.plainAttrs_list PySem.F.slot_list_append PySem.F.type_list_append v7 (pv 1) (pa1 (χ (pac (ut j4 (wx (pac wy (pac wy (pa1 wy)))) (yn xb (pv 3) ye) (fun _ _=>rfl)) (pa1 (pv 4))))))))))) ?_;exists _,(yd (yt (pv 1))),?_;exists 1,4;rfl';exists by walk_at "len",fun L hL0=>?_
 exists hL0,H1,S1,hL1;rfl';exists l,zs,0,rfl,S1.seq hl,by decide,fun c c0 c1=>?_
 rfl';obtain ⟨n,hn,n1,n6⟩:∃ n:Nat,1+c % 3=(n:Int)/\1 <= n/\n <= 6:=⟨(1+c % 3).toNat,by omega,by omega,by omega⟩;rw [hn];refine ⟨_,rfl,by omega,by omega,ζ (n:=n) (fun i σ2 G=>∃ (Y Z v4:Option V) (u:Nat->Addr) (S:Nat->Fin 3) (B:Nat->Addr) (v:Nat->List Int),σ2=[some (.ref l),some (.ref L),Y,Z,v4]/\G L=some (.lst (refs u i))/\xl G i u S B v/\yq H G)
  ⟨_,_,_,fun _=>0,fun _=>0,fun _=>0,fun _=>[],rfl,hL1,fun j W=>absurd W (bY j),S1⟩ ?_ ?_⟩
 .rintro i σ2 G hi ⟨Y,Z,v4,u,S,B,v,rfl,gL,gR,U⟩;rfl';exists l,zs,1+i,by rw [show ((1+i:Nat):Int)=1+(0+(i:Int)) by omega]; rfl,U.seq hl,by omega,fun d d0 d1=>?_
  rfl';exists by walk_at "len",fun x1 xg1=>?_
  exists xg1,xH1,xS1,xe1;rfl';exists by walk_at "len",fun x2 xg2=>?_
  exists xg2,xH2,xS2,xe2;rfl';exists by walk_at "len",fun x3 xg3=>?_
  exists xg3,xH3,xS3,xe3;rfl';exists by walk_at "len",fun x4 xg4=>?_
  exists xg4,xH4,xS4,xe4;rfl';exists by walk_at "len",fun x5 xg5=>?_
  exists xg5,xH5,xS5,xe5;rfl';exists by walk_at "len",fun x6 xg6=>?_
  exists xg6,xH6,xS6,xe6;rfl';exists by walk_at "len",fun x7 xg7=>?_
  exists xg7,xH7,xS7,xe7;have M:=xS7;have xe6:=M _ _ xe6;have R:=xS6.trans M;have xe5:=R _ _ xe5;have x:=xS5.trans R;have xe4:=x _ _ xe4;have I:=xS4.trans x;have xe3:=I _ _ xe3;have C:=xS3.trans I;have xe2:=C _ _ xe2;have y:=xS2.trans C;have xe1:=y _ _ xe1;have O:=xS1.trans y;rfl'
  obtain ⟨g,N,hv,hq,X⟩:∃ g N,atI [V.ref x1,V.ref x2,V.ref x3,V.ref x4,V.ref x5,V.ref x6] (d / 24 % 6)=some (.ref g)/\xH7 g=some (.tup (List.map V.int N))/\x9 (N.map V.int)=true:=by
   have h0:d / 24 % 6=0\/d / 24 % 6=1\/d / 24 % 6=2\/d / 24 % 6=3\/d / 24 % 6=4\/d / 24 % 6=5:=by omega
   rcases h0 with z | z | z | z | z | z <;> rw [z]
   .exists x1,[],rfl,xe1,rfl
   .exists x2,[1],rfl,xe2,rfl
   .exists x3,[2],rfl,xe3,rfl
   .exists x4,[1,2],rfl,xe4,rfl
   .exists x5,[1+d / 3 % 8],rfl,xe5,ygc (by show 1 <= 4; decide) (fun p hp=>?_) (List.pairwise_singleton _ _);rw [bJ.mp hp];omega
   .exists x6,[1,3,5,8],rfl,xe6,rfl
  refine yci (SqL.of xe7) hv ?_;have D:=O _ _ gL;rfl';refine uc D ?_;rfl';exists by walk_at "len",fun q2 hq2=>?_
  exists hq2,G4,T4,hq4;rfl';obtain ⟨kk,hk⟩:=yqu d;refine yci (SqL.of hq4) hk ?_;rfl';exists by walk_at "len",fun t ht=>?_
  exists ht,G7,T7,ht7;have r:=T4.trans T7;have q:=r _ _ D;have J:=O.trans r;rfl';refine w9 q (y8 (by rw [vv]; omega)) ?_;have g7:LkG G7 (.ref t) kk g N:=⟨t,rfl,ht7,r _ _ hq,X⟩;rfl';exists _,_,_,upN u i t,upN S i kk,upN B i g,upN v i N,rfl,?_,fun j W=>?_,fun b o e=>yf (yb e hL0) (J _ _ (U b o e))
  .rw [ya,η,xh]
   congr 3
   exact z9 fun j W=>(xf W).symm
  .by_cases z:j=i
   .subst z;rw [xh,xh,xh,xh];exact g7.upd q
   .have f:j < i:=by omega
    rw [xf f,xf f,xf f,xf f];exact ((gR j f).same J).upd q
 .rintro σ2 G ⟨Y,Z,v4,u,S,B,v,rfl,gL,gR,U⟩;rfl';exact k L n u S B v G hL0 gL n1 n6 gR U
#synth Ī ["_law_cell","_law_more","_law_size","_law_text_here","_law_k"] ["_law_cell","_law_more"] ytg
inductive ykk (K:W.Frag) (vs:List V) (H:Hp) (Q:VK) (E':XK):Prop
 | mk (c:Int) (m:Nat) (_:vs=[.int c,.int m]) (_:0 <= c) (_:c < 2147483647) (_:m <= 9) (_:∀ r (ts:List Int) H',H r=none->H' r=some (.lst (ts.map V.int))->Sgs ts->ts.length <= 12->yq H H'->Q (.ref r) H')
theorem yvc (T:Txt K mg a):vk P w K mg base CX0 1 a.M4 a.M5 ["_law_cell","_law_more"] (ykk K):=by
 exists T.Mz.F.ok,Ī,S;obtain ⟨c,m,rfl,X,U,R,k⟩:=h;refine yi (yv (i:=2) Ī.nd rfl (Or.inl rfl) (yn vn (yn xb (pv 0) ye) (pv 1))) ?_;refine yi (yv (i:=0) Ī.nd rfl (Or.inl rfl) (yn vi (pv 0) ye)) ?_;refine yi (yv (i:=3) Ī.nd rfl (Or.inl rfl) (wx ub)) ?_;refine yi (zr PassesOwn.never rfl (za rfl T.Bt (pa1 (pv 2))) (wt (i:=4) Ī.nd rfl (Or.inl rfl)) (yg (yp (ue PySem.F.plainAttrs_list PySem.F.slot_list_append PySem.F.type_list_append v7 (pv 3) (pa1 (yn xb (pv 0) ye)))) (yd (wz (y7 yi5 (yn xb (yn vi (pv 0) ye) ye) ye (vh _)) (yd (yv (i:=0) Ī.nd rfl (Or.inl rfl) (yn xb (yn w4 (yn vi (pv 0) ye) ye) ye))) ve)))) ?_;exists _,(yd (yt (pv 3))),?_;exists 2,3;rfl';obtain ⟨z,O,J⟩:∃ z:Nat,c % 4+(m:Int)=(z:Int)/\z <= 12:=⟨(c % 4+(m:Int)).toNat,by omega,by omega⟩;rw [O];have u:0 <= c / 4:=by omega
 have r:c / 4 < 2147483647:=by omega
 generalize c / 4=d at u r ⊢;exists by walk_at "len",fun t ht0=>?_
 exists ht0,H1,S1,ht1;rfl';refine ⟨_,rfl,by omega,by omega,ζ (n:=z) (fun i σ2 G=>∃ (v:Option V) (d:Int) (f:List Int),σ2=[some (.int d),some (.int m),some (.int z),some (.ref t),v]/\0 <= d/\d < 2147483647/\G t=some (.lst (f.map V.int))/\Sgs f/\f.length=i/\yq H G)
  ⟨_,d,[],rfl,u,r,ht1,(fun x D=>by cases D),rfl,S1⟩ ?_ ?_⟩
 .clear u r d;rintro i σ2 G W ⟨v,d,f,rfl,u,r,B,q,y,C⟩;rfl';refine uc B ?_;rfl';refine w9 B (y8 (by rw [bf]; omega)) ?_
  have g:Sgs (f++[d % 256]):=fun x D=>by
   rcases bP.mp D with z | z
   .exact q x z
   .rw [bJ.mp z];omega
  have j:(f++[d % 256]).length=i+1:=by rw [bj,y]; rfl
  have p:upd G t (.lst (f.map V.int++[V.int (d % 256)])) t=some (.lst ((f++[d % 256]).map V.int)):=by rw [ya,bz]; rfl
  have l:yq H (upd G t (.lst (f.map V.int++[V.int (d % 256)]))):=fun b o e=>yf (yb e ht0) (C _ _ e);generalize upd G t (.lst (f.map V.int++[V.int (d % 256)]))=Y at p l ⊢;rfl';refine z0 (fun N=>?_) (fun N=>?_)
  .rfl';exists _,_,_,rfl,cH _ (by decide),cr _ (by decide),p,g,j,l
  .exists _,d,_,rfl,u,r,p,g,j,l
 .rintro σ2 G ⟨v,d,f,rfl,u,r,B,q,y,C⟩;rfl';exact k t f G ht0 B q (by omega) C
def upS (g:Str->Addr) (b:Str) (x:Addr):Str->Addr:=fun s=>if s=b then x else g s
theorem yme {g:Str->Addr} {b:Str} {x:Addr}:upS g b x b=x:=if_pos rfl
theorem yns {g:Str->Addr} {b s:Str} {x:Addr} (h:s≠b):upS g b x s=g s:=if_neg h
def pcV (tu:Str->Addr) (P:List Pd):List V:=P.map fun q=>V.ref (tu q.nm)
structure Pcl (H:Hp) (X:Sx) (pl:Addr) (P:List Pd) (tu:Str->Addr):Prop where
 l:Kf H X pl (.lst (pcV tu P))
 t:∀ q,q∈P->Kf H X (tu q.nm) (.tup [.str q.nm,baV q.bs])
theorem Pcl.same {H H':Hp} {X:Sx} {pl:Addr} {P:List Pd} (h:Pcl H X pl P tu) (S:yq H H'):Pcl H' X pl P tu:=⟨h.l.same S,fun q a=>(h.t q a).same S⟩
theorem Pcl.go {H H':Hp} {st:Addr} {C:Cf} {P P2:List Pd} {X Y:Sx} {pl:Addr} (h:Pcl H X pl P tu) (s:Sto K a H st C P2 X) (g:Gx X H H' Y):Pcl H' Y pl P tu:=⟨h.l.go s g,fun q b=>(h.t q b).go s g⟩
theorem yh3 {P:List Pd} {x:V} (h:(pcV tu P)[i]?=some x):∃ q,P[i]?=some q/\x=V.ref (tu q.nm):=by
 unfold pcV at h;rw [br] at h;obtain ⟨q,a,e⟩:=Option.map_eq_some_iff.mp h;exact ⟨q,a,e.symm⟩
def pcF (f:Pd->V) (P:List Pd) (i:Nat):V:=((P[i]?).map f).getD .non
theorem ynn {f:Pd->V} {P:List Pd} {q:Pd} (h:P[i]?=some q):pcF f P i=f q:=by
 unfold pcF;rw [h];rfl
theorem yqy (f:Pd->V) (P:List Pd):(List.range P.length).map (pcF f P)=P.map f:=by
 refine List.ext_getElem? fun i=>?_;rw [br,br];rcases Nat.lt_or_ge i P.length with h | h
 .rw [cD h,bo h];exact congrArg some (ynn (bo h))
 .rw [bV (by rw [bU]; exact h),bV h];rfl
theorem Pcl.comp {H:Hp} {X:Sx} {pl:Addr} {P:List Pd} {fr:St} {R:Hp->Prop} (h:Pcl H X pl P tu) (f:Pd->V) (j:Nat) (hf:∀ q,[V.str q.nm,baV q.bs][j]?=some (f q)) (hz:P.length < sizeLine) (hD:H D=none)
  (hd:∀ G,yq H G->G D=some (.lst (P.map f))->R G):xw (Itl K pl) (tOp (yn5 K) (vap 0) (tC (.int (j:Nat)))) fr D R H:=by
 have d:(pcV tu P).length=P.length:=bf _;refine Ä (Mp H D (pcF f P)) (Mp.zero hD) (fun _ _ _ p=>p.1.seq (SqL.of h.l.1)) (fun i x G b c p=>?_) fun G p=>hd G p.1 (by rw [<- yqy,<- d]; exact p.2);obtain ⟨q,a,rfl⟩:=yh3 b;rfl';refine Ŧ (SqT.of (p.1 _ _ (h.t q (bI a)).1)) (xr (hf q)) ?_;exact Mp.doneR hD (by omega) c p.1 p.2 (ynn a).symm
theorem yql (b:Str) (P:List Pd):inV (.str b) (P.map fun q=>baV q.bs)=P.any fun q=>decide (q.bs=some b):=by
 unfold inV;rw [List.any_map]
 congr 1
 funext q
 show eqV (baV q.bs) (.str b)=_
 cases e:q.bs with
 | none=>simp [baV,eqV]
 | some x =>
  simp [baV,eqV];rw [Bool.eq_iff_iff,beq_iff_eq,decide_eq_true_iff]
theorem yjh (P:List Pd):(P.map fun q=>baV q.bs).all Ē=true:=by
 rw [List.all_eq_true];intro v a;obtain ⟨q,_,rfl⟩:=bq.mp a;cases q.bs <;> rfl
theorem yqp {P:List Pd} {q:Pd} {t:Addr} (hno:∀ r,r∈P->r.nm≠q.nm):pcV (upS tu q.nm t) (P++[q])=pcV tu P++[V.ref t]:=by
 unfold pcV;rw [bz,List.map_singleton,yme]
 congr 1
 exact List.map_congr_left fun r a=>by rw [yns (hno r a)]
#synth ydz ["_law_store","_law_pieces","_law_names_here","_law_cell","_law_text_here","_law_name","_law_there","_law_base"] ["_law_store","_law_pieces","_law_names_here","_law_cell","_law_text_here"] yry
inductive yjl (K:W.Frag) (a:Ads) (vs:List V) (H:Hp) (Q:VK) (E':XK):Prop
 | mk (st pl nl t:Addr) (C:Cf) (P:List Pd) (X:Sx) (tu:Str->Addr) (ns:List Str) (ts:List Int) (c:Int) (B:Hp) (_:vs=[.ref st,.ref pl,.ref nl,.int c,.ref t]) (_:Sto K a H st C P X) (_:Pcl H X pl P tu) (_:Bs B H X) (_:B nl=some (.lst (ns.map V.str))) (_:ns.length=6) (_:(∀ x,x∈ns->OkL x)) (_:0 <= c) (_:Ì H t ts 12) (_:C.w=12) (_:P.length <= 6) (_:(∀ q,q∈P->q.nm∈ns)) (_:∀ P' Y pl' tu' H',Sto K a H' st C P' Y->Pcl H' Y pl' P' tu'->Bs B H' Y->P'.length <= 6->(∀ q,q∈P'->q.nm∈ns)->Q (.ref pl') H')
theorem ywo (T:Txt K mg a):vk P w K mg base CX0 14 a.M6 a.M7 ["_law_store","_law_pieces","_law_names_here","_law_cell","_law_text_here"] (yjl K a):=by
 exists T.N0.F.ok,ydz,hr;obtain ⟨st,pl,nl,t,C,P,X,tu,ns,ts,c,B,rfl,hS,a0,hB,al,n6,ai,c0,ht,hw,aq,f,k⟩:=h;obtain ⟨ds,vl,vm,vp,vc,ac⟩:=hS.ins;refine yi (yv (i:=5) ydz.nd rfl (Or.inr rfl) (ut j4 (pv 2) (yn xb (yn vi (pv 3) ye) ye) (fun _ _=>rfl))) ?_;refine yi (ō (i:=6) (js:=[]) (ys:=[]) ydz.nd rfl rfl rfl (we (pv 1)) (fun C s2 H2 fp=>(ut (r:=yn5 K) uh (pv 0) ye (fun _ _=>rfl))) rfl rfl (hyc:=yr) (hrel:=yr)) ?_;refine yi (wz (PW.pt (yu7 (y7 õ (pv 5) (pv 6) (by with_unfolding_all rfl)) (yqf (y7 Ŷ (pv 5) (vq (js:=[]) (ys:=[]) rfl (we (pv 1)) (fun C s2 H2 fp=>(ut (r:=yn5 K) uh (pv 0) ye (fun _ _=>rfl))) rfl rfl (hyc:=yr) (hrel:=yr)) (by with_unfolding_all rfl))))) (yg (yp (vw (pv 0) T.A3 T.Gn.m (yv9 T) hr.m T.Gn.B .nil ww (pa1 (pv 5)))) (yd (yt (yk6 (js:=[5]) (ys:=["_law_name"]) rfl (we (pv 1)) (fun C s2 H2 fp=>(y7 va7 (ut (r:=yn5 K) uh (pv 0) ye (fun _ _=>rfl)) (pv 1) (vh _))) (fun C s2 H2 fp=>(pv 0)) rfl rfl (hyc:=(all_cons rfl yr)) (hrel:=(all_cons rfl yr)))))) ve) ?_;refine yi (wz (y7 õ (pv 5) (pv 6) (by with_unfolding_all rfl)) (yd (yt (pv 1))) ve) ?_;refine yi (yv (i:=7) ydz.nd rfl (Or.inl rfl) (ut j4 (yn zx (pv 6) (wx (pa1 ý))) (yn xb (yn vi (pv 3) ye) (yn vn (pcB yo T.Ac (pa1 (pv 6))) ye)) (fun _ _=>rfl))) ?_;refine yi (yp (vw (pv 0) T.A3 T.Py (yvs T) hr.m T.Px .nil ww (pac (pv 5) (pac (pv 4) (pa1 (pv 7)))))) ?_;exists _,(yd (yt (yn zx (pv 1) (wx (pa1 (χ (pac (pv 5) (pa1 (pv 7))))))))),?_;exists 5,3;obtain ⟨j,hj,aw⟩:∃ j:Nat,c / 8 % 6=(j:Int)/\j < 6:=⟨(c / 8 % 6).toNat,by omega,by omega⟩;have a7:j < ns.length:=by omega
 rfl';rw [hj];refine yci (v:=.str ns[j]) (SqL.of (hB.s _ _ al)) (xr (by rw [br,bo a7]; rfl)) ?_;have R:=cg a7;generalize ns[j]=b at R ⊢;have a8:=ai b R;rfl';exists pl,rfl,⟨_,SqL.of a0.l.1⟩,fun D hD=>?_;refine a0.comp (fun q=>.str q.nm) 0 (fun _=>rfl) (y8 (by omega)) hD fun G SG hG=>?_;have hG:G D=some (.lst ((P.map (·.nm)).map V.str)):=by rw [hG,bS]; rfl
 have W:=hS.same SG;have O:=a0.same SG;have a1:=hB.same SG;have Z:=ht.same SG;have N:=SG _ _ ac;clear hS a0 hB ht ac SG;rfl';exists D,_,rfl,.inl (SqL.of hG),rfl,ñ _,?_;rw [Ō];by_cases hin:b∈P.map (·.nm)
 .obtain ⟨r,hr,rb⟩:=bq.mp hin;rw [bx hin];exists _,rfl,ī ?_;rfl';exists pl,rfl,⟨_,SqL.of O.l.1⟩,fun D2 ak=>?_;refine O.comp (fun q=>baV q.bs) 1 (fun _=>rfl) (y8 (by omega)) ak fun G2 I ap=>?_;have U:=W.same I;have a6:=O.same I;have ab:=a1.same I;have as:=I _ _ N;have ao:=I _ _ hG;clear W O a1 Z N I hG;exists D2,_,rfl,.inl (SqL.of ap),rfl,yjh _,?_;rw [yql]
  cases hu:P.any fun q=>decide (q.bs=some b) with
  | false =>
   have an:∀ q,q∈P->q.bs≠some b:=fun q d e=>by
    rw [List.any_eq_false] at hu;exact hu q d (bx e)
   rfl';refine ī ?_;rfl';refine U.drop a8.1.1 (fun no=>absurd rb (no r hr)) (fun r hr e ⟨u,hu,eu⟩=>absurd eu (an u hu)) (fun r hr e _ Y H2 J g3=>?_);have g:=a6.go U g3;have am:=ab.go U g3;rfl';exists pl,rfl,⟨_,SqL.of g.l.1⟩,fun D4 a3=>?_;have ah:(pcV tu P).length=P.length:=bf _;refine yeo (fun i F=>F D4=some (.lst (pcV tu ((P.take i).filter fun q=>decide (q.nm≠b))))/\yq H2 F) ⟨ya,yx a3⟩ (fun i F _ ⟨_,S⟩=>S.seq (SqL.of g.l.1)) (fun i x F hx hi ⟨gD,S⟩=>?_) (fun F ⟨gD,S⟩=>?_)
   .obtain ⟨q,d,rfl⟩:=yh3 hx;have aj:=bI d;have af:i < P.length:=(bM.mp d).1;have aa:P[i]=q:=(bM.mp d).2;rfl';refine Ŧ (SqT.of (S _ _ (g.t q aj).1)) (xr (j:=0) rfl) ?_;rfl';exists rfl,?_;by_cases e:q.nm=b
    .rw [bx (show V.str q.nm=V.str b by rw [e])];exists _,rfl,ē ?_;refine yfw hi ⟨?_,S⟩;rw [gD,bZ af,List.filter_append,aa,List.filter_cons_of_neg (by simpa using e)];simp
    .rw [bA (show ¬ V.str q.nm=V.str b from fun z=>e (V.str.inj z))];exists _,rfl,ī ?_;rfl';have ae:=List.length_filter_le (fun q:Pd=>decide (q.nm≠b)) (P.take i);rw [bX] at ae;refine u9 gD (y8 (by unfold pcV; rw [bf]; omega)) hi ⟨?_,fun y o e=>yf (yb e a3) (S _ _ e)⟩;rw [ya,bZ af,List.filter_append,aa,List.filter_cons_of_pos (by simpa using e)];unfold pcV;rw [bz];rfl
   .rw [ah,cy] at gD;have ae:=List.length_filter_le (fun q:Pd=>decide (q.nm≠b)) P;exact k _ Y D4 tu F (J.same S) ⟨Kf.new J a3 gD,fun q d=>(g.t q (cO.mp d).1).same S⟩ (am.same S) (by omega) fun q d=>f q (cO.mp d).1
  | true =>
   rfl';refine ē ?_;rfl';exists D,_,rfl,.inl (SqL.of ao),rfl,ñ _,?_;rw [Ō,bx hin];rfl';refine ī ?_;rfl';exact k P X pl tu G2 U a6 ab aq f
 .have a5:∀ r,r∈P->r.nm≠b:=fun r hr e=>hin (bq.mpr ⟨r,hr,e⟩)
  have ax:P.length <= 5:=by
   have:=yb9 (l:=b :: P.map (·.nm)) (m:=ns) (cA.mpr ⟨hin,W.nd⟩) fun x hx=>by
    rcases bB.mp hx with rfl | hx
    .exact R
    .obtain ⟨q,d,rfl⟩:=bq.mp hx;exact f q d
   rw [bK,bf] at this;omega
  rw [bA hin];exists _,rfl,ē ?_;rfl';exists D,_,rfl,.inl (SqL.of hG),rfl,ñ _,?_;rw [Ō,bA hin];rfl';refine ē ?_;rfl';exists by walk_at "len",fun u hu0=>?_
  exists hu0,G2,S2,hu2;rfl';exists D,u,_,_,rfl,rfl,S2 _ _ hG,hu2,xa (by rw [bf,bf]; show _+1 <= _; omega),fun e hee0=>?_;exists hee0,G3,S3,he3;have n:=S2.trans S3;rfl';refine zg (SqL.of (n _ _ hG)) ?_;rw [bf,bf];rfl'
  obtain ⟨w,a9,av⟩:∃ w:Nat,c / 48 % ((P.length:Int)+1)=(w:Int)/\w <= P.length:=by
   have h0:=cH (c / 48) (show ((P.length:Int)+1)≠0 by omega);have h1:=cr (c / 48) (show 0 < ((P.length:Int)+1) by omega);exists (c / 48 % ((P.length:Int)+1)).toNat,by omega,by omega
  rw [a9]
  obtain ⟨x,L,hx,hL⟩:∃ x L,((P.map (·.nm)).map V.str++[V.non])[w]?=some (baV x)/\ToD P x L:=by
   rcases Nat.lt_or_ge w P.length with z | z
   .exists some (P[w]).nm,_,?_,P[w],cg z,rfl,rfl;rw [cG (by simpa using z),br,br,bo z];rfl
   .exists none,[],?_,rfl;rw [cb (by simpa using z)];simp [show w - P.length=0 by omega];rfl
  refine yci (SqL.of he3) (xr hx) ?_;have J:=W.same n;have au:=n _ _ N;have g:=O.same n;rfl';refine J.put a8.1 ⟨n _ _ Z.l,Z.s,by rw [hw]; exact Z.z⟩ hL a5 (by omega) fun Y H4 a2 g4=>?_;have ad:=g.go J g4;have ag:=(a1.same n).go J g4;rfl';exists by walk_at "len",fun p hp0=>?_
  exists hp0,H5,S5,hp5;rfl';exists by walk_at "len",fun p2 hp20=>?_
  exists hp20,H6,S6,hp26;have a4:=S5.trans S6;rfl';exists pl,p2,_,_,rfl,rfl,a4 _ _ ad.l.1,hp26,xa (by unfold pcV; rw [bf]; show _+1 <= _; omega),fun e2 M=>?_;have S7:=a4.trans (yx (o:=.lst (pcV tu P++[V.ref p])) M);refine k _ Y e2 (upS tu b p) _ (a2.same S7) ⟨?_,fun q d=>?_⟩ (ag.same S7) (by rw [bj]; show _+1 <= _; omega) fun q d=>?_
  .have e:=yqp (tu:=tu) (q:=⟨b,x,L,ts⟩) (t:=p) a5;rw [show upS tu b p=upS tu (Pd.mk b x L ts).nm p from rfl,e];exact Kf.new (a2.same a4) M ya
  .rcases bP.mp d with z | z
   .rw [yns (a5 q z)];exact (ad.t q z).same S7
   .rw [bJ.mp z];show Kf _ _ (upS tu b p b) _;rw [yme];exact (Kf.new a2 hp0 hp5).same (S6.trans (yx M))
  .rcases bP.mp d with z | z
   .exact f q z
   .rw [bJ.mp z];exact R
def kdD:List (Key × V):=[(.inr "even",.int 0),(.inr "quick",.int 1),(.inr "run",.int 2)]
theorem yx9 (k:Fin 3):zz (jn [] kdD) (.inr (kdS k))=some (.int ((k.val:Nat):Int)):=by
 revert k;decide
#synth zb ["_law_store","_law_looks_here","_law_most","_law_pieces","_law_due_here","_law_kind","_law_places","_law_there","_law_name","_law_base","_law_number"] ["_law_store","_law_looks_here","_law_most","_law_pieces"] yq8
inductive yo8 (K:W.Frag) (a:Ads) (vs:List V) (H:Hp) (Q:VK) (E':XK):Prop
 | mk (st lo pl:Addr) (C:Cf) (P:List Pd) (X:Sx) (lk tp:Nat->Addr) (tu:Str->Addr) (_:vs=[.ref st,.ref lo,.int ((C.mo:Nat):Int),.ref pl]) (_:Sto K a H st C P X) (_:Pcl H X pl P tu) (_:H lo=some (.lst (refs lk C.n))) (_:xl H C.n lk C.kd tp C.ps) (_:P.length <= 6) (_:∀ l H',H l=none->H' l=some (.lst ((shB C P).map V.int))->yq H H'->Q (.ref l) H')
theorem ynk (T:Txt K mg a):vk P w K mg base CX0 5 a.M8 a.M9 ["_law_store","_law_looks_here","_law_most","_law_pieces"] (yo8 K a):=by
 exists T.Gp.F.ok,zb,hr;obtain ⟨st,lo,pl,C,P,X,lk,tp,tu,rfl,hS,L,a4,hR,aD,k⟩:=h;obtain ⟨c1,c6,cm,cw,c2⟩:=hS.cf;have ag:=hR.lkl;refine yi (yv (i:=4) zb.nd rfl (Or.inl rfl) (wx (pa1 (pcB yo T.Ac (pa1 (pv 1)))))) ?_;refine yi (zr PassesOwn.never rfl (we (pv 1)) (yaw rfl (xt (wt (i:=5) zb.nd rfl (Or.inl rfl)) (xt (wt (i:=6) zb.nd rfl (Or.inl rfl)) ù))) (yg (yp (ue PySem.F.plainAttrs_list PySem.F.slot_list_append PySem.F.type_list_append v7 (pv 4) (pa1 (ú (đ hr) (ypz (ŗ wy ye (ŗ wy ye (ŗ wy ye yq1))) rfl rfl (by simp) (by decide)) (pv 5) (fun _ _=>rfl))))) (yg (yp (ue PySem.F.plainAttrs_list PySem.F.slot_list_append PySem.F.type_list_append v7 (pv 4) (pa1 (pcB yo T.Ac (pa1 (pv 6)))))) (yd (yv (i:=4) zb.nd rfl (Or.inl rfl) (yn zx (pv 4) (pcT wo T.An (pa1 (pv 6))))))))) ?_;refine yi (yv (i:=4) zb.nd rfl (Or.inl rfl) (yn zx (pv 4) (wx (pac (yn vi (pv 2) ye) (pac (yn xb (pv 2) ye) (pa1 (pcB yo T.Ac (pa1 (pv 3))))))))) ?_;refine yi (ō (i:=7) (js:=[]) (ys:=[]) zb.nd rfl rfl rfl (we (pv 3)) (fun C s2 H2 fp=>(ut (r:=yn5 K) uh (pv 0) ye (fun _ _=>rfl))) rfl rfl (hyc:=yr) (hrel:=yr)) ?_;refine yi (zr PassesOwn.never rfl (we (pv 3)) (yaw rfl (xt (wt (i:=8) zb.nd rfl (Or.inl rfl)) (xt (wt (i:=9) zb.nd rfl (Or.inl rfl)) ù))) (yg (yp (ue PySem.F.plainAttrs_list PySem.F.slot_list_append PySem.F.type_list_append v7 (pv 4) (pa1 (pcB uf T.Ac (pa1 (pv 8)))))) (yg (yv (i:=4) zb.nd rfl (Or.inl rfl) (yn zx (pv 4) (vq (js:=[]) (ys:=[]) rfl (yib (pv 8)) (fun C s2 H2 fp=>(ym6 (K:=K) (r:=(ycc)) rfl PySem.F.plainAttrs_str PySem.F.slot_str_index PySem.F.type_str_index ź wy (pa1 (pv 0)))) rfl rfl (hyc:=yr) (hrel:=yr)))) (yg (yv (i:=10) zb.nd rfl (Or.inl rfl) ye) (yg (Ģ (wz (y7 Ŝ (pv 9) ý (vh _)) (yd (yv (i:=10) zb.nd rfl (Or.inl rfl) (yn vn ye (ue PySem.F.plainAttrs_list PySem.F.slot_list_index PySem.F.type_list_index Ž (pv 7) (pa1 (pv 9)))))) ve)) (yd (yv (i:=4) zb.nd rfl (Or.inl rfl) (yn zx (yn zx (pv 4) (wx (pa1 (pv 10)))) (vw (pv 0) T.A3 T.Di.m (ymq T) hr.m T.Di.B .nil ww (pa1 (pv 8))))))))))) ?_;exists _,(yd (yt (pv 4))),?_;exists 4,7;rfl';refine zg (SqL.of a4) ?_;rw [vv];rfl';exists by walk_at "len",fun d0 hd00=>?_
 exists hd00,H1,S1,hd01;rfl';refine ⟨lo,rfl,⟨_,SqL.of (S1 _ _ a4)⟩,ug (K:=K) (a:=lo) (xs:=refs lk C.n) (fun i σ2 G=>∃ (d:Addr) (v5 v6:Option V),σ2=[some (.ref st),some (.ref lo),some (.int ((C.mo:Nat):Int)),some (.ref pl),some (.ref d),v5,v6,none,none,none,none]/\yq H G/\H d=none/\G d=some (.lst ((((C.n:Nat):Int) :: lkF C i).map V.int)))
  ⟨d0,none,none,rfl,S1,hd00,hd01⟩ (by rintro i σ2 G _ ⟨_,_,_,_,j,_⟩; exact SqL.of (j _ _ a4)) ?_ ?_⟩
 .clear hd00 hd01 S1;rintro i y σ2 G hy ⟨d,v5,v6,rfl,j,p,f⟩;obtain ⟨rfl,hi⟩:=jg hy;have ai:=ag i (by omega);obtain ⟨aA,aj,h1,h2,h3⟩:=hR i hi;cases aj;have h4:=xz h3;rw [bf] at h4;refine ya0 (SqT.of (j _ _ h1)) rfl ?_;rfl';refine uc f ?_;rfl';intro Z a0;rfl';exists ya,kdD,rfl,by decide,?_
  have O:yq G (upd (upd G Z (.dK [])) Z (.dK (jn [] kdD))):=fun b o e=>yf (yb e a0) (yf (yb e a0) e);have a6:upd (upd G Z (.dK [])) Z (.dK (jn [] kdD)) Z=some (.dK (jn [] kdD)):=ya;generalize upd (upd G Z (.dK [])) Z (.dK (jn [] kdD))=G2 at O a6 ⊢;rfl';exists Z,_,rfl,.inl ⟨_,.inr (kdS (C.kd i)),.inl a6,rfl,(yx9 _).symm⟩,?_;have ab:=O _ _ f;rfl';refine w9 ab (y8 (by rw [bf]; show (lkF C i).length+1 <= _; omega)) ?_;have x:yq H (upd G2 d (.lst ((((C.n:Nat):Int) :: lkF C i).map V.int++[V.int (((C.kd i).val:Nat):Int)]))):=fun b o e=>yf (yb e p) (O _ _ (j _ _ e));have v:upd G2 d (.lst ((((C.n:Nat):Int) :: lkF C i).map V.int++[V.int (((C.kd i).val:Nat):Int)])) d=some (.lst ((((C.n:Nat):Int) :: lkF C i).map V.int++[V.int (((C.kd i).val:Nat):Int)])):=ya;generalize upd G2 d (.lst ((((C.n:Nat):Int) :: lkF C i).map V.int++[V.int (((C.kd i).val:Nat):Int)]))=G3 at x v ⊢;clear ab a6 O f j;rfl';refine uc v ?_;rfl';exists tp i,_,rfl,.inr (SqT.of (x _ _ h2)),?_;rw [bf];rfl';refine w9 v (y8 (by rw [bj,bf]; show (lkF C i).length+1+1 <= _; omega)) ?_;have S4:yq H (upd G3 d (.lst ((((C.n:Nat):Int) :: lkF C i).map V.int++[V.int (((C.kd i).val:Nat):Int)]++[V.int (((C.ps i).length:Nat):Int)]))):=fun b o e=>yf (yb e p) (x _ _ e);have a8:upd G3 d (.lst ((((C.n:Nat):Int) :: lkF C i).map V.int++[V.int (((C.kd i).val:Nat):Int)]++[V.int (((C.ps i).length:Nat):Int)])) d=some (.lst ((((C.n:Nat):Int) :: lkF C i).map V.int++[V.int (((C.kd i).val:Nat):Int)]++[V.int (((C.ps i).length:Nat):Int)])):=ya;generalize upd G3 d (.lst ((((C.n:Nat):Int) :: lkF C i).map V.int++[V.int (((C.kd i).val:Nat):Int)]++[V.int (((C.ps i).length:Nat):Int)]))=G4 at S4 a8 ⊢;clear v x;rfl';exists tp i,_,rfl,.inr (SqT.of (S4 _ _ h2)),fun w hw0=>?_;exists hw0,G5,T5,hw5;rfl';exists d,w,_,_,rfl,rfl,T5 _ _ a8,hw5,xa (by rw [bj,bj,bf,bf]; show (lkF C i).length+1+1+1+_ <= _; omega),fun e I=>?_;rfl';have T6:=T5.trans (yx (o:=HO.lst ((((C.n:Nat):Int) :: lkF C i).map V.int++[V.int (((C.kd i).val:Nat):Int)]++[V.int (((C.ps i).length:Nat):Int)]++(C.ps i).map V.int)) I);exists e,_,_,rfl,S4.trans T6,S4.free (T5.free I),?_;rw [ya,ő,bR,bR];show some (HO.lst (V.int _ :: ((lkF C i).map V.int++_)))=some (HO.lst (V.int _ :: (lkF C i++_).map V.int));rw [bz];rfl
 clear hd00 hd01 S1;rintro σ2 G ⟨d,v5,v6,rfl,j,p,f⟩;rw [vv] at f;have ai:=ag C.n (bp _);have Y:(pcV tu P).length=P.length:=bf _;rfl';refine zg (SqL.of (j _ _ L.l.1)) ?_;rw [Y];rfl';exists by walk_at "len",fun u hu0=>?_
 exists hu0,G1,T1,hu1;rfl';exists d,u,_,_,rfl,rfl,T1 _ _ f,hu1,xa (by rw [bf]; show (lkF C C.n).length+1+3 <= _; omega),fun e I=>?_;have O:yq H (upd G1 e (.lst ((((C.n:Nat):Int) :: lkF C C.n).map V.int++[V.int (((C.mo:Nat):Int) / 256),V.int (((C.mo:Nat):Int) % 256),V.int ((P.length:Nat):Int)]))):=j.trans (T1.trans (yx I))
 have R:upd G1 e (.lst ((((C.n:Nat):Int) :: lkF C C.n).map V.int++[V.int (((C.mo:Nat):Int) / 256),V.int (((C.mo:Nat):Int) % 256),V.int ((P.length:Nat):Int)])) e=some (.lst ((hdB C++((P.length:Nat):Int) :: ((P.take 0).map (pdB C P)).flatten).map V.int)):=by
  rw [ya];unfold hdB;rw [bR,bz];rfl
 have af:H e=none:=j.free (T1.free I);generalize upd G1 e (.lst ((((C.n:Nat):Int) :: lkF C C.n).map V.int++[V.int (((C.mo:Nat):Int) / 256),V.int (((C.mo:Nat):Int) % 256),V.int ((P.length:Nat):Int)]))=G2 at O R ⊢;clear f p j T1 hu0 hu1 I;have av:(hdB C).length <= 40:=by unfold hdB; rw [bj,bK]; show _+1+2 <= 40; omega
 rfl';exists pl,rfl,⟨_,SqL.of (O _ _ L.l.1)⟩,fun D hD=>?_;refine (L.same O).comp (fun q=>.str q.nm) 0 (fun _=>rfl) (y8 (by omega)) hD fun G3 T3 g=>?_;have g:G3 D=some (.lst ((P.map (·.nm)).map V.str)):=by rw [g,bS]; rfl
 have x:=O.trans T3;have ae:=T3 _ _ R;have aB:H D=none:=O.free hD;have M:D≠e:=(yb R hD).symm;clear O T3 R hD;rfl';refine ⟨pl,rfl,⟨_,SqL.of (x _ _ L.l.1)⟩,ug (K:=K) (a:=pl) (xs:=pcV tu P) (fun i σ2 G=>∃ (d:Addr) (v8 v9 a7:Option V),σ2=[some (.ref st),some (.ref lo),some (.int ((C.mo:Nat):Int)),some (.ref pl),some (.ref d),v5,v6,some (.ref D),v8,v9,a7]/\yq H G/\H d=none/\D≠d/\G D=some (.lst ((P.map (·.nm)).map V.str))/\G d=some (.lst ((hdB C++((P.length:Nat):Int) :: ((P.take i).map (pdB C P)).flatten).map V.int)))
  ⟨e,none,none,none,rfl,x,af,M,g,ae⟩ (by rintro i σ2 G _ ⟨_,_,_,_,_,j,_⟩; exact SqL.of (j _ _ L.l.1)) ?_ ?_⟩
 .clear x af M g ae;rintro i y σ2 G hy ⟨d,v8,v9,a7,rfl,j,p,M,a3,f⟩;obtain ⟨q,hq,rfl⟩:=yh3 hy;have J:=bI hq;have a1:=hS.nm q J;have h8:=zn a1.1;have ay:i < P.length:=(bM.mp hq).1;have au:=hS.pls i (by omega);have a5:=hS.pdl J
  have an:(nmB q.nm).length+1+(q.by C).length <= 5520:=by
   unfold pdB at a5;rw [bj,bj] at a5;exact a5
  have ax:(nmB q.nm).length=q.nm.cps.toList.length+1:=by unfold nmB; rw [bK,bf]
  generalize aa:hdB C++((P.length:Nat):Int) :: ((P.take i).map (pdB C P)).flatten=xs at f;have az:xs.length <= 400000:=by rw [<- aa,bj,bK]; omega
  refine ya0 (SqT.of (j _ _ (L.t q J).1)) rfl ?_;rfl';refine uc f ?_;rfl';exists q.nm,rfl,bN h8 (by decide),?_;rfl';refine w9 f (y8 (by rw [bf]; omega)) ?_;have x:yq H (upd G d (.lst (xs.map V.int++[V.int ((q.nm.length:Nat):Int)]))):=fun b o e=>yf (yb e p) (j _ _ e);have g:=yf (o':=HO.lst (xs.map V.int++[V.int ((q.nm.length:Nat):Int)])) M a3;have v:upd G d (.lst (xs.map V.int++[V.int ((q.nm.length:Nat):Int)])) d=some (.lst (xs.map V.int++[V.int ((q.nm.length:Nat):Int)])):=ya;generalize upd G d (.lst (xs.map V.int++[V.int ((q.nm.length:Nat):Int)]))=G3 at x g v ⊢;clear j a3 f;rfl';exists q.nm,rfl,fun D4 a2=>?_;refine î (fun i=>.int ((lix (q.nm.cps.toList.getD i 0):Nat):Int)) a2 (fun i c F hc hi W hF=>?_) (fun F W hF=>?_)
  .obtain ⟨jj,ho⟩:=yhg a1.1 hc;rfl';exists rfl,?_;rfl';exists smS,_,lix c,jj,rfl,rfl,ho,?_;refine Mp.doneR a2 (y8 (by show q.nm.length <= _; omega)) hi W hF ?_;show V.int _=V.int _;rw [cL,Array.getElem?_toList,hc];rfl
  rw [yg6] at hF;rfl';exists d,D4,_,_,rfl,rfl,W _ _ v,hF,xa (by rw [bj,bf,bf,bf]; show _+1+q.nm.length <= _; omega),fun d5 hd50=>?_
  have eN:xs.map V.int++[V.int ((q.nm.length:Nat):Int)]++(q.nm.cps.toList.map fun c=>((lix c:Nat):Int)).map V.int=(xs++nmB q.nm).map V.int:=by
   rw [bR,bz];rfl
  rw [eN];exists hd50,G5,T5,hd55;have S5:=x.trans (W.trans T5);have U:=T5 _ _ (W _ _ g);have am:H d5=none:=x.free (W.free hd50);have al:D≠d5:=yb (W _ _ g) hd50;clear x g v a2 hF W T5 hd50;rfl';exists fun σ2 F=>G5=F/\σ2=[some (.ref st),some (.ref lo),some (.int ((C.mo:Nat):Int)),some (.ref pl),some (.ref d5),v5,v6,some (.ref D),some (.str q.nm),some (baV q.bs),some (.int (bsN P q.bs))],?_,?_
  .cases hb:q.bs with
   | none =>
    rfl';refine yn6 (fun _=>?_) (fun z=>absurd rfl z);exists rfl,rfl
   | some b =>
    have ac:=hS.to q J;rw [hb] at ac;obtain ⟨u,hu,eu,_⟩:=ac;rfl'
    refine yn6 (fun z=>nomatch z) (fun _=>?_)
    rfl';refine uc U ?_;rfl';exists D,_,b,_,rfl,rfl,SqL.of U,yhl (bq.mpr ⟨u,hu,eu⟩),?_;rfl';exists rfl,?_;rw [show (1:Int)+(((P.map (·.nm)).idxOf b:Nat):Int)=bsN P (some b) by show _=(((P.map (·.nm)).idxOf b:Nat):Int)+1; omega]
  rintro σ2 F ⟨rfl,rfl⟩;rfl';exists by walk_at "len",fun u hu0=>?_
  exists hu0,G6,T6,hu6;rfl';exists d5,u,_,_,rfl,rfl,T6 _ _ hd55,hu6,xa (by rw [bf,bj]; show _+1 <= _; omega),fun d7 hd70=>?_;exists hd70,G7,T7,hd77;have S:=T6.trans T7;have ah:=hS.same (S5.trans S);obtain ⟨aq,as,ar,aC,aE,ap⟩:=ah.ins;rfl';refine ah.bytesof a1.1 (fun no=>absurd rfl (no q J)) fun r hr er b4 G8 ao a9 T8=>?_;obtain rfl:=Ĩ hS.nd hr J er;rfl';exists d7,b4,_,_,rfl,rfl,T8 _ _ hd77,a9,xa (by rw [bj,bf,bf,bj]; show _+1+_ <= _; omega),fun d9 N=>?_;have T9:=S.trans (T8.trans (yx (o:=HO.lst ((xs++nmB r.nm).map V.int++[V.int (bsN P r.bs)]++(r.by C).map V.int)) N));have ad:H d9=none:=S5.free (S.free (T8.free N));rfl';exists d9,_,_,_,rfl,S5.trans T9,ad,fun z=>?_,T9 _ _ U,?_
  .have e:=T8 _ _ (S _ _ U);rw [z,N] at e;cases e
  .rw [ya,ydl C hq,<- List.cons_append,<- bR,aa];unfold pdB;rw [bz,bz,bz,bz,bR,bR,bR];rfl
 .rintro σ2 G ⟨d,v8,v9,a7,rfl,j,p,M,a3,f⟩;rw [Y,cy] at f;rfl';exact k d G p f j
structure vam (G0 G:Hp) (D:Addr) (N:Nat) (cx:Nat->Addr) (tt:Nat->List Int):Prop where
 d:G D=some (.lst (refs cx N))
 c:∀ j,j < N->G (cx j)=some (.lst ((tt j).map V.int))/\cx j≠D
 s:yq G0 G
theorem vam.zero {G0:Hp} (hD:G0 D=none):vam G0 (upd G0 D (.lst [])) D 0 (fun _=>0) tt:=⟨ya,fun j a=>absurd a (bY j),yx hD⟩
theorem vam.next {G0 G:Hp} {c:Addr} {cx:Nat->Addr} (h:vam G0 G D i cx tt) (hD:G0 D=none) (hc:G c=none):vam G0 (upd (upd G c (.lst ((tt i).map V.int))) D (.lst (refs cx i++[V.ref c]))) D (i+1) (upN cx i c) tt:=by
 have g:c≠D:=(yb h.d hc).symm;exists ?_,fun j f=>?_,fun b o e=>yf (yb e hD) (uq hc (h.s b o e))
 .rw [ya,η,xh]
  congr 3
  exact z9 fun j f=>(xf f).symm
 .by_cases z:j=i
  .rw [z,xh];exists yf g ya,g
  .have a:j < i:=by omega
   rw [xf a];obtain ⟨g1,g2⟩:=h.c j a;exists yf g2 (uq hc g1),g2
#synth yy5 ["_law_found","_law_due_here"] yr7
inductive yk1 (K:W.Frag) (vs:List V) (H:Hp) (Q:VK) (E':XK):Prop
 | mk (f d:Addr) (ns:List Int) (_:vs=[.ref f,.ref d]) (_:H f=some (.lst (ns.map V.int))) (_:H d=some (.lst (ns.map V.int))) (_:(∀ b,b∈ns->0 <= b/\b <= 255)) (_:ns.length <= 1000000) (_:∀ H',yq H H'->Q (.bl true) H')
theorem yiu (T:Txt K mg a):vk P w K mg base CX0 2 a.Ma a.Mb ["_law_found","_law_due_here"] (yk1 K):=by
 exists T.Ef.F.ok,yy5,p;obtain ⟨f,d,b,rfl,g,t,u,N,k⟩:=h;exists _,(yg (wz (PW.pt (ya2 (xq (xu (pcB vx T.A5 (pac (pv 0) (pa1 (zv (T:="list") rfl T.An (by right))))))) (yav (y7 (yik p.units) (pv 0) (pv 1) (vh _))))) (yd (yt ylq)) ve) (yd (yt (pcB (zi rfl) T.Cn (pa1 (vq (js:=[]) (ys:=[]) rfl (we (pv 0)) (fun C L J M=>(xx (xv (yzp T) p.m T.Mw (pa1 (pv 0))) (zu (jh uv uv ye (pv 0) ye)))) rfl rfl (hyc:=yr) (hrel:=yr))))))),?_;exists 2,0;rfl';refine ψ (.lst g) (yjs _ _) ?_;rfl';refine vag b b (SqL.of g) (SqL.of t) ?_;rw [bx rfl];rfl';exists f,rfl,⟨_,SqL.of g⟩,fun D o=>?_;refine zh (fun _=>V.bl true) (SqL.of g) o (fun i y G q S l=>?_) (fun G S l=>?_)
 .obtain ⟨c,rfl,j,_,_⟩:=jm q;obtain ⟨I,v⟩:=u c j;rfl';refine yzm ?_;rfl';refine ŧ I ?_;rfl';exact Mp.done o (y8 (by rw [bf]; omega)) q S l (by rw [bx v])
 .rfl';exists D,b.map fun _=>true,rfl,SqL.of (by rw [l,bS,bS]; rfl),?_;rw [show (b.map fun _=>true).all id=true by rw [List.all_eq_true]; exact fun x B=>by obtain ⟨_,_,e⟩:=bq.mp B; exact e.symm];exact k _ S
theorem ykr {ps:List Int} (h:x9 (ps.map V.int)=true):∀ p,p∈ps->1 <= p/\p <= 8:=fun p b=>by
 unfold x9 at h;rw [bO,bO] at h;have:=(List.all_eq_true.mp h.1.2) _ (bq.mpr ⟨p,b,rfl⟩);have a:(decide (1 <= p) && decide (p <= 8))=true:=this;rw [bO] at a;exists of_decide_eq_true a.1,of_decide_eq_true a.2
theorem Sto.byt {H:Hp} {st:Addr} {C:Cf} {P:List Pd} {X:Sx} {lk:Nat->Addr} (h:Sto K a H st C P X) (hR:xl H C.n lk C.kd tp C.ps) (hP:P.length <= 6) (hl:∀ q,q∈P->ĭ q.nm.cps.toList):(∀ b,b∈shB C P->0 <= b/\b <= 255)/\(shB C P).length <= 1000000:=by
 obtain ⟨A,y,z,_,_⟩:=h.cf;exists fun b d=>?_,?_
 .unfold shB hdB at d;rcases bP.mp d with d | d
  .rcases bP.mp d with d | d
   .rcases bB.mp d with rfl | d
    .omega
    .unfold lkF at d;obtain ⟨l,hl,d⟩:=List.mem_flatten.mp d;obtain ⟨i,f,rfl⟩:=bq.mp hl;have f:=cj.mp f;obtain ⟨_,_,_,_,m⟩:=hR i f;have r:=xz m;rw [bf] at r;have v:=(C.kd i).isLt;rcases bB.mp d with rfl | d
     .omega
     .rcases bB.mp d with rfl | d
      .omega
      .have:=ykr m b d;omega
   .rcases bB.mp d with rfl | d
    .omega
    .rw [bJ.mp d];omega
  .rcases bB.mp d with rfl | d
   .omega
   .obtain ⟨l,k,d⟩:=List.mem_flatten.mp d;obtain ⟨q,g,rfl⟩:=bq.mp k;have w:=zn (h.nm q g).1;unfold pdB nmB at d;rcases bP.mp d with d | d
    .rcases bP.mp d with d | d
     .rcases bB.mp d with rfl | d
      .omega
      .obtain ⟨c,o,rfl⟩:=bq.mp d;obtain ⟨j,t⟩:=hl q g c o;rw [ywa j (by omega)];omega
     .rw [bJ.mp d]
      cases hbs:q.bs with
      | none=>exact (show (0:Int) <= 0/\(0:Int) <= 255 by decide)
      | some x =>
       have e:=h.to q g;rw [hbs] at e;obtain ⟨u,s,p,_⟩:=e;have:=List.idxOf_lt_length_iff.mpr (show x∈P.map (·.nm) from bq.mpr ⟨u,s,p⟩);rw [bf] at this;show 0 <= (((P.map (·.nm)).idxOf x:Nat):Int)+1/\(((P.map (·.nm)).idxOf x:Nat):Int)+1 <= 255;omega
    .exact ydm _ b d
 .have j:=h.pls P.length (bp _);have t:=hR.lkl C.n (bp _);rw [cy] at j;unfold shB hdB;rw [bj,bj,bK,bK];show _+1+2+(_+1) <= _;omega
#synth zf ["_law_script","_law_looks_here","_law_names_here","_law_most","_law_more","_law_store","_law_pieces","_law_due_here","_law_k","_law_text_here","_law_found"] ["_law_script"] yq3
inductive ydx (K:W.Frag) (vs:List V) (H:Hp) (Q:VK) (E':XK):Prop
 | mk (l:Addr) (ns:List Int) (_:vs=[.ref l]) (_:SqL K H l (ns.map V.int)) (_:ns.length <= 63) (_:∀ H',Q (.bl true) H')
theorem yys (T:Txt K mg a):vk P w K mg base CX0 15 a.Nk a.Fg ["_law_script"] (ydx K):=by
 exists T.Gq.F.ok,zf,c;obtain ⟨l,S,rfl,I,b4,k⟩:=h;refine yi (yv (i:=1) zf.nd rfl (Or.inl rfl) (xv (yyx T) c.m T.My (pa1 (pv 0)))) ?_;refine yi (yv (i:=2) zf.nd rfl (Or.inl rfl) (xv (yxq T) c.m T.Mx (pa1 (xv (û T) c.m T.Cj (pac (pv 0) (pa1 ye)))))) ?_;refine yi (yv (i:=3) zf.nd rfl (Or.inl rfl) (yn vn ye (yn xb (xv (û T) c.m T.Cj (pac (pv 0) (pa1 ye))) ye))) ?_;refine yi (yv (i:=4) zf.nd rfl (Or.inl rfl) (yn w4 ye (pcT yf4 T.Gu (pa1 (zl zy (yn xb (yn vi (xv (û T) c.m T.Cj (pac (pv 0) (pa1 ye))) ye) ye) ye (vh _)))))) ?_;refine yi (yv (i:=5) zf.nd rfl (Or.inl rfl) (je T.P4 (yu5 T) c.m rfl T.P3 T.Pv .nil ww (pac (pcT wo T.An (pa1 (pv 1))) (pa1 (pv 3))))) ?_;refine yi (yv (i:=6) zf.nd rfl (Or.inl rfl) (wx ub)) ?_;refine yi (yv (i:=7) zf.nd rfl (Or.inl rfl) (xv (ynk T) c.m T.Gp (pac (pv 5) (pac (pv 1) (pac (pv 3) (pa1 (wx ub))))))) ?_;refine yi (wz (xq (xu (xv (yiu T) c.m T.Ef (pac (xv (yh2 T) c.m T.Ee (pa1 (pv 5))) (pa1 (pv 7)))))) (yd (yt ylq)) ve) ?_;refine yi (zr PassesOwn.never rfl (za rfl T.Bt (pa1 (pcB (í rfl) T.Gv (pac ye (pa1 (pcB (ô rfl) T.Gw (pac ye (pa1 (yn zd (pcB yo T.Ac (pa1 (pv 0))) ye))))))))) (wt (i:=8) zf.nd rfl (Or.inl rfl)) (yg (yv (i:=9) zf.nd rfl (Or.inl rfl) (xv (yvc T) c.m T.Mz (pac (xv (û T) c.m T.Cj (pac (zj ť (pv 0) (jw ye) jz) (pa1 (yn vn ye (pv 8))))) (pa1 (pv 4))))) (yg (yv (i:=6) zf.nd rfl (Or.inl rfl) (xv (ywo T) c.m T.N0 (pac (pv 5) (pac (pv 6) (pac (pv 2) (pac (xv (û T) c.m T.Cj (pac (pv 0) (pa1 (yn vn ye (pv 8))))) (pa1 (pv 9)))))))) (yg (yv (i:=10) zf.nd rfl (Or.inl rfl) (xv (yh2 T) c.m T.Ee (pa1 (pv 5)))) (yg (yv (i:=7) zf.nd rfl (Or.inl rfl) (xv (ynk T) c.m T.Gp (pac (pv 5) (pac (pv 1) (pac (pv 3) (pa1 (pv 6))))))) (yg (wz (xq (xu (xv (yiu T) c.m T.Ef (pac (pv 10) (pa1 (pv 7)))))) (yd (yt ylq)) ve) (yd (yp (yd5 PySem.F.plainAttrs_list PySem.F.slot_list_clear PySem.F.type_list_clear yko (pv 10)))))))))) ?_;exists _,(yd (yt (xx (xv (yiu T) c.m T.Ef (pac (xv (yh2 T) c.m T.Ee (pa1 (pv 5))) (pa1 (pv 7)))) (zu (zl (yuc c.units) (wc (pv 5) T.A3 T.Cm.m (yin T) c.m T.Cm.B .nil wv) (vq (js:=[]) (ys:=[]) rfl (we (pv 6)) (fun C s2 H2 fp=>(ut (r:=yn5 K) uh (pv 0) ye (fun _ _=>rfl))) rfl rfl (hyc:=yr) (hrel:=yr)) (vh _)))))),?_;exists 1,10;rfl';exists l,S,rfl,I,fun lo n lk kd tp ps H1 aJ a7 n1 n6 aw S1=>?_;rfl';exists l,S,4,rfl,S1.seq I,by decide,fun c4 aU aW=>?_
 rfl';exists c4,rfl,aU,aW,fun nl ns H2 aL aD S2 aT be ap=>?_;have R:=S2.seq (S1.seq I);have U:=S2 _ _ a7;have u:=aw.same S2;clear I S1 S2 aJ a7 aL aw;rfl';exists l,S,5,rfl,R,by decide,fun c5 bh bb=>?_
 obtain ⟨mo,aY,aM,aX⟩:∃ mo:Nat,12+c5 % 989=(mo:Int)/\12 <= mo/\mo <= 1000:=⟨(12+c5 % 989).toNat,by omega,by omega,by omega⟩;rfl';rw [aY];exists l,S,5,rfl,R,by decide,fun c6 bg b9=>?_
 rfl';refine .inr ⟨_,rfl,?_⟩
 obtain ⟨mr,aS,aR⟩:∃ mr:Nat,(9 * if decide (c6 / 989 % 8=0)=true then 1 else 0:Int)=(mr:Int)/\mr <= 9:=by
  by_cases z:c6 / 989 % 8=0
  .exact ⟨9,by rw [bx z]; rfl,by decide⟩
  .exact ⟨0,by rw [bA z]; rfl,by decide⟩
 rfl';rw [aS];rfl';refine yc1 (SqL.of U) fun hd hhd0=>?_;exists hhd0,H3,S3,hhd3;rfl';intro st ds a9 ac b0;refine Sto.new (mo:=mo) (w:=12) a9 ac hhd3 n1 n6 (u.same S3) aX aM (by decide) fun X H4 af S4 as _=>⟨rfl,?_⟩;have aG:Bs H2 H4 X:=⟨S3.trans S4,fun y w=>S3.free (as y w)⟩;clear S3 S4 hhd3 hhd0 as a9 ac b0;rfl';exists by walk_at "len",fun pl hpl0=>?_
 exists hpl0,H5,S5,hpl5;have v:=af.same S5;have aK:=aG.same S5
 have aA:Pcl H5 X pl [] (fun _=>0):=⟨Kf.new af hpl0 hpl5,fun q p=>(nomatch p)⟩
 clear af aG S5 hpl0 hpl5;rfl';exists by walk_at "len",fun pe hpe0=>?_
 exists hpe0,H6,S6,hpe6;have W:=v.same S6;have L:=aK.same S6;have aH:=aA.same S6
 have ax:Pcl H6 X pe [] (fun _=>0):=⟨Kf.new v hpe0 hpe6,fun q p=>(nomatch p)⟩
 clear v aK aA S6 hpe0 hpe6;rfl';exists st,lo,pe,⟨n,kd,ps,mo,12⟩,[],X,lk,tp,_,rfl,W,ax,L.s _ _ U,u.same L.s,by decide,fun du H7 g J S7=>?_
 rfl';exists st,_,[],X,rfl,W.same S7,fun sh H8 aO ad S8=>?_;have a3:=S7.trans S8
 have aj:=(W.same a3).byt (u.same (L.same a3).s) (by decide) (fun q p=>(nomatch p))
 rfl';exists sh,du,_,rfl,ad,S8 _ _ J,aj.1,aj.2,fun H9 S9=>?_;have a1:=a3.trans S9;have M:=S9 _ _ (S8 _ _ J);have ak:=W.same a1;have a5:=L.same a1;have ag:=aH.same a1;clear W L aH ax S7 S8 S9 a3 a1 g J aO ad aj;rfl';refine zg (a5.s.seq R) ?_;rfl';exists _,_,rfl,?_;rfl';exists _,_,rfl,?_;rfl'
 obtain ⟨m,hm,b7⟩:∃ m:Nat,(if (if (((S.map V.int).length:Nat):Int) - 6 > 1 then (((S.map V.int).length:Nat):Int) - 6 else 1) < 8 then (if (((S.map V.int).length:Nat):Int) - 6 > 1 then (((S.map V.int).length:Nat):Int) - 6 else 1) else 8)=(m:Int)/\m <= 8:=by
  generalize (((S.map V.int).length:Nat):Int) - 6=y;refine ⟨(if (if y > 1 then y else 1) < 8 then (if y > 1 then y else 1) else 8).toNat,?_,?_⟩ <;> (split <;> split <;> omega)
 rw [hm];refine ⟨_,rfl,by omega,by omega,ζ (n:=m) (fun i σ2 G=>∃ (P:List Pd) (X:Sx) (pl du:Addr) (tu:Str->Addr) (v8 v9 ar:Option V),σ2=[some (.ref l),some (.ref lo),some (.ref nl),some (.int (mo:Nat)),some (.int (mr:Nat)),some (.ref st),some (.ref pl),some (.ref du),v8,v9,ar]/\Sto K a G st ⟨n,kd,ps,mo,12⟩ P X/\Pcl G X pl P tu/\Bs H2 G X/\P.length <= 6/\(∀ q,q∈P->q.nm∈ns)/\G du=some (.lst ((shB ⟨n,kd,ps,mo,12⟩ P).map V.int)))
  ⟨[],X,pl,du,_,none,none,none,rfl,ak,ag,a5,by decide,(fun q p=>nomatch p),M⟩ ?_ ?_⟩
 .clear ak ag a5 M;rintro i σ2 G hi ⟨P,X,pl,du,tu,v8,v9,ar,rfl,I,hP,hB,a6,j,ah⟩;rfl';refine yll (hB.s.seq R) fun cs hcs0=>?_;rw [show (some (1:Int))=some ((1:Nat):Int) from rfl,ycw,<- List.map_drop];exists hcs0,G1,T1,hcs1;rfl';exists cs,S.drop 1,6+i,by rw [show ((6+i:Nat):Int)=6+(0+(i:Int)) by omega]; rfl,SqL.of hcs1,by omega,fun d d0 d1=>?_
  rfl';exists d,mr,rfl,d0,d1,aR,fun t ts G2 aZ av aP ay T2=>?_;have a0:=T1.trans T2;have aE:=I.same a0;have au:=hP.same a0;have al:=hB.same a0;clear I hP hB T1 T2 a0 hcs0 hcs1 aZ ah;rfl';exists l,S,6+i,by rw [show ((6+i:Nat):Int)=6+(0+(i:Int)) by omega]; rfl,al.s.seq R,by omega,fun e e0 e1=>?_
  rfl';exists st,pl,nl,t,_,P,X,tu,ns,ts,e,H2,rfl,aE,au,al,aD,aT,ap,e0,⟨av,aP,ay⟩,rfl,a6,j,fun P' Y aQ aI G3 a2 aB a4 N O=>?_;clear aE au al av aP ay j a6;rfl';exists st,_,P',Y,rfl,a2,fun fo G4 aa f Z=>?_;rfl';exists st,lo,aQ,⟨n,kd,ps,mo,12⟩,P',Y,lk,tp,aI,rfl,a2.same Z,aB.same Z,(a4.same Z).s _ _ U,u.same (a4.same Z).s,N,fun ai G5 g a8 T5=>?_;have ao:=Z.trans T5;have az:=(a2.same ao).byt (u.same (a4.same ao).s) N (fun q p=>(ap _ (O q p)).2);rfl';exists fo,ai,_,rfl,T5 _ _ f,a8,az.1,az.2,fun G6 T6=>?_;have ab:=T6 _ _ (T5 _ _ f);rfl';refine uc ab ?_;exists fo,_,rfl,rfl,ab,?_;have an:yq G3 (upd G6 fo (.lst [])):=fun b o e=>yf (yb e aa) (T6 _ _ (ao _ _ e));have aV:ai≠fo:=fun z=>by rw [z,f] at g; cases g
  rfl';exists P',Y,aQ,ai,aI,_,_,_,rfl,a2.same an,aB.same an,a4.same an,N,O,yf aV (T6 _ _ a8)
 .clear ak ag a5 M;rintro σ2 G ⟨P,X,pl,du,tu,v8,v9,ar,rfl,I,hP,hB,a6,j,ah⟩;rfl';exists st,_,P,X,rfl,I,fun fo G4 aa f Z=>?_;have aF:=(I.same Z).byt (u.same (hB.same Z).s) a6 (fun q p=>(ap _ (j q p)).2);rfl';exists fo,du,_,rfl,f,Z _ _ ah,aF.1,aF.2,fun G5 T5=>?_;have aq:=Z.trans T5;have v:=I.same aq;obtain ⟨ba,bd,b6,bc,b5,b2⟩:=v.ins;rfl';refine v.names fun nm G6 b3 aC T6=>?_;rfl';exists pl,rfl,⟨_,SqL.of ((hP.same aq).same T6).l.1⟩,fun D hD=>?_;refine ((hP.same aq).same T6).comp (fun q=>.str q.nm) 0 (fun _=>rfl) (y8 (by omega)) hD fun G7 T7 am=>?_;have am:G7 D=some (.lst ((P.map (·.nm)).map V.str)):=by rw [am,bS]; rfl
  have aN:G7 nm=some (.lst ((P.map (·.nm)).map V.str)):=by rw [T7 _ _ aC,bS]; rfl
  have ae:∀ x,x∈P.map (·.nm)->PyData.strOk x=true:=fun x hx=>by
   obtain ⟨q,p,rfl⟩:=bq.mp hx;exact (I.nm q p).2
  refine ymo _ _ ae ae (SqL.of aN) (SqL.of am) ?_;rw [bx rfl];rfl';exact k _
end
variable {P:List Pd} {X Y:Sx}
theorem all_mk {l:W.OpenLaw} {w:World} {K:W.Frag} {h:Heap} {mg:Str->Option Value} (X:K.In h) (G:h.Ns mainGlobals mg) (hfa:mg "law"=some (.ref fa))
  (P9:GV K "Even" (.ref A9))
  (Nw:GV K "Quick" (.ref A8))
  (Pq:GV K "Run" (.ref Af))
  (Q9:GV K "Mixer" (.ref Bu))
  (Pa:GV K "Book" (.ref Aa))
  (Pb:GV K "Span" (.ref A4))
  (Qa:GV K "Seeker" (.ref Ab))
  (Qb:GV K "Foreteller" (.ref A2))
  (Nx:GV K "Chain" (.ref A1))
  (Ny:GV K "Piece" (.ref A6))
  (Nz:GV K "Store" (.ref A0))
  (Qc:GV K "NoText" (.ref Fh))
  (Qd:GV K "NoBytes" (.ref Ej))
  (Nd:GV K "NoMost" (.ref B8))
  (Qe:GV K "NoChance" (.ref D5))
  (Qf:GV K "NoBit" (.ref Bz))
  (Qg:GV K "NoLooks" (.ref Ek))
  (Qh:GV K "NoPress" (.ref El))
  (Nf:GV K "NoName" (.ref Ah))
  (Hg:GV K "TooLong" (.ref Aj))
  (O0:GV K "Taken" (.ref B6))
  (Pe:GV K "Full" (.ref C9))
  (Hh:GV K "NoPiece" (.ref A7))
  (O4:GV K "InUse" (.ref Be))
  (Fi:Dgf K mg "is_whole" vc8 O9 Oa)
  (Ot:Dgf K mg "is_bit" vdk Ob Oc)
  (Ou:Dgf K mg "is_chance" vdi Od Oe)
  (Ov:Dgf K mg "is_sign" vc6 Of Og)
  (Nm:Dgf K mg "is_list_of_signs" vdf Oh Oi)
  (Nn:Dgf K mg "checked_text" vc4 Oj Ol)
  (Ow:Dgf K mg "checked_bytes" vdc Om On)
  (Ox:Dgf K mg "check_most" vdh Oo Op)
  (N7:Dgf K mg "check_chance" vcy Oq Os)
  (Ci:Dgf K mg "check_bit" ys7 Hm Hn)
  (Mc:Dgf K mg "gives" yr9 Ho Hq)
  (E5:Dgm K A9 "__init__" "Even.__init__" ysl F6 Hr)
  (Fj:Dgm K A9 "chance" "Even.chance" yr8 Hs Ht)
  (Fk:Dgm K A9 "seen" "Even.seen" ysi Hu Hv)
  (E6:Dgm K A8 "__init__" "Quick.__init__" yra F7 Hw)
  (Fl:Dgm K A8 "chance" "Quick.chance" ys5 Hx Hy)
  (Fm:Dgm K A8 "seen" "Quick.seen" ysq Hz I0)
  (E7:Dgm K Af "__init__" "Run.__init__" yrx F8 I1)
  (Fn:Dgm K Af "chance" "Run.chance" yrp I2 I3)
  (Fo:Dgm K Af "seen" "Run.seen" yth I4 I5)
  (Md:Dgf K mg "slot_of" yre I6 I7)
  (Fp:Dgf K mg "written" yq9 I8 I9)
  (Fq:Dgf K mg "first_block" yrs Ia Ib)
  (D6:Dgm K A4 "__init__" "Span.__init__" ys1 F9 Ic)
  (D7:Dgm K A4 "cut" "Span.cut" yr3 Ie If)
  (D8:Dgm K A4 "narrow" "Span.narrow" ysz Ig Ih)
  (Fr:Dgm K A4 "holds_block" "Span.holds_block" ysc Ii Ij)
  (D9:Dgm K A4 "told" "Span.told" yr1 Ik Il)
  (Me:Dgf K mg "is_kind" ys2 Im Io)
  (Mf:Dgf K mg "is_place" ytk Ip Iq)
  (Mg:Dgf K mg "are_places" ys9 Ir Is)
  (Fs:Dgf K mg "is_look" yso Iu Iv)
  (Ft:Dgf K mg "checked_looks" ysb Iw Ix)
  (Mh:Dgf K mg "sign_back" yrt Iy Iz)
  (Mi:Dgf K mg "context_of" yq5 J0 J1)
  (E8:Dgm K Aa "__init__" "Book.__init__" yr4 Fa J2)
  (Fu:Dgm K Aa "slot_at" "Book.slot_at" ytj J3 J4)
  (E9:Dgm K Bu "__init__" "Mixer.__init__" ysn Fb J5)
  (Fv:Dgm K Bu "mixed" "Mixer.mixed" ytf J6 J7)
  (Fw:Dgm K Bu "learn" "Mixer.learn" yrk J8 J9)
  (Ea:Dgm K A2 "__init__" "Foreteller.__init__" yr5 Fc Ja)
  (Da:Dgm K A2 "arrive" "Foreteller.arrive" ysj Jb Jc)
  (Db:Dgm K A2 "chances" "Foreteller.chances" ytb Jd Je)
  (Dc:Dgm K A2 "chance" "Foreteller.chance" yrj Jf Jg)
  (Dd:Dgm K A2 "see" "Foreteller.see" yrm Jh Ji)
  (Fx:Dgm K A2 "step" "Foreteller.step" yrr Jj Jk)
  (Fz:Dgm K A2 "step_in_sign" "Foreteller.step_in_sign" yrz Jl Jm)
  (Mj:Dgf K mg "bits_of" ytd Jn Jo)
  (Ml:Dgf K mg "decisions_of" yr0 Jp Jq)
  (Eb:Dgm K Ab "__init__" "Seeker.__init__" ys3 Fd Jr)
  (De:Dgm K Ab "follow" "Seeker.follow" ys6 Js Jt)
  (G9:Dgm K Ab "byte_at" "Seeker.byte_at" ysy Ju Jv)
  (Ga:Dgm K Ab "bit" "Seeker.bit" ysf Jw Jx)
  (Gb:Dgm K Ab "told" "Seeker.told" ysv Jy Jz)
  (Mm:Dgf K mg "press_by" yrn K1 K2)
  (Gc:Dgf K mg "bit_by" ysw K3 K4)
  (Mn:Dgf K mg "sign_by" yta K5 K6)
  (Mo:Dgf K mg "text_by" ysg K7 K8)
  (Mq:Dgf K mg "read_by" yse K9 Ka)
  (D0:Dgm K A1 "__init__" "Chain.__init__" ysr Fe Kb)
  (Dh:Dgm K A1 "grow" "Chain.grow" yq6 Kc Kd)
  (Gd:Dgm K A1 "press" "Chain.press" yru Ke Kg)
  (Ge:Dgm K A1 "read" "Chain.read" yq2 Kh Ki)
  (Mr:Dgf K mg "is_name" yss Kj Kk)
  (Ec:Dgf K mg "checked_name" yr2 Kl Km)
  (Ms:Dgf K mg "check_base" ysd Kn Ko)
  (Ed:Dgm K A6 "__init__" "Piece.__init__" yrb Ff Kp)
  (Qi:W.findIn K (.ref A0) "__init__"=some (some (.ref Cy)))
  (Qj:W.isFn K (.ref Cy)=true)
  (Qk:K.lookup Cy=some ⟨oc_q68,od_q68,.func (W.fnOf "__init__" "Store.__init__" (wn yfb) (vt yfb) (yc yfb) (.ref Kr) kV_q68 dc_q68 pm_q68 an_q68 cd_q68 ct_q68),sl_q68⟩)
  (O5:K.lookup Kr=some ⟨.type "tuple",Do_q68,.seq #[.int 1000 Cl] Dn_q68,Ds_q68⟩)
  (Ql:W.codeIn K cd_q68 "Store.__init__"=true)
  (Qm:W.keepIn K (.ref Cy)=true)
  (Gf:Dgm K A0 "told_looks" "Store.told_looks" yri Ks Kt)
  (Gg:Dgm K A0 "most_signs" "Store.most_signs" ysu Ku Kv)
  (Cm:Dgm K A0 "names" "Store.names" yr6 Kw Kx)
  (Qn:W.findIn K (.ref A0) "put"=some (some (.ref Cz)))
  (Qo:W.isFn K (.ref Cz)=true)
  (Qp:K.lookup Cz=some ⟨oc_q72,od_q72,.func (W.fnOf "put" "Store.put" (wn ye8) (vt ye8) (yc ye8) (.ref Kz) kV_q72 dc_q72 pm_q72 an_q72 cd_q72 ct_q72),sl_q72⟩)
  (O6:K.lookup Kz=some ⟨.type "tuple",Do_q72,.seq #[.none] Dn_q72,Ds_q72⟩)
  (Qq:W.codeIn K cd_q72 "Store.put"=true)
  (Pg:W.keepIn K (.ref Cz)=true)
  (Gh:Dgm K A0 "check_length" "Store.check_length" yrd L1 L3)
  (Gi:Dgm K A0 "check_room" "Store.check_room" yro L6 L7)
  (Cc:Dgm K A0 "piece_at" "Store.piece_at" ysa L8 L9)
  (Gj:Dgm K A0 "links_to" "Store.links_to" ysx La Lb)
  (Gk:Dgm K A0 "chain_to" "Store.chain_to" yrg Lc Ld)
  (Di:Dgm K A0 "bytes_of" "Store.bytes_of" yq7 Le Lf)
  (Gm:Dgm K A0 "base_of" "Store.base_of" yst Lg Lh)
  (Gn:Dgm K A0 "drop" "Store.drop" ysm Li Lj)
  (Mt:Dgf K mg "look_bytes" yrl Lk Ll)
  (Mu:Dgf K mg "name_bytes" ytc Lm Ln)
  (Mv:Dgf K mg "base_bytes" yrq Lo Lp)
  (Ee:Dgf K mg "shelf_of" yrw Lq Lr)
  (Mw:Dgf K mg "_law_whole" yq4 Ls Lt)
  (Cj:Dgf K mg "_law_mixed" yrv Lu Lv)
  (Mx:Dgf K mg "_law_names" ytl Lx Ly)
  (My:Dgf K mg "_law_looks" yrf Lz M0)
  (Mz:Dgf K mg "_law_text" ytg M4 M5)
  (N0:Dgf K mg "_law_deed" yry M6 M7)
  (Gp:Dgf K mg "_law_due" yq8 M8 M9)
  (Ef:Dgf K mg "_law_bytes" yr7 Ma Mb)
  (Gq:Dgf K mg "law" yq3 Nk Fg)
  (Hi:KC K A9)
  (Al:FN K A9 "noughts")
  (B9:FN K A9 "ones")
  (Ev:KC K A8)
  (As:FN K A8 "held")
  (O7:KC K Af)
  (Bk:FN K Af "last")
  (At:FN K Af "length")
  (Pr:KC K Bu)
  (C0:FN K Bu "kept")
  (Hj:KC K Aa)
  (Ba:FN K Aa "look")
  (Au:FN K Aa "slots")
  (Hk:KC K A4)
  (Bl:FN K A4 "low")
  (Av:FN K A4 "width")
  (Bb:FN K A4 "size")
  (Ps:KC K Ab)
  (C1:FN K Ab "data")
  (C2:FN K Ab "span")
  (Bd:FN K Ab "number")
  (Aw:FN K Ab "reached")
  (Pt:KC K A2)
  (Ar:FN K A2 "looks")
  (Bm:FN K A2 "books")
  (Bn:FN K A2 "mixer")
  (Bo:FN K A2 "ended")
  (Bp:FN K A2 "place")
  (Ax:FN K A2 "present")
  (Ew:KC K A1)
  (Ad:FN K A1 "foreteller")
  (Ao:FN K A1 "links")
  (Ap:FN K A1 "texts")
  (Ex:KC K A6)
  (Ay:FN K A6 "base")
  (Az:FN K A6 "data")
  (Ey:KC K A0)
  (Ak:FN K A0 "looks")
  (B0:FN K A0 "most")
  (Am:FN K A0 "pieces")
  (Aq:FN K A0 "chain")
  (Q3:XCls K Fh)
  (Pm:XMk K Fh)
  (Q4:XCls K Ej)
  (Pn:XMk K Ej)
  (Gs:XCls K B8)
  (Dj:XMk K B8)
  (Q5:XCls K D5)
  (Po:XMk K D5)
  (Q6:XCls K Bz)
  (Pp:XMk K Bz)
  (Q7:XCls K Ek)
  (P7:XMk K Ek)
  (Q8:XCls K El)
  (P8:XMk K El)
  (Gt:XCls K Ah)
  (Dk:XMk K Ah)
  (Eg:XCls K Aj)
  (Cv:XMk K Aj)
  (N2:XCls K B6)
  (Ep:XMk K B6)
  (Nt:XCls K C9)
  (He:XMk K C9)
  (Eh:XCls K A7)
  (Cw:XMk K A7)
  (N3:XCls K Be)
  (Er:XMk K Be)
  (A5:GZ K "isinstance")
  (Gu:GZ K "int")
  (Es:GZ K "bool")
  (An:GZ K "list")
  (Cn:GZ K "all")
  (Ac:GZ K "len")
  (Gv:GZ K "min")
  (Gw:GZ K "max")
  (N4:GZ K "str")
  (Co:GZ K "tuple")
  (Gy:GZ K "zip")
  (Dl:GZ K "sum")
  (Nu:GZ K "any")
  (Bt:GZ K "range")
  (Pf:GV K "LEAST" (.int 32768 Em))
  (Qr:GV K "ONE" (.int 16777216 Nl))
  (Ez:GV K "MOST_SIGNS" (.int 1000 C4))
  (F0:GV K "MOST_BYTES" (.int 12000 C5))
  (Dp:GV K "MOST_COUNTED" (.int 255 Bf))
  (Dx:GV K "FIRST_WIDTH" (.int 1099511627776 Bv))
  (F1:GV K "FIRST_SIZE" (.int 5 C6))
  (Dy:GV K "LEAST_WIDTH" (.int 4294967296 Bw))
  (Hl:GV K "FARTHEST" (.int 8 Ck))
  (Dz:GV K "MOST_PLACES" (.int 4 Bx))
  (F3:GV K "MOST_LOOKS" (.int 6 C7))
  (Ng:GV K "NO_SIGN" (.int 256 Ct))
  (Dq:GV K "FIRST_WEIGHT" (.int 1099511627776 Bg))
  (Hb:GV K "OWN_PARTS" (.int 31 Ca))
  (Dr:GV K "MOST_FIGURES" (.int 48 Bh))
  (Hc:GV K "NODES_END" (.int 256 Cb))
  (Ds:GV K "MOST_LETTERS" (.int 8 Bi))
  (Nh:GV K "LETTERS" (.str "abcdefghijklmnopqrstuvwxyz" Cu))
  (E4:GV K "MOST_PIECES" (.int 60 By))
  (O8:GV K "KINDS" (.ref Bq))
  (Hd:K.lookup Bq=some ⟨.type "tuple",none,.seq #[.str "even" wt_KINDS_0,.str "quick" wt_KINDS_1,.str "run" wt_KINDS_2] wn_KINDS,ws_KINDS⟩)
  (Ni:GV K "WORTHS" (.ref Bj))
  (Nj:K.lookup Bj=some ⟨.type "tuple",wd_WORTHS,.seq #[.int 128 wt_WORTHS_0,.int 64 wt_WORTHS_1,.int 32 wt_WORTHS_2,.int 16 wt_WORTHS_3,.int 8 wt_WORTHS_4,.int 4 wt_WORTHS_5,.int 2 wt_WORTHS_6,.int 1 wt_WORTHS_7] wn_WORTHS,ws_WORTHS⟩)
 :∃ fd:FuncData,(∀ (s:Shared) (v:Value),BindsTo s fd ⟨[v],[]⟩ [("_law_script",v)])/\∀ base:Heap,K.In base->base.Ns mainGlobals mg->vk l.prog w K mg base CX0 15 fa fd ["_law_script"] (ydx K):=by
 have e:=hfa.symm.trans Gq.m;cases e;have b:=yhw (st:=yfb) Qk Ql Qm;have a:=yhw (st:=ye8) Qp Qq Pg;have T:Txt K mg ⟨O9,Oa,Ob,Oc,Od,Oe,Of,Og,Oh,Oi,Oj,Ol,Om,On,Oo,Op,Oq,Os,Hm,Hn,Ho,Hq,F6,Hr,Hs,Ht,Hu,Hv,F7,Hw,Hx,Hy,Hz,I0,F8,I1,I2,I3,I4,I5,I6,I7,I8,I9,Ia,Ib,F9,Ic,Ie,If,Ig,Ih,Ii,Ij,Ik,Il,Im,Io,Ip,Iq,Ir,Is,Iu,Iv,Iw,Ix,Iy,Iz,J0,J1,Fa,J2,J3,J4,Fb,J5,J6,J7,J8,J9,Fc,Ja,Jb,Jc,Jd,Je,Jf,Jg,Jh,Ji,Jj,Jk,Jl,Jm,Jn,Jo,Jp,Jq,Fd,Jr,Js,Jt,Ju,Jv,Jw,Jx,Jy,Jz,K1,K2,K3,K4,K5,K6,K7,K8,K9,Ka,Fe,Kb,Kc,Kd,Ke,Kg,Kh,Ki,Kj,Kk,Kl,Km,Kn,Ko,Ff,Kp,Cy,_,Kr,Cl,Ks,Kt,Ku,Kv,Kw,Kx,Cz,_,Kz,L1,L3,L6,L7,L8,L9,La,Lb,Lc,Ld,Le,Lf,Lg,Lh,Li,Lj,Lk,Ll,Lm,Ln,Lo,Lp,Lq,Lr,Ls,Lt,Lu,Lv,Lx,Ly,Lz,M0,M4,M5,M6,M7,M8,M9,Ma,Mb,fa,Fg,A9,A8,Af,Bu,Aa,A4,Ab,A2,A1,A6,A0,Fh,Ej,B8,D5,Bz,Ek,El,Ah,Aj,B6,C9,A7,Be,Em,Nl,C4,C5,Bf,Bv,C6,Bw,Ck,Bx,C7,Ct,Bg,Ca,Bh,Cb,Bi,Cu,By,Bq,Bj⟩:=⟨
  Fi.d1 fun _ _ _ _ _ _ _=>rfl,
  Ot.d1 fun _ _ _ _ _ _ _=>rfl,
  Ou.d1 fun _ _ _ _ _ _ _=>rfl,
  Ov.d1 fun _ _ _ _ _ _ _=>rfl,
  Nm.d2 fun _ _ _ _ _ _ _ _=>rfl,
  Nn.d1 fun _ _ _ _ _ _ _=>rfl,
  Ow.d1 fun _ _ _ _ _ _ _=>rfl,
  Ox.d1 fun _ _ _ _ _ _ _=>rfl,
  N7.d1 fun _ _ _ _ _ _ _=>rfl,
  Ci.d1 fun _ _ _ _ _ _ _=>rfl,
  Mc.d2 fun _ _ _ _ _ _ _ _=>rfl,
  E5.d1 fun _ _ _ _ _ _ _=>rfl,
  Fj.d1 fun _ _ _ _ _ _ _=>rfl,
  Fk.d2 fun _ _ _ _ _ _ _ _=>rfl,
  E6.d1 fun _ _ _ _ _ _ _=>rfl,
  Fl.d1 fun _ _ _ _ _ _ _=>rfl,
  Fm.d2 fun _ _ _ _ _ _ _ _=>rfl,
  E7.d1 fun _ _ _ _ _ _ _=>rfl,
  Fn.d1 fun _ _ _ _ _ _ _=>rfl,
  Fo.d2 fun _ _ _ _ _ _ _ _=>rfl,
  Md.d1 fun _ _ _ _ _ _ _=>rfl,
  Fp.d2 fun _ _ _ _ _ _ _ _=>rfl,
  Fq.d2 fun _ _ _ _ _ _ _ _=>rfl,
  D6.d1 fun _ _ _ _ _ _ _=>rfl,
  D7.d2 fun _ _ _ _ _ _ _ _=>rfl,
  D8.d3 fun _ _ _ _ _ _ _ _ _=>rfl,
  Fr.d2 fun _ _ _ _ _ _ _ _=>rfl,
  D9.d1 fun _ _ _ _ _ _ _=>rfl,
  Me.d1 fun _ _ _ _ _ _ _=>rfl,
  Mf.d1 fun _ _ _ _ _ _ _=>rfl,
  Mg.d1 fun _ _ _ _ _ _ _=>rfl,
  Fs.d1 fun _ _ _ _ _ _ _=>rfl,
  Ft.d1 fun _ _ _ _ _ _ _=>rfl,
  Mh.d2 fun _ _ _ _ _ _ _ _=>rfl,
  Mi.d3 fun _ _ _ _ _ _ _ _ _=>rfl,
  E8.d2 fun _ _ _ _ _ _ _ _=>rfl,
  Fu.d3 fun _ _ _ _ _ _ _ _ _=>rfl,
  E9.d2 fun _ _ _ _ _ _ _ _=>rfl,
  Fv.d2 fun _ _ _ _ _ _ _ _=>rfl,
  Fw.d3 fun _ _ _ _ _ _ _ _ _=>rfl,
  Ea.d2 fun _ _ _ _ _ _ _ _=>rfl,
  Da.d1 fun _ _ _ _ _ _ _=>rfl,
  Db.d1 fun _ _ _ _ _ _ _=>rfl,
  Dc.d1 fun _ _ _ _ _ _ _=>rfl,
  Dd.d2 fun _ _ _ _ _ _ _ _=>rfl,
  Fx.d2 fun _ _ _ _ _ _ _ _=>rfl,
  Fz.d2 fun _ _ _ _ _ _ _ _=>rfl,
  Mj.d1 fun _ _ _ _ _ _ _=>rfl,
  Ml.d1 fun _ _ _ _ _ _ _=>rfl,
  Eb.d2 fun _ _ _ _ _ _ _ _=>rfl,
  De.d1 fun _ _ _ _ _ _ _=>rfl,
  G9.d2 fun _ _ _ _ _ _ _ _=>rfl,
  Ga.d2 fun _ _ _ _ _ _ _ _=>rfl,
  Gb.d1 fun _ _ _ _ _ _ _=>rfl,
  Mm.d2 fun _ _ _ _ _ _ _ _=>rfl,
  Gc.d2 fun _ _ _ _ _ _ _ _=>rfl,
  Mn.d2 fun _ _ _ _ _ _ _ _=>rfl,
  Mo.d3 fun _ _ _ _ _ _ _ _ _=>rfl,
  Mq.d3 fun _ _ _ _ _ _ _ _ _=>rfl,
  D0.d2 fun _ _ _ _ _ _ _ _=>rfl,
  Dh.d3 fun _ _ _ _ _ _ _ _ _=>rfl,
  Gd.d3 fun _ _ _ _ _ _ _ _ _=>rfl,
  Ge.d4 fun _ _ _ _ _ _ _ _ _ _=>rfl,
  Mr.d1 fun _ _ _ _ _ _ _=>rfl,
  Ec.d1 fun _ _ _ _ _ _ _=>rfl,
  Ms.d1 fun _ _ _ _ _ _ _=>rfl,
  Ed.d3 fun _ _ _ _ _ _ _ _ _=>rfl,
  b,
  yfh.binds (ps:=["self","looks","most"]) (ds:=[.int 1000 Cl]) (j:=2) rfl b O5 rfl fun _ _ _ _ _ _ c d=>match c,d with | [_,_],_=>⟨_,rfl,rfl⟩,
  yfh.binds (ps:=["self","looks","most"]) (ds:=[]) (j:=3) rfl b O5 rfl fun _ _ _ _ _ _ c d=>match c,d with | [_,_,_],_=>⟨_,rfl,rfl⟩,
  Gf.d1 fun _ _ _ _ _ _ _=>rfl,
  Gg.d1 fun _ _ _ _ _ _ _=>rfl,
  Cm.d1 fun _ _ _ _ _ _ _=>rfl,
  a,
  yfh.binds (ps:=["self","name","text","base"]) (ds:=[.none]) (j:=3) rfl a O6 rfl fun _ _ _ _ _ _ c d=>match c,d with | [_,_,_],_=>⟨_,rfl,rfl⟩,
  yfh.binds (ps:=["self","name","text","base"]) (ds:=[]) (j:=4) rfl a O6 rfl fun _ _ _ _ _ _ c d=>match c,d with | [_,_,_,_],_=>⟨_,rfl,rfl⟩,
  ⟨Qn,Qo,Pg⟩,
  Gh.d2 fun _ _ _ _ _ _ _ _=>rfl,
  Gi.d3 fun _ _ _ _ _ _ _ _ _=>rfl,
  Cc.d2 fun _ _ _ _ _ _ _ _=>rfl,
  Gj.d2 fun _ _ _ _ _ _ _ _=>rfl,
  Gk.d2 fun _ _ _ _ _ _ _ _=>rfl,
  Di.d2 fun _ _ _ _ _ _ _ _=>rfl,
  Gm.d2 fun _ _ _ _ _ _ _ _=>rfl,
  Gn.d2 fun _ _ _ _ _ _ _ _=>rfl,
  Mt.d1 fun _ _ _ _ _ _ _=>rfl,
  Mu.d1 fun _ _ _ _ _ _ _=>rfl,
  Mv.d2 fun _ _ _ _ _ _ _ _=>rfl,
  Ee.d1 fun _ _ _ _ _ _ _=>rfl,
  Mw.d1 fun _ _ _ _ _ _ _=>rfl,
  Cj.d2 fun _ _ _ _ _ _ _ _=>rfl,
  Mx.d1 fun _ _ _ _ _ _ _=>rfl,
  My.d1 fun _ _ _ _ _ _ _=>rfl,
  Mz.d2 fun _ _ _ _ _ _ _ _=>rfl,
  N0.d5 fun _ _ _ _ _ _ _ _ _ _ _=>rfl,
  Gp.d4 fun _ _ _ _ _ _ _ _ _ _=>rfl,
  Ef.d2 fun _ _ _ _ _ _ _ _=>rfl,
  Gq.d1 fun _ _ _ _ _ _ _=>rfl,
  Hi.cls,
  W.mg_of X G P9,
  ⟨Hi.mk',E5.m.1,E5.m.2,Hi.kc⟩,
  Al,
  B9,
  Ev.cls,
  W.mg_of X G Nw,
  ⟨Ev.mk',E6.m.1,E6.m.2,Ev.kc⟩,
  As,
  O7.cls,
  W.mg_of X G Pq,
  ⟨O7.mk',E7.m.1,E7.m.2,O7.kc⟩,
  Bk,
  At,
  Pr.cls,
  W.mg_of X G Q9,
  ⟨Pr.mk',E9.m.1,E9.m.2,Pr.kc⟩,
  C0,
  Hj.cls,
  W.mg_of X G Pa,
  ⟨Hj.mk',E8.m.1,E8.m.2,Hj.kc⟩,
  Ba,
  Au,
  Hk.cls,
  W.mg_of X G Pb,
  ⟨Hk.mk',D6.m.1,D6.m.2,Hk.kc⟩,
  Bl,
  Av,
  Bb,
  Ps.cls,
  W.mg_of X G Qa,
  ⟨Ps.mk',Eb.m.1,Eb.m.2,Ps.kc⟩,
  C1,
  C2,
  Bd,
  Aw,
  Pt.cls,
  W.mg_of X G Qb,
  ⟨Pt.mk',Ea.m.1,Ea.m.2,Pt.kc⟩,
  Ar,
  Bm,
  Bn,
  Bo,
  Bp,
  Ax,
  Ew.cls,
  W.mg_of X G Nx,
  ⟨Ew.mk',D0.m.1,D0.m.2,Ew.kc⟩,
  Ad,
  Ao,
  Ap,
  Ex.cls,
  W.mg_of X G Ny,
  ⟨Ex.mk',Ed.m.1,Ed.m.2,Ex.kc⟩,
  Ay,
  Az,
  Ey.cls,
  W.mg_of X G Nz,
  ⟨Ey.mk',Qi,Qj,Ey.kc⟩,
  Ak,
  B0,
  Am,
  Aq,
  W.mg_of X G Qc,
  W.mg_of X G Qd,
  W.mg_of X G Nd,
  W.mg_of X G Qe,
  W.mg_of X G Qf,
  W.mg_of X G Qg,
  W.mg_of X G Qh,
  W.mg_of X G Nf,
  W.mg_of X G Hg,
  W.mg_of X G O0,
  W.mg_of X G Pe,
  W.mg_of X G Hh,
  W.mg_of X G O4,
  Q3,
  Pm,
  Q4,
  Pn,
  Gs,
  Dj,
  Q5,
  Po,
  Q6,
  Pp,
  Q7,
  P7,
  Q8,
  P8,
  Gt,
  Dk,
  Eg,
  Cv,
  N2,
  Ep,
  Nt,
  He,
  Eh,
  Cw,
  N3,
  Er,
  W.mg_none_of X G A5,
  W.mg_none_of X G Gu,
  W.mg_none_of X G Es,
  W.mg_none_of X G An,
  W.mg_none_of X G Cn,
  W.mg_none_of X G Ac,
  W.mg_none_of X G Gv,
  W.mg_none_of X G Gw,
  W.mg_none_of X G N4,
  W.mg_none_of X G Co,
  W.mg_none_of X G Gy,
  W.mg_none_of X G Dl,
  W.mg_none_of X G Nu,
  W.mg_none_of X G Bt,
  W.mg_of X G Pf,
  W.mg_of X G Qr,
  W.mg_of X G Ez,
  W.mg_of X G F0,
  W.mg_of X G Dp,
  W.mg_of X G Dx,
  W.mg_of X G F1,
  W.mg_of X G Dy,
  W.mg_of X G Hl,
  W.mg_of X G Dz,
  W.mg_of X G F3,
  W.mg_of X G Ng,
  W.mg_of X G Dq,
  W.mg_of X G Hb,
  W.mg_of X G Dr,
  W.mg_of X G Hc,
  W.mg_of X G Ds,
  W.mg_of X G Nh,
  W.mg_of X G E4,
  W.mg_of X G O8,
  fun H=>.inr ⟨_,_,_,Hd,rfl,rfl,(by show 3 <= sizeLine; decide),(.cons ⟨_,rfl⟩ (.cons ⟨_,rfl⟩ (.cons ⟨_,rfl⟩ .nil)))⟩,
  ⟨_,Hd,rfl,rfl⟩,
  W.mg_of X G Ni,
  fun H=>.inr ⟨_,_,_,Nj,rfl,rfl,(by show 8 <= sizeLine; decide),(.cons ⟨_,rfl⟩ (.cons ⟨_,rfl⟩ (.cons ⟨_,rfl⟩ (.cons ⟨_,rfl⟩ (.cons ⟨_,rfl⟩ (.cons ⟨_,rfl⟩ (.cons ⟨_,rfl⟩ (.cons ⟨_,rfl⟩ .nil))))))))⟩⟩
 exists Fg,fun s v=>?_,fun base _ _=>yys T;obtain ⟨_,_,_,_,_,_,_,_,_,rfl,_,_⟩:=Gq.F.ex;exact .of_eq rfl
theorem walk {l:W.OpenLaw} {q:Program} {loose:List Str} {XP:(Str->Option Value)->Heap->Prop} {YP:World->Heap->Prop} {d:DefRec} {K:Params->W.Frag} (hn:l.most=some 63) (hdf:d.params.defaults=[])
  (hY:∀ (w:World) (h:Heap),YP w h->(K w.params).In h)
  (F:∀ (w:World) (mg:Str->Option Value) (fa:Addr) (h:Heap),(K w.params).In h->h.Ns mainGlobals mg->mg d.name=some (.ref fa) ->
   ∃ fd:FuncData,(∀ (s:Shared) (u:Value),BindsTo s fd ⟨[u],[]⟩ [("_law_script",u)])/\∀ base:Heap,(K w.params).In base->base.Ns mainGlobals mg->vk l.prog w (K w.params) mg base CX0 15 fa fd ["_law_script"] (ydx (K w.params))) :
  W.WalkO q loose XP YP l.row.toRowW d [] (fun f vs=>PySem.call f vs) :=
 L2.walk_of (n:=63) (k:=15) (x:="_law_script") (CX:=fun _=>CX0) (sp:=fun w=>ydx (K w.params)) hn (by decide) hdf ⟨rfl,by decide,by decide⟩ hY F (fun _ _ a b c _ e=>⟨a,b,rfl,e,c,fun _=>rfl⟩) fun _ _ _ _ _ z=>z
end Law
open PySem PySem.W PyProof.Rows
set_option maxRecDepth 100000 in
set_option maxHeartbeats 0 in
theorem PySem.Challenge.cw_foretell_k50_shelf_holds : PySem.Challenge.rw_foretell_k50_shelf.Holds := by
 refine H0.2 ?_
 unfold H0
 dsimp only []
 k_fill
 refine Law.walk (l := PySem.Challenge.rw_foretell_k50_shelf) rfl rfl (fun w h Y => PySem.W.kIn_of Y) ?F
 case F =>
  intro w mg fa h KX G hmg
  refine' Law.all_mk KX G hmg ?_ ?_ ?_ ?_ ?_ ?_ ?_ ?_ ?_ ?_ ?_ ?_ ?_ ?_ ?_ ?_ ?_ ?_ ?_ ?_ ?_ ?_ ?_ ?_ ?_ ?_ ?_ ?_ ?_ ?_ ?_ ?_ ?_ ?_ ?_ ?_ ?_ ?_ ?_ ?_ ?_ ?_ ?_ ?_ ?_ ?_ ?_ ?_ ?_ ?_ ?_ ?_ ?_ ?_ ?_ ?_ ?_ ?_ ?_ ?_ ?_ ?_ ?_ ?_ ?_ ?_ ?_ ?_ ?_ ?_ ?_ ?_ ?_ ?_ ?_ ?_ ?_ ?_ ?_ ?_ ?_ ?_ ?_ ?_ ?_ ?_ ?_ ?_ ?_ ?_ ?_ ?_ ?_ ?_ ?_ ?_ ?_ ?_ ?_ ?_ ?_ ?_ ?_ ?_ ?_ ?_ ?_ ?_ ?_ ?_ ?_ ?_ ?_ ?_ ?_ ?_ ?_ ?_ ?_ ?_ ?_ ?_ ?_ ?_ ?_ ?_ ?_ ?_ ?_ ?_ ?_ ?_ ?_ ?_ ?_ ?_ ?_ ?_ ?_ ?_ ?_ ?_ ?_ ?_ ?_ ?_ ?_ ?_ ?_ ?_ ?_ ?_ ?_ ?_ ?_ ?_ ?_ ?_ ?_ ?_ ?_ ?_ ?_ ?_ ?_ ?_ ?_ ?_ ?_ ?_ ?_ ?_ ?_ ?_ ?_ ?_ ?_ ?_ ?_ ?_ ?_ ?_ ?_ ?_ ?_ ?_ ?_ ?_ ?_ ?_ ?_ ?_ ?_ ?_ ?_ ?_ ?_ ?_ ?_ ?_ ?_ ?_ ?_ ?_ ?_ ?_ ?_ ?_ ?_ ?_ ?_ ?_ ?_ ?_ ?_ ?_ ?_ ?_ ?_ ?_ ?_ ?_ ?_ ?_ ?_ ?_ ?_ ?_ ?_ ?_ ?_
  any_goals first | (refine' L2.dgf_mk KX G ?_ ?_ ?_ ?_; any_goals k_is; done) | (refine' L2.dgm_mk ?_ ?_ ?_ ?_ ?_; any_goals k_is; done) | (refine' L2.XCls.mk ?_ ?_ ?_ ?_ ?_ ?_ ?_ ?_ <;> k_is) | (refine' L2.KC.mk ?_ ?_ ?_ ?_ ?_ ?_ <;> k_is) | k_is | kit_is | k_exc | (with_reducible show _ = _; first | k_is | k_exc)
#print axioms PySem.Challenge.cw_foretell_k50_shelf_holds
